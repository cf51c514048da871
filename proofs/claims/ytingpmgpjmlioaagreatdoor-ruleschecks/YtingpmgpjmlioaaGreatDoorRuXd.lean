/-
  DERIVED. The document's named.
-/
import Derived.Test.YtingpmgpjmlioaaGreatDoorRuFa
import Derived.Test.YtingpmgpjmlioaaGreatDoorRuJ
import Derived.Test.YtingpmgpjmlioaaGreatDoorRuT
namespace Go.Proofs.YtingpmgpjmlioaaGreatDoor
open Go.RowKit
set_option linter.unusedVariables false

/-- A field that is named has a name. -/
def okN (x : Ex) : Bool := !(nmsX x && !nameB x.s)
theorem allXL_cons (p : Ex → Bool) (y : Ex) (r : List Ex) : allXL p (y :: r) = (allX p y && allXL p r) := by rw [allXL]

set_option maxRecDepth 20000 in
set_option maxHeartbeats 4000000 in
theorem rnamed_any {w0 : World} {x : Ex} {a : Option Addr} {c : Nat} (hat : ExAt w0 x a c) : ∀ w, Below w0.heap.size w0 w → Calls Tryz.prog 71 #[.agg (exV x a c)] w fun e w' => e = .returned (.bool (allX okN x)) ∧ Below w.heap.size w w' := by
  induction hat with
  | mk x a c b off A C h1 h2 h3 hk hn hs hc hr ih =>
    intro w hw
    have hb1 : Below w.heap.size w (w.alloc (.cells (exV x a c) 44)) := (Below.refl _ _).alloc (Nat.le_refl _) _
    have hx1 : XBox (w.alloc (.cells (exV x a c) 44)) w.heap.size x a c := heap_alloc_new _ _
    obtain ⟨w1, hw1⟩ : ∃ w1, w1 = w.alloc (.cells (exV x a c) 44) := ⟨_, rfl⟩
    rw [← hw1] at hb1 hx1
    have HW := hide hw1
    have HB1 := hide hb1
    have m0 : w1.cell? ⟨w.heap.size, 0, none⟩ = some (.int .i64 x.kind) := (hx1.cells).1
    have m2 : w1.cell? ⟨w.heap.size, 2, none⟩ = some (sv x.s) := (hx1.cells).2.2.1
    have HX1 : Hid (∀ W, Below w1.heap.size w1 W → W.cell? ⟨w.heap.size, 3, none⟩ = some (.slice a x.args.length c)) := hide (fun W hW => ((hx1.below hW (Nat.le_refl _)).cells).2.2.2.1)
    have HC : Hid (∀ i, (h : i < x.args.length) → a = some ⟨b, off, none⟩ ∧ ∀ W, Below w1.heap.size w1 W → W.cell? ⟨b, off + i * 4, none⟩ = some (.int .i64 x.args[i].kind) ∧ W.cell? ⟨b, off + i * 4 + 1, none⟩ = some (.int .i64 x.args[i].n) ∧ W.cell? ⟨b, off + i * 4 + 2, none⟩ = some (sv x.args[i].s) ∧ W.cell? ⟨b, off + i * 4 + 3, none⟩ = some (.slice (A i) x.args[i].args.length (C i))) := hide (fun i h => by
      refine ⟨(h3 (by omega)).1, fun W hW => ?_⟩
      have hb0 := hw.trans ((hb1.trans (hW.mono hb1.size)).mono hw.size)
      obtain ⟨q0, q1, q2, q3⟩ := hc i h
      exact ⟨kept hb0 q0, kept hb0 q1, kept hb0 q2, kept hb0 q3⟩)
    have HIH := hide (fun (i : Nat) (h : i < x.args.length) (W : World) (hW : Below w1.heap.size w1 W) => ih i h W (hw.trans ((hb1.trans (hW.mono hb1.size)).mono hw.size)))
    have HOK : Hid (okN x = !(nmsX x && !nameB x.s)) := hide rfl
    have HS := hide hs
    obtain ⟨N, hN⟩ : ∃ N, N = x.args.length := ⟨_, rfl⟩
    have HN := hide hN
    rw [← hN] at HX1 h1
    have HW' : Hid (w1 = w.alloc (.cells #[.int .i64 x.kind, .int .i64 x.n, sv x.s, .slice a N c] 44)) := hide (by rw [hN]; exact unhide HW)
    have harg : exV x a c = #[.int .i64 x.kind, .int .i64 x.n, sv x.s, .slice a N c] := by rw [hN]
    rw [harg]
    obtain ⟨R, hR⟩ : ∃ R, R = allX okN x := ⟨_, rfl⟩
    rw [← hR]
    have HR : Hid (R = (okN x && allXL okN x.args)) := hide (by rw [hR, allX_eq])
    clear hw hb1 hx1 hw1 hc hr ih hN HW harg hR h3 hk hn hs
    go_enter Tryz.func71, Tryz.ntmps71
    go_upto_region 1 with fail
    rw [show w.alloc (.cells #[Value.int IntKind.i64 x.kind, .int .i64 x.n, sv x.s, .slice a N c] 44) = w1 from (unhide HW').symm]
    by_cases hk3 : x.kind = 3
    · have hkn : nmsX x = true := by unfold nmsX; rw [hk3]; rfl
      rw [hk3] at m0; clear hk3
      obtain ⟨NB, hNB⟩ : ∃ NB, NB = nameB x.s := ⟨_, rfl⟩
      have HC2 : Hid (Calls Tryz.prog 12 #[sv x.s] w1 fun e w' => e = .returned (.bool NB) ∧ w1 = w') := hide (by rw [hNB]; exact rName_any x.s w1 (by have := unhide HS; omega))
      have HBs : Hid (Below w1.heap.size w1 w1) := hide (Below.refl _ _)
      have HRn : Hid (R = (NB && allXL okN x.args)) := hide (by rw [unhide HR, unhide HOK, hkn, ← hNB]; cases NB <;> rfl)
      clear HR HOK hkn hNB
      cases NB with
      | true =>
        have HR2 : Hid (R = allXL okN x.args) := hide (by rw [unhide HRn, Bool.true_and])
        go_wp2_with (go_at_call 12; refine (unhide HC2).mono ?_; rintro e w5 ⟨rfl, rfl⟩)
        clear m0 m2 HC2
        go_loopw [4, 5] (fun i _ wr => ∃ (k : Nat), i = .int .i64 (k : Int) ∧ k ≤ N ∧ Hid (R = allXL okN (x.args.drop k)) ∧ Hid (Below w1.heap.size w1 wr)) (fun i _ _ => N - (intOf i).toNat)
        case atStart => exact ⟨0, rfl, by omega, hide (by simpa using unhide HR2), HBs⟩
        case round =>
          obtain ⟨k, rfl, hkN, HA, HB⟩ := hrel
          have z3 := unhide HX1 wr (unhide HB)
          by_cases hlt : k < N
          · have hkl : k < x.args.length := by have := unhide HN; omega
            obtain ⟨ha, hcs⟩ := unhide HC k hkl
            obtain ⟨d0, d1, d2, d3⟩ := hcs wr (unhide HB)
            have HC4 := hide (unhide HIH k hkl wr (unhide HB))
            have HA2 : Hid (R = (allX okN x.args[k] && allXL okN (x.args.drop (k + 1)))) := hide (by
              rw [unhide HA, List.drop_eq_getElem_cons hkl, allXL_cons])
            obtain ⟨y, hy⟩ : ∃ y, y = x.args[k] := ⟨_, rfl⟩
            rw [← hy] at d0 d1 d2 d3 HC4 HA2
            obtain ⟨Q, hQ⟩ : ∃ Q, Q = allX okN y := ⟨_, rfl⟩
            rw [← hQ] at HC4 HA2
            subst ha
            clear hcs hy hQ
            cases Q with
            | true =>
              have HA3 : Hid (R = allXL okN (x.args.drop (k + 1))) := hide (by rw [unhide HA2, Bool.true_and])
              go_wp2_with (go_at_call 71; refine (unhide HC4).mono ?_; rintro e w5 ⟨rfl, b5⟩; have HB5 := hide ((unhide HB).trans (b5.mono (unhide HB).size)); clear b5)
              go_roundw
              case rel => exact ⟨k + 1, by go_num, by omega, HA3, HB5⟩
              case measure => simp [intOf]; omega
            | false =>
              have HA3 : Hid (R = false) := hide (by rw [unhide HA2, Bool.false_and])
              go_wp2_with (go_at_call 71; refine (unhide HC4).mono ?_; rintro e w5 ⟨rfl, b5⟩; have HB5 := hide ((unhide HB).trans (b5.mono (unhide HB).size)); clear b5)
              go_ret
              exact ⟨by rw [unhide HA3]; rfl, (unhide HB1).trans ((unhide HB5).mono (unhide HB1).size)⟩
          · have HX : Hid (R = true) := hide (by rw [unhide HA, List.drop_eq_nil_of_le (by have := unhide HN; omega), allXL])
            have hlt' : decide ((k : Int) < (N : Int)) = false := by simp; omega
            go_wp2_with fail
            go_ret
            exact ⟨by rw [unhide HX]; rfl, (unhide HB1).trans ((unhide HB).mono (unhide HB1).size)⟩
      | false =>
        have HR2 : Hid (R = false) := hide (by rw [unhide HRn, Bool.false_and])
        go_wp2_with (go_at_call 12; refine (unhide HC2).mono ?_; rintro e w5 ⟨rfl, rfl⟩)
        go_ret
        exact ⟨by rw [unhide HR2]; rfl, unhide HB1⟩
    · have hq3 : (x.kind == 3) = false := by simpa using hk3
      by_cases hk4 : x.kind = 4
      · have hkn : nmsX x = true := by unfold nmsX; rw [hk4]; rfl
        rw [hk4] at m0; clear hk4 hk3 hq3
        obtain ⟨NB, hNB⟩ : ∃ NB, NB = nameB x.s := ⟨_, rfl⟩
        have HC2 : Hid (Calls Tryz.prog 12 #[sv x.s] w1 fun e w' => e = .returned (.bool NB) ∧ w1 = w') := hide (by rw [hNB]; exact rName_any x.s w1 (by have := unhide HS; omega))
        have HBs : Hid (Below w1.heap.size w1 w1) := hide (Below.refl _ _)
        have HRn : Hid (R = (NB && allXL okN x.args)) := hide (by rw [unhide HR, unhide HOK, hkn, ← hNB]; cases NB <;> rfl)
        clear HR HOK hkn hNB
        cases NB with
        | true =>
          have HR2 : Hid (R = allXL okN x.args) := hide (by rw [unhide HRn, Bool.true_and])
          go_wp2_with (go_at_call 12; refine (unhide HC2).mono ?_; rintro e w5 ⟨rfl, rfl⟩)
          clear m0 m2 HC2
          go_loopw [4, 5] (fun i _ wr => ∃ (k : Nat), i = .int .i64 (k : Int) ∧ k ≤ N ∧ Hid (R = allXL okN (x.args.drop k)) ∧ Hid (Below w1.heap.size w1 wr)) (fun i _ _ => N - (intOf i).toNat)
          case atStart => exact ⟨0, rfl, by omega, hide (by simpa using unhide HR2), HBs⟩
          case round =>
            obtain ⟨k, rfl, hkN, HA, HB⟩ := hrel
            have z3 := unhide HX1 wr (unhide HB)
            by_cases hlt : k < N
            · have hkl : k < x.args.length := by have := unhide HN; omega
              obtain ⟨ha, hcs⟩ := unhide HC k hkl
              obtain ⟨d0, d1, d2, d3⟩ := hcs wr (unhide HB)
              have HC4 := hide (unhide HIH k hkl wr (unhide HB))
              have HA2 : Hid (R = (allX okN x.args[k] && allXL okN (x.args.drop (k + 1)))) := hide (by
                rw [unhide HA, List.drop_eq_getElem_cons hkl, allXL_cons])
              obtain ⟨y, hy⟩ : ∃ y, y = x.args[k] := ⟨_, rfl⟩
              rw [← hy] at d0 d1 d2 d3 HC4 HA2
              obtain ⟨Q, hQ⟩ : ∃ Q, Q = allX okN y := ⟨_, rfl⟩
              rw [← hQ] at HC4 HA2
              subst ha
              clear hcs hy hQ
              cases Q with
              | true =>
                have HA3 : Hid (R = allXL okN (x.args.drop (k + 1))) := hide (by rw [unhide HA2, Bool.true_and])
                go_wp2_with (go_at_call 71; refine (unhide HC4).mono ?_; rintro e w5 ⟨rfl, b5⟩; have HB5 := hide ((unhide HB).trans (b5.mono (unhide HB).size)); clear b5)
                go_roundw
                case rel => exact ⟨k + 1, by go_num, by omega, HA3, HB5⟩
                case measure => simp [intOf]; omega
              | false =>
                have HA3 : Hid (R = false) := hide (by rw [unhide HA2, Bool.false_and])
                go_wp2_with (go_at_call 71; refine (unhide HC4).mono ?_; rintro e w5 ⟨rfl, b5⟩; have HB5 := hide ((unhide HB).trans (b5.mono (unhide HB).size)); clear b5)
                go_ret
                exact ⟨by rw [unhide HA3]; rfl, (unhide HB1).trans ((unhide HB5).mono (unhide HB1).size)⟩
            · have HX : Hid (R = true) := hide (by rw [unhide HA, List.drop_eq_nil_of_le (by have := unhide HN; omega), allXL])
              have hlt' : decide ((k : Int) < (N : Int)) = false := by simp; omega
              go_wp2_with fail
              go_ret
              exact ⟨by rw [unhide HX]; rfl, (unhide HB1).trans ((unhide HB).mono (unhide HB1).size)⟩
        | false =>
          have HR2 : Hid (R = false) := hide (by rw [unhide HRn, Bool.false_and])
          go_wp2_with (go_at_call 12; refine (unhide HC2).mono ?_; rintro e w5 ⟨rfl, rfl⟩)
          go_ret
          exact ⟨by rw [unhide HR2]; rfl, unhide HB1⟩
      · have hq4 : (x.kind == 4) = false := by simpa using hk4
        have hkn : nmsX x = false := by unfold nmsX; simp [hk3, hk4]
        have HR2 : Hid (R = allXL okN x.args) := hide (by rw [unhide HR, unhide HOK, hkn]; rfl)
        have HBs : Hid (Below w1.heap.size w1 w1) := hide (Below.refl _ _)
        clear HR HOK hkn hk3 hk4
        go_wp2_with fail
        clear m0 m2 hq3 hq4
        go_loopw [4, 5] (fun i _ wr => ∃ (k : Nat), i = .int .i64 (k : Int) ∧ k ≤ N ∧ Hid (R = allXL okN (x.args.drop k)) ∧ Hid (Below w1.heap.size w1 wr)) (fun i _ _ => N - (intOf i).toNat)
        case atStart => exact ⟨0, rfl, by omega, hide (by simpa using unhide HR2), HBs⟩
        case round =>
          obtain ⟨k, rfl, hkN, HA, HB⟩ := hrel
          have z3 := unhide HX1 wr (unhide HB)
          by_cases hlt : k < N
          · have hkl : k < x.args.length := by have := unhide HN; omega
            obtain ⟨ha, hcs⟩ := unhide HC k hkl
            obtain ⟨d0, d1, d2, d3⟩ := hcs wr (unhide HB)
            have HC4 := hide (unhide HIH k hkl wr (unhide HB))
            have HA2 : Hid (R = (allX okN x.args[k] && allXL okN (x.args.drop (k + 1)))) := hide (by
              rw [unhide HA, List.drop_eq_getElem_cons hkl, allXL_cons])
            obtain ⟨y, hy⟩ : ∃ y, y = x.args[k] := ⟨_, rfl⟩
            rw [← hy] at d0 d1 d2 d3 HC4 HA2
            obtain ⟨Q, hQ⟩ : ∃ Q, Q = allX okN y := ⟨_, rfl⟩
            rw [← hQ] at HC4 HA2
            subst ha
            clear hcs hy hQ
            cases Q with
            | true =>
              have HA3 : Hid (R = allXL okN (x.args.drop (k + 1))) := hide (by rw [unhide HA2, Bool.true_and])
              go_wp2_with (go_at_call 71; refine (unhide HC4).mono ?_; rintro e w5 ⟨rfl, b5⟩; have HB5 := hide ((unhide HB).trans (b5.mono (unhide HB).size)); clear b5)
              go_roundw
              case rel => exact ⟨k + 1, by go_num, by omega, HA3, HB5⟩
              case measure => simp [intOf]; omega
            | false =>
              have HA3 : Hid (R = false) := hide (by rw [unhide HA2, Bool.false_and])
              go_wp2_with (go_at_call 71; refine (unhide HC4).mono ?_; rintro e w5 ⟨rfl, b5⟩; have HB5 := hide ((unhide HB).trans (b5.mono (unhide HB).size)); clear b5)
              go_ret
              exact ⟨by rw [unhide HA3]; rfl, (unhide HB1).trans ((unhide HB5).mono (unhide HB1).size)⟩
          · have HX : Hid (R = true) := hide (by rw [unhide HA, List.drop_eq_nil_of_le (by have := unhide HN; omega), allXL])
            have hlt' : decide ((k : Int) < (N : Int)) = false := by simp; omega
            go_wp2_with fail
            go_ret
            exact ⟨by rw [unhide HX]; rfl, (unhide HB1).trans ((unhide HB).mono (unhide HB1).size)⟩
end Go.Proofs.YtingpmgpjmlioaaGreatDoor

namespace Go.Proofs.YtingpmgpjmlioaaGreatDoor
open Go.RowKit
set_option linter.unusedVariables false

/-- What an append to a row of this type keeps: all below, and all of other types. -/
structure Fr (t : TypeId) (base : Nat) (w w' : World) : Prop where
  bel : Below base w w'
  oth : ∀ (g : Nat) (o : Obj), w.heap[g]? = some o → (∀ cur, o ≠ .cells cur t (0, 0)) → w'.heap[g]? = some o
theorem Fr.refl (t : TypeId) (base : Nat) (w : World) : Fr t base w w := ⟨Below.refl _ _, fun _ _ h _ => h⟩
theorem Fr.trans {t : TypeId} {base : Nat} {w w' w2 : World} (h : Fr t base w w') (h2 : Fr t base w' w2) : Fr t base w w2 := ⟨h.bel.trans h2.bel, fun g o hg hn => h2.oth g o (h.oth g o hg hn) hn⟩
theorem Fr.of {t : TypeId} {base : Nat} {w w' : World} (h : Below w.heap.size w w') (hb : base ≤ w.heap.size) : Fr t base w w' := ⟨h.mono hb, fun g o hg _ => (h.block g (lt_of_block hg)).trans hg⟩
theorem Fr.mono {t : TypeId} {base base' : Nat} {w w' : World} (h : Fr t base w w') (hb : base' ≤ base) : Fr t base' w w' := ⟨h.bel.mono hb, h.oth⟩
theorem Fr.row {t t' : TypeId} {base : Nat} {w w' : World} (h : Fr t base w w') (hne : t' ≠ t) {g : Nat} {cur : Array Value} (hg : w.heap[g]? = some (.cells cur t' (0, 0))) : w'.heap[g]? = some (.cells cur t' (0, 0)) := h.oth g _ hg (fun cur' e => by cases e; exact hne rfl)
theorem fr_grown {t : TypeId} {base n size : Nat} {w w' : World} {v : Value} {xs : List Value} (hown : w.ownsRow base t size v n xs) (hbase : base ≤ w.heap.size) (hgr : w.grownBy w' v.ownBlock) : Fr t base w w' := by
  refine ⟨(Below.refl _ _).grown hgr hbase ?_, fun g o hg hn => ?_⟩
  · intro k hk
    rcases hown.2 with ⟨rfl, _⟩ | ⟨g, cap', cur, rfl, hb, _⟩
    · cases hk
    · simp only [Value.ownBlock, Option.some.injEq] at hk; omega
  · refine (hgr.block g (lt_of_block hg) (fun he => ?_)).trans hg
    rcases hown.2 with ⟨rfl, _⟩ | ⟨g', cap', cur', rfl, _, hg', _⟩
    · cases he
    · simp only [Value.ownBlock, Option.some.injEq] at he
      subst he
      rw [hg] at hg'
      exact hn _ (Option.some.inj hg')

/-- A slice reads as these texts. -/
def StL (w : World) (a : Option Addr) (n c : Nat) (l : List (List UInt8)) : Prop := SlOf 1 StAt w (.slice a n c) l
theorem sown_stl {w : World} {base : Nat} {v : Value} {l : List (List UInt8)} (h : SOwn w base v l) : ∃ a c, v = .slice a l.length c ∧ StL w a l.length c l := by
  have hr := h
  obtain ⟨h1, h2⟩ := h
  rcases h2 with ⟨e, h0⟩ | ⟨g, cap, cur, e, hb, hg, hn, hm, _⟩
  · have : l = [] := List.eq_nil_of_length_eq_zero h0
    subst this
    exact ⟨none, 0, e, SlOf.nil w⟩
  · refine ⟨some ⟨g, 0, none⟩, cap, e, _, cap, rfl, hn, by unfold maxLen at hm; omega, fun _ => ⟨g, 0, rfl, lt_of_block hg, fun i x hi => ?_⟩⟩
    rw [e] at hr
    have hil := (List.getElem?_eq_some_iff.1 hi).1
    have := hr.cellAt (0 + i * 1) (by omega)
    refine this.trans ?_
    rw [Nat.zero_add, Nat.mul_one, List.getElem?_map, hi]
    rfl
theorem StL.grown {w w' : World} {a : Option Addr} {n c : Nat} {l : List (List UInt8)} (h : StL w a n c l) (hb : Below w.heap.size w w') : StL w' a n c l := SlOf.grown h (fun _ _ _ _ _ => StAt.grown) hb
theorem StL.news {w : World} {a : Option Addr} {n c : Nat} {l : List (List UInt8)} (h : StL w a n c l) : n = l.length ∧ ∀ ad, a = some ad → ∀ (j : Nat) (u : Value), (l.map sv)[j]? = some u → w.cell? (ad.add j) = some u := by
  obtain ⟨ao, cap, e, h1, h2, h4⟩ := h
  cases e
  refine ⟨rfl, fun ad e j u hj => ?_⟩
  have hjl := (List.getElem?_eq_some_iff.1 hj).1
  rw [List.length_map] at hjl
  obtain ⟨b, off, e2, _, hc⟩ := h4 (by omega)
  rw [e] at e2
  cases e2
  have := hc j _ (List.getElem?_eq_getElem hjl)
  rw [List.getElem?_map, List.getElem?_eq_getElem hjl] at hj
  simp only [Option.map_some, Option.some.injEq] at hj
  rw [← hj]
  rw [Nat.mul_one] at this
  rw [addr_add]
  exact this

theorem StL.isNil {w : World} {n c : Nat} {l : List (List UInt8)} (h : StL w none n c l) : l = [] := by
  obtain ⟨ao, cap, e, h1, h2, h4⟩ := h
  cases e
  by_cases hz : l.length = 0
  · exact List.eq_nil_of_length_eq_zero hz
  · obtain ⟨_, _, e, _⟩ := h4 hz
    cases e
theorem run_none {w : World} (base : Nat) (t ty e : TypeId) (i : TypeInfo) (size : Nat) (ht : Tryz.prog.underlying t = some (.slice e)) (hi : Tryz.prog.info? e = some i) (v : Value) (n : Nat) (xs : List Value) (hown : w.ownsRow base e size v n xs) (c : Nat) :
    (Builtin.append_ #[t, t] ty #[v, .slice none 0 c]).run Tryz.prog w = .ok v w := by
  rcases hown.2 with ⟨rfl, rfl⟩ | ⟨g, cap, cur, rfl, _, _, hnc, _⟩
  · simp [Builtin.append_, run_underlying ht, sizeOf, typeInfo, hi, Builtin.lenOf, Builtin.firstCells]
  · simp [Builtin.append_, run_underlying ht, sizeOf, typeInfo, hi, Builtin.lenOf, Builtin.firstCells, hnc, storeCells]

/-- An append of texts to a row of one's own. -/
theorem wpList_append_sts {w : World} {ops : Array Oper} {rest : List Oper} {o : Oper} {a : Act} {Q : Exit → Act → World → Prop} (hgd : o.guard = none) (s x : Operand)
    (ho : o.op = .call { callee := .builtin .append, args := #[s, x], argTypes := #[72, 72] })
    (base : Nat) (v : Value) (R : List (List UInt8)) (hs : a.eval s = v) (hown : SOwn w base v R) (ya : Option Addr) (n yc : Nat) (m : List (List UInt8)) (hx : a.eval x = .slice ya n yc) (hy : StL w ya n yc m) (hlen : R.length + m.length ≤ 1000000) (hbase : base ≤ w.heap.size)
    (h : ∀ v' w', SOwn w' base v' (R ++ m) → Fr 9 base w w' → wpList Tryz.prog ops Q rest (a.put o.dst v') w') : wpList Tryz.prog ops Q (o :: rest) a w := by
  obtain ⟨i0, hi, hh⟩ := Option.map_eq_some_iff.1 Tryz.infoStr
  simp only [Prod.mk.injEq] at hh
  obtain ⟨rfl, hnews⟩ := hy.news
  cases ya with
  | none =>
    have hm : m = [] := hy.isNil
    subst hm
    refine wpList_plain hgd fun K hK => ?_
    have hrun := run_none (w := w) base 72 o.type 9 i0 1 Tryz.underlying72 hi v R.length (R.map sv) hown yc
    unfold Oper.wp
    simp [execOp, ho, resolve, invoke, builtin, hs, hx, hrun, Result.andThen]
    exact hK _ _ (h v w (by simpa using hown) (Fr.refl _ _ _))
  | some ad =>
    refine wpList_append_own w hgd s x 72 ho base 9 i0 (.string ⟨#[]⟩) 1 16 Tryz.underlying72 hi hh.1 hh.2.1 hh.2.2 rfl (by decide) v R.length (R.map sv) hs hown ad m.length yc (m.map sv) hx (by simp) (hnews ad rfl) (sv_one m) (by unfold maxLen; omega) (by omega) hbase ?_
    intro v' w' ho' hgr _
    exact h v' w' (by unfold SOwn; rw [List.map_append, List.length_append]; exact ho') (fr_grown hown hbase hgr)
theorem stl_one (w : World) (s : List UInt8) : StL (w.alloc (.cells #[sv s] 9)) (some ⟨w.heap.size, 0, none⟩) 1 1 [s] :=
  ⟨_, 1, rfl, by simp, by omega, fun _ => ⟨w.heap.size, 0, rfl, by simp, fun i x hi => by
    rcases i with _ | i
    · simp at hi
      subst hi
      exact (cell_of_row _ _ _ _ _ _ (heap_alloc_new _ _)).trans rfl
    · simp at hi⟩⟩

/-- Expressions in a row of one's own; their arguments lie in the table's world. -/
def EOwn (w0 w : World) (base : Nat) (v : Value) (L : List Ex) : Prop := ∃ ds : List Nd, NRow w base v ds ∧ ds.map Nd.x = L ∧ ∀ d ∈ ds, d.at w0
theorem EOwn.below {w0 : World} {B base : Nat} {w w' : World} {v : Value} {l : List Ex} (h : EOwn w0 w base v l) (hb : Below B w w') (hB : w.heap.size ≤ B) : EOwn w0 w' base v l := by
  obtain ⟨ds, h1, h2, h3⟩ := h
  exact ⟨ds, h1.below hb hB, h2, h3⟩
theorem EOwn.nil (w0 w : World) (base : Nat) : EOwn w0 w base (.slice none 0 0) [] := ⟨[], World.ownsRow_nil _ _ _ _, rfl, fun d hd => by cases hd⟩
theorem SOwn.nil (w : World) (base : Nat) : SOwn w base (.slice none 0 0) [] := World.ownsRow_nil _ _ _ _
theorem EOwn.oth {w0 : World} {t : TypeId} {B base : Nat} {w w' : World} {v : Value} {l : List Ex} (h : EOwn w0 w base v l) (hf : Fr t B w w') (hne : 44 ≠ t) : EOwn w0 w' base v l := by
  obtain ⟨ds, ⟨h1, h2⟩, h3⟩ := h
  refine ⟨ds, ⟨h1, ?_⟩, h3⟩
  rcases h2 with h | ⟨g, cap, cur, a, b, c, r⟩
  · exact .inl h
  · exact .inr ⟨g, cap, cur, a, b, hf.row hne c, r⟩
theorem EOwn.sl {w0 w : World} {base : Nat} {v : Value} {L : List Ex} (h : EOwn w0 w base v L) : ∃ a n c, v = .slice a n c := by
  obtain ⟨ds, ⟨_, h2⟩, _⟩ := h
  rcases h2 with ⟨e, _⟩ | ⟨g, cap, cur, e, _⟩
  · exact ⟨_, _, _, e⟩
  · exact ⟨_, _, _, e⟩
theorem SOwn.sl {w : World} {base : Nat} {v : Value} {L : List (List UInt8)} (h : SOwn w base v L) : ∃ a n c, v = .slice a n c := by
  obtain ⟨_, h2⟩ := h
  rcases h2 with ⟨e, _⟩ | ⟨g, cap, cur, e, _⟩
  · exact ⟨_, _, _, e⟩
  · exact ⟨_, _, _, e⟩
/-- Expressions that are read: where each lies. -/
def ExL (w0 w : World) (a : Option Addr) (n c : Nat) (L : List Ex) : Prop := ∃ ds : List Nd, ds.map Nd.x = L ∧ (∀ d ∈ ds, d.at w0) ∧ n = ds.length ∧ n ≤ c ∧ c ≤ 9223372036854775807 ∧ (a = none → c = 0) ∧ ∀ ad, a = some ad → ad.spot = none ∧ ad.block < w.heap.size ∧ ∀ (j : Nat) (u : Value), (ncs ds)[j]? = some u → w.cell? (ad.add j) = some u
theorem EOwn.exl {w0 w : World} {base : Nat} {v : Value} {L : List Ex} (h : EOwn w0 w base v L) : ∃ a c, v = .slice a L.length c ∧ ExL w0 w a L.length c L := by
  obtain ⟨ds, hr, h2, h3⟩ := h
  have hl : ds.length = L.length := by rw [← h2]; simp
  have hr0 := hr
  obtain ⟨g1, g2⟩ := hr
  rcases g2 with ⟨e, h0⟩ | ⟨g, cap, cur, e, hb, hg, hn, hm, _⟩
  · exact ⟨none, 0, by rw [e, ← hl, h0], ds, h2, h3, hl.symm, by omega, by omega, fun _ => rfl, fun ad e => by cases e⟩
  · refine ⟨some ⟨g, 0, none⟩, cap, by rw [e, ← hl], ds, h2, h3, hl.symm, by omega, by unfold maxLen at hm; omega, fun h => (by cases h), fun ad e2 => ?_⟩
    cases e2
    refine ⟨rfl, lt_of_block hg, fun j u hj => ?_⟩
    have hr0' : NRow w base (.slice (some ⟨g, 0, none⟩) ds.length cap) ds := by rw [← e]; exact hr0
    have := hr0'.cellAt j (by have := (List.getElem?_eq_some_iff.1 hj).1; rw [ncs_len] at this; exact this)
    rw [addr_add, Nat.zero_add]
    exact this.trans hj
theorem ExL.grown {w0 w w' : World} {a : Option Addr} {n c : Nat} {L : List Ex} (h : ExL w0 w a n c L) (hb : Below w.heap.size w w') : ExL w0 w' a n c L := by
  obtain ⟨ds, h1, h2, h3, h4, h5, h6, h7⟩ := h
  refine ⟨ds, h1, h2, h3, h4, h5, h6, fun ad e => ?_⟩
  obtain ⟨q1, q2, q3⟩ := h7 ad e
  exact ⟨q1, Nat.lt_of_lt_of_le q2 hb.size, fun j u hj => kept hb (q3 j u hj)⟩
/-- The i-th one. -/
theorem ExL.get {w0 w : World} {a : Option Addr} {n c : Nat} {L : List Ex} (h : ExL w0 w a n c L) {i : Nat} {x : Ex} (hi : L[i]? = some x) : ∃ b off xa xc, a = some ⟨b, off, none⟩ ∧ w.cell? ⟨b, off + i * 4, none⟩ = some (.int .i64 x.kind) ∧ w.cell? ⟨b, off + i * 4 + 1, none⟩ = some (.int .i64 x.n) ∧ w.cell? ⟨b, off + i * 4 + 2, none⟩ = some (sv x.s) ∧ w.cell? ⟨b, off + i * 4 + 3, none⟩ = some (.slice xa x.args.length xc) ∧ ExAt w0 x xa xc := by
  obtain ⟨ds, h1, h2, h3, h4, h5, h6, h7⟩ := h
  subst h1
  rw [List.getElem?_map] at hi
  obtain ⟨d, hd, rfl⟩ := Option.map_eq_some_iff.1 hi
  obtain ⟨hl, rfl⟩ := List.getElem?_eq_some_iff.1 hd
  cases a with
  | none => have := h6 rfl; omega
  | some ad =>
    obtain ⟨q1, q2, q3⟩ := h7 ad rfl
    obtain ⟨b, off, sp⟩ := ad
    simp only at q1
    subst q1
    obtain ⟨g0, g1, g2, g3⟩ := ncs_get ds i hl
    have e : ∀ j, (⟨b, off, none⟩ : Addr).add j = ⟨b, off + j, none⟩ := fun j => addr_add _ _ _
    refine ⟨b, off, ds[i].a, ds[i].c, rfl, ?_, ?_, ?_, ?_, h2 _ (List.getElem_mem hl)⟩
    · have := q3 _ _ g0; rwa [e] at this
    · have := q3 _ _ g1; rwa [e, ← Nat.add_assoc] at this
    · have := q3 _ _ g2; rwa [e, ← Nat.add_assoc] at this
    · have := q3 _ _ g3; rwa [e, ← Nat.add_assoc] at this
/-- An append of expressions. -/
theorem wpList_append_exs {w0 w : World} {ops : Array Oper} {rest : List Oper} {o : Oper} {a : Act} {Q : Exit → Act → World → Prop} (hgd : o.guard = none) (s x : Operand)
    (ho : o.op = .call { callee := .builtin .append, args := #[s, x], argTypes := #[42, 42] })
    (base : Nat) (v : Value) (R : List Ex) (hs : a.eval s = v) (hown : EOwn w0 w base v R) (ya : Option Addr) (n yc : Nat) (m : List Ex) (hx : a.eval x = .slice ya n yc) (hy : ExL w0 w ya n yc m) (hlen : R.length + m.length ≤ 1000000) (hbase : base ≤ w.heap.size)
    (h : ∀ v' w', EOwn w0 w' base v' (R ++ m) → Fr 44 base w w' → wpList Tryz.prog ops Q rest (a.put o.dst v') w') : wpList Tryz.prog ops Q (o :: rest) a w := by
  obtain ⟨i0, hi, hh⟩ := Option.map_eq_some_iff.1 Tryz.infoExpr
  simp only [Prod.mk.injEq] at hh
  obtain ⟨rs, hrow, rfl, hrs⟩ := hown
  obtain ⟨ds, rfl, h2, rfl, h4, h5, h6, h7⟩ := hy
  rw [List.length_map, List.length_map] at hlen
  have hall : ∀ d ∈ rs ++ ds, d.at w0 := fun d hd => by
    rcases List.mem_append.1 hd with hd | hd
    · exact hrs d hd
    · exact h2 d hd
  cases ya with
  | none =>
    have hc := h6 rfl
    subst hc
    have hm : ds = [] := List.eq_nil_of_length_eq_zero (by omega)
    subst hm
    refine wpList_append_own_none hgd s x 42 ho base 44 i0 4 Tryz.underlying42 hi v rs.length (ncs rs) hs hrow hx ?_
    exact h v w ⟨rs, hrow, by simp, hrs⟩ (Fr.refl _ _ _)
  | some ad =>
    refine wpList_append_own w hgd s x 42 ho base 44 i0 _ 4 56 Tryz.underlying42 hi hh.1 hh.2.1 hh.2.2 rfl (by decide) v rs.length (ncs rs) hs hrow ad ds.length yc (ncs ds) hx (by rw [ncs_len]) (h7 ad rfl).2.2 (ncs_one ds) (by unfold maxLen; omega) (by omega) hbase ?_
    intro v' w' ho' hgr _
    exact h v' w' ⟨rs ++ ds, by unfold NRow; rw [ncs_append, List.length_append]; exact ho', by simp, hall⟩ (fr_grown hrow hbase hgr)
theorem exl_one {w0 : World} (w : World) (x : Ex) (a : Option Addr) (c : Nat) (h : ExAt w0 x a c) : ExL w0 (w.alloc (.cells (exV x a c) 44)) (some ⟨w.heap.size, 0, none⟩) 1 1 [x] := by
  refine ⟨[⟨x, a, c⟩], rfl, fun d hd => ?_, rfl, by omega, by omega, fun h => (by cases h), fun ad e => ?_⟩
  · rw [List.mem_singleton.1 hd]; exact h
  · cases e
    refine ⟨rfl, by simp, fun j u hj => ?_⟩
    rw [addr_add, Nat.zero_add]
    refine (cell_of_row _ _ _ _ _ _ (heap_alloc_new _ _)).trans ?_
    rw [← hj]
    simp [ncs]
end Go.Proofs.YtingpmgpjmlioaaGreatDoor

namespace Go.Proofs.YtingpmgpjmlioaaGreatDoor
open Go.RowKit
set_option linter.unusedVariables false

set_option maxRecDepth 20000 in
set_option maxHeartbeats 4000000 in
theorem rhasD_any (d : Cd) (a : Option Addr) (c : Nat) (a' : Option Addr) (c' : Nat) (w : World) : Calls Tryz.prog 25 #[.agg (cdV d a c a' c')] w fun e w' => e = .returned (.bool (!badCond d)) ∧ Below w.heap.size w w' := by
  have hb1 : Below w.heap.size w (w.alloc (.cells (cdV d a c a' c') 46)) := (Below.refl _ _).alloc (Nat.le_refl _) _
  have hx1 : CBox (w.alloc (.cells (cdV d a c a' c') 46)) w.heap.size d a c a' c' := heap_alloc_new _ _
  obtain ⟨w1, hw1⟩ : ∃ w1, w1 = w.alloc (.cells (cdV d a c a' c') 46) := ⟨_, rfl⟩
  rw [← hw1] at hb1 hx1
  have HW := hide hw1
  have HB1 := hide hb1
  have m0 : w1.cell? ⟨w.heap.size, 0, none⟩ = some (.int .i64 d.kind) := hx1.cells.1.1
  have m2 : w1.cell? ⟨w.heap.size, 2, none⟩ = some (.int .i64 d.A.kind) := hx1.cells.2.1.1
  obtain ⟨R, hR⟩ : ∃ R, R = !badCond d := ⟨_, rfl⟩
  rw [← hR]
  have HR : Hid (R = !(decide (d.kind < 1) || decide (4 < d.kind) || (decide (d.kind = 4) && !nmsX d.A))) := hide (by rw [hR]; rfl)
  clear hb1 hx1 hw1 hR
  go_enter Tryz.func25, Tryz.ntmps25
  go_upto_region 1 with fail
  rw [show w.alloc (.cells #[Value.int IntKind.i64 d.kind, .bool d.neg, .int .i64 d.A.kind, .int .i64 d.A.n, sv d.A.s, .slice a d.A.args.length c, .int .i64 d.B.kind, .int .i64 d.B.n, sv d.B.s, .slice a' d.B.args.length c'] 46) = w1 from (unhide HW).symm]
  by_cases hk4 : d.kind = 4
  · by_cases h3 : d.A.kind = 3
    · have HR2 : Hid (R = true) := hide (by rw [unhide HR, hk4]; unfold nmsX; rw [h3]; rfl)
      rw [hk4] at m0
      rw [h3] at m2
      clear HR hk4 h3
      go_wp2_with fail
      go_ret
      exact ⟨by rw [unhide HR2]; rfl, unhide HB1⟩
    · have q3 : (d.A.kind == 3) = false := by simpa using h3
      by_cases h4 : d.A.kind = 4
      · have HR2 : Hid (R = true) := hide (by rw [unhide HR, hk4]; unfold nmsX; rw [h4]; rfl)
        rw [hk4] at m0
        rw [h4] at m2
        clear HR hk4 h3 q3 h4
        go_wp2_with fail
        go_ret
        exact ⟨by rw [unhide HR2]; rfl, unhide HB1⟩
      · have q4 : (d.A.kind == 4) = false := by simpa using h4
        have HR2 : Hid (R = false) := hide (by rw [unhide HR, hk4]; unfold nmsX; rw [q3, q4]; rfl)
        rw [hk4] at m0
        clear HR hk4 h3 h4
        go_wp2_with fail
        go_ret
        exact ⟨by rw [unhide HR2]; rfl, unhide HB1⟩
  · have q4 : (d.kind == 4) = false := by simpa using hk4
    by_cases h1 : d.kind = 1
    · have HR2 : Hid (R = true) := hide (by rw [unhide HR, h1]; rfl)
      rw [h1] at m0
      clear HR hk4 q4 h1 m2
      go_wp2_with fail
      go_ret
      exact ⟨by rw [unhide HR2]; rfl, unhide HB1⟩
    · have q1 : (d.kind == 1) = false := by simpa using h1
      by_cases h2 : d.kind = 2
      · have HR2 : Hid (R = true) := hide (by rw [unhide HR, h2]; rfl)
        rw [h2] at m0
        clear HR hk4 q4 h1 q1 h2 m2
        go_wp2_with fail
        go_ret
        exact ⟨by rw [unhide HR2]; rfl, unhide HB1⟩
      · have q2 : (d.kind == 2) = false := by simpa using h2
        by_cases h3 : d.kind = 3
        · have HR2 : Hid (R = true) := hide (by rw [unhide HR, h3]; rfl)
          rw [h3] at m0
          clear HR hk4 q4 h1 q1 h2 q2 h3 m2
          go_wp2_with fail
          go_ret
          exact ⟨by rw [unhide HR2]; rfl, unhide HB1⟩
        · have q3 : (d.kind == 3) = false := by simpa using h3
          have HR2 : Hid (R = false) := hide (by
            rw [unhide HR]
            by_cases hl : d.kind < 1
            · simp [hl]
            · have : 4 < d.kind := by omega
              simp [this])
          clear HR hk4 h1 h2 h3 m2
          go_wp2_with fail
          go_ret
          exact ⟨by rw [unhide HR2]; rfl, unhide HB1⟩

theorem StL.at {w : World} {a : Option Addr} {n c : Nat} {l : List (List UInt8)} (h : StL w a n c l) {i : Nat} {x : List UInt8} (hi : l[i]? = some x) : ∃ b off, a = some ⟨b, off, none⟩ ∧ b < w.heap.size ∧ StAt w b (off + i * 1) x := SlOf.at h hi
theorem StL.len' {w : World} {a : Option Addr} {n c : Nat} {l : List (List UInt8)} (h : StL w a n c l) : n = l.length ∧ l.length ≤ c ∧ c ≤ 9223372036854775807 := SlOf.len h
theorem SlOf.lt {α : Type} {sz : Nat} {At : World → Nat → Nat → α → Prop} {w : World} {a : Option Addr} {n c : Nat} {l : List α} (h : SlOf sz At w (.slice a n c) l) {k : Nat} (hk : k < n) : ∃ x, l[k]? = some x := by
  obtain ⟨e, _⟩ := h.len
  exact ⟨_, List.getElem?_eq_getElem (by omega)⟩

set_option maxRecDepth 20000 in
set_option maxHeartbeats 4000000 in
theorem rsets_any (w0 : World) (a : Option Addr) (n c : Nat) (l : List As) (hl : SlOf 5 AsAt w0 (.slice a n c) l) (h16 : n ≤ 16) (w : World) (hw : Below w0.heap.size w0 w) :
    Calls Tryz.prog 72 #[.slice a n c] w fun e w' => ∃ v, e = .returned v ∧ EOwn w0 w' w.heap.size v (l.map (·.e)) ∧ Below w.heap.size w w' := by
  have hn := hl.len.1
  have HL := hide hl
  have HW := hide hw
  have HN := hide hn
  have HO0 := hide (EOwn.nil w0 w w.heap.size)
  have HB0 := hide (Below.refl w.heap.size w)
  clear hl hw hn
  go_enter Tryz.func72, Tryz.ntmps72
  go_wp2_with fail
  go_loopw [3, 4] (fun v i wr => ∃ (k : Nat) (ra : Option Addr) (rn rc : Nat), k ≤ n ∧ i = .int .i64 (k : Int) ∧ v = .slice ra rn rc ∧ Hid (EOwn w0 wr w.heap.size (.slice ra rn rc) ((l.take k).map (·.e))) ∧ Hid (Below w.heap.size w wr)) (fun _ i _ => n - (intOf i).toNat)
  case atStart => exact ⟨0, none, 0, 0, by omega, rfl, rfl, by simpa using HO0, HB0⟩
  case round =>
    obtain ⟨k, ra, rn, rc, hk, rfl, rfl, HO, HB⟩ := hrel
    by_cases hlt : k < n
    · obtain ⟨x, hx⟩ := (unhide HL).lt hlt
      obtain ⟨b, off, rfl, _, hnm, h0, h1, h2, xa, xc, h3, hat⟩ := (unhide HL).at hx
      have hb := (unhide HW).trans ((unhide HB).mono (unhide HW).size)
      have z0 := kept hb h0
      have z1 := kept hb h1
      have z2 := kept hb h2
      have z3 := kept hb h3
      have HX : Hid ((l.take (k + 1)).map (·.e) = (l.take k).map (·.e) ++ [x.e]) := hide (by rw [List.take_add_one, hx]; simp)
      have hki : (k : Int) < (n : Int) := by omega
      have hk0 : ¬ (k : Int) < 0 := by omega
      obtain ⟨M, hM⟩ : ∃ M, M = x.e.args.length := ⟨_, rfl⟩
      have HE : Hid (∀ W : World, ExL w0 (W.alloc (.cells #[.int .i64 x.e.kind, .int .i64 x.e.n, sv x.e.s, .slice xa M xc] 44)) (some ⟨W.heap.size, 0, none⟩) 1 1 [x.e]) := hide (fun W => by rw [hM]; exact exl_one W x.e xa xc hat)
      rw [← hM] at z3
      have HBA : Hid (Below wr.heap.size wr (wr.alloc (.cells #[.int .i64 x.e.kind, .int .i64 x.e.n, sv x.e.s, .slice xa M xc] 44))) := hide ((Below.refl _ _).alloc (Nat.le_refl _) _)
      have HLn : Hid (((l.take k).map (·.e)).length ≤ 16) := hide (by rw [List.length_map, List.length_take]; omega)
      clear hnm h0 h1 h2 h3 hat hb hM hx
      go_wp2_with (at_builtin; refine wpList_append_exs (w0 := w0) rfl (.tmp 11) (.tmp 17) rfl w.heap.size _ _ rfl ((unhide HO).below (unhide HBA) (Nat.le_refl _)) _ 1 1 [x.e] rfl (unhide HE wr) (by have := unhide HLn; simp only [List.length_singleton]; omega) (by have := (unhide HB).size; have := (unhide HBA).size; omega) ?_; intro v5 w5 o5 b5; obtain ⟨ra5, rn5, rc5, rfl⟩ := o5.sl; have HO5 := hide o5; have HB5 := hide ((unhide HB).trans (((unhide HBA).mono (unhide HB).size).trans b5.bel)); clear o5 b5)
      go_roundw
      case rel => exact ⟨k + 1, _, _, _, by omega, by go_num, rfl, by rw [unhide HX]; exact HO5, HB5⟩
      case measure => simp [intOf]; omega
    · have hkn : k = n := by omega
      have HX : Hid (EOwn w0 wr w.heap.size (.slice ra rn rc) (l.map (·.e))) := hide (by have := unhide HO; rwa [List.take_of_length_le (by have := unhide HN; omega)] at this)
      have hki : ¬ (k : Int) < (n : Int) := by omega
      clear hkn hlt HO
      go_wp2_with fail
      go_ret
      exact ⟨_, rfl, unhide HX, unhide HB⟩
set_option maxRecDepth 20000 in
set_option maxHeartbeats 4000000 in
theorem rsetNames_any (w0 : World) (a : Option Addr) (n c : Nat) (l : List As) (hl : SlOf 5 AsAt w0 (.slice a n c) l) (h16 : n ≤ 16) (w : World) (hw : Below w0.heap.size w0 w) :
    Calls Tryz.prog 70 #[.slice a n c] w fun e w' => ∃ v, e = .returned v ∧ SOwn w' w.heap.size v (l.map (·.nm)) ∧ Below w.heap.size w w' := by
  have hn := hl.len.1
  have HL := hide hl
  have HW := hide hw
  have HN := hide hn
  have HO0 := hide (SOwn.nil w w.heap.size)
  have HB0 := hide (Below.refl w.heap.size w)
  clear hl hw hn
  go_enter Tryz.func70, Tryz.ntmps70
  go_wp2_with fail
  go_loopw [3, 4] (fun v i wr => ∃ (k : Nat) (ra : Option Addr) (rn rc : Nat), k ≤ n ∧ i = .int .i64 (k : Int) ∧ v = .slice ra rn rc ∧ Hid (SOwn wr w.heap.size (.slice ra rn rc) ((l.take k).map (·.nm))) ∧ Hid (Below w.heap.size w wr)) (fun _ i _ => n - (intOf i).toNat)
  case atStart => exact ⟨0, none, 0, 0, by omega, rfl, rfl, by simpa using HO0, HB0⟩
  case round =>
    obtain ⟨k, ra, rn, rc, hk, rfl, rfl, HO, HB⟩ := hrel
    by_cases hlt : k < n
    · obtain ⟨x, hx⟩ := (unhide HL).lt hlt
      obtain ⟨b, off, rfl, _, hnm, h0, h1, h2, xa, xc, h3, hat⟩ := (unhide HL).at hx
      have hb := (unhide HW).trans ((unhide HB).mono (unhide HW).size)
      have z0 := kept hb hnm
      have HX : Hid ((l.take (k + 1)).map (·.nm) = (l.take k).map (·.nm) ++ [x.nm]) := hide (by rw [List.take_add_one, hx]; simp)
      have hki : (k : Int) < (n : Int) := by omega
      have hk0 : ¬ (k : Int) < 0 := by omega
      have HE := hide (fun W : World => stl_one W x.nm)
      have HBA : Hid (Below wr.heap.size wr (wr.alloc (.cells #[sv x.nm] 9))) := hide ((Below.refl _ _).alloc (Nat.le_refl _) _)
      have HLn : Hid (((l.take k).map (·.nm)).length ≤ 16) := hide (by rw [List.length_map, List.length_take]; omega)
      clear hnm h0 h1 h2 h3 hat hb hx
      go_wp2_with (at_builtin; refine wpList_append_sts rfl (.tmp 11) (.tmp 17) rfl w.heap.size _ _ rfl ((unhide HO).below (unhide HBA) (Nat.le_refl _)) _ 1 1 [x.nm] rfl (unhide HE wr) (by have := unhide HLn; simp only [List.length_singleton]; omega) (by have := (unhide HB).size; have := (unhide HBA).size; omega) ?_; intro v5 w5 o5 b5; obtain ⟨ra5, rn5, rc5, rfl⟩ := o5.sl; have HO5 := hide o5; have HB5 := hide ((unhide HB).trans (((unhide HBA).mono (unhide HB).size).trans b5.bel)); clear o5 b5)
      go_roundw
      case rel => exact ⟨k + 1, _, _, _, by omega, by go_num, rfl, by rw [unhide HX]; exact HO5, HB5⟩
      case measure => simp [intOf]; omega
    · have hkn : k = n := by omega
      have HX : Hid (SOwn wr w.heap.size (.slice ra rn rc) (l.map (·.nm))) := hide (by have := unhide HO; rwa [List.take_of_length_le (by have := unhide HN; omega)] at this)
      have hki : ¬ (k : Int) < (n : Int) := by omega
      clear hkn hlt HO
      go_wp2_with fail
      go_ret
      exact ⟨_, rfl, unhide HX, unhide HB⟩

/-- All names may be, and no two are the same. -/
theorem apartD_iff (l : List (List UInt8)) : apartT l = true ↔ ∀ i (h : i < l.length), nameB l[i] = true ∧ ∀ k (hk : k < i), l[k] ≠ l[i] := by
  have hd : ∀ l : List (List UInt8), distinctT l = true ↔ l.Pairwise (· ≠ ·) := fun l => by
    induction l with
    | nil => simp [distinctT]
    | cons a r ih =>
      rw [distinctT, Bool.and_eq_true, ih, List.pairwise_cons]
      simp
      intro _
      exact ⟨fun h b hb e => h (e ▸ hb), fun h hb => h a hb rfl⟩
  unfold apartT
  rw [Bool.and_eq_true, hd, List.all_eq_true, List.pairwise_iff_getElem]
  constructor
  · intro ⟨h1, h2⟩ i hi
    exact ⟨h1 _ (List.getElem_mem hi), fun k hk => h2 k i (by omega) hi hk⟩
  · intro h
    refine ⟨fun x hx => ?_, fun i j hi hj hij => (h j hj).2 i hij⟩
    obtain ⟨i, hi, rfl⟩ := List.mem_iff_getElem.1 hx
    exact (h i hi).1

set_option maxRecDepth 20000 in
set_option maxHeartbeats 4000000 in
theorem rtwice_any (a : Option Addr) (n c : Nat) (l : List (List UInt8)) (w : World) (hl : StL w a n c l) (hs : ∀ s ∈ l, s.length ≤ 9223372036854775807) (hn : n ≤ 1000000) :
    Calls Tryz.prog 69 #[.slice a n c] w fun e w' => e = .returned (.bool (!apartT l)) ∧ Below w.heap.size w w' := by
  have hnl := hl.len'.1
  have HL := hide hl
  have HS := hide hs
  have HN := hide hnl
  obtain ⟨R, hR⟩ : ∃ R, R = !apartT l := ⟨_, rfl⟩
  rw [← hR]
  have HRt : Hid ((∃ i, ∃ h : i < l.length, nameB l[i] = false ∨ ∃ k, ∃ hk : k < i, l[k] = l[i]) → R = true) := hide (fun ⟨i, h, q⟩ => by
    rw [hR]
    cases ha : apartT l with
    | false => rfl
    | true =>
      obtain ⟨h1, h2⟩ := (apartD_iff l).1 ha i h
      rcases q with q | ⟨k, hk, q⟩
      · rw [q] at h1; cases h1
      · exact absurd q (h2 k hk))
  have HRf : Hid ((∀ i (h : i < l.length), nameB l[i] = true ∧ ∀ k (hk : k < i), l[k] ≠ l[i]) → R = false) := hide (fun h => by rw [hR, (apartD_iff l).2 h]; rfl)
  have HB0 := hide (Below.refl w.heap.size w)
  clear hl hs hnl hR
  go_enter Tryz.func69, Tryz.ntmps69
  go_wp2_with fail
  go_loopw [3, 4, 5] (fun i _ _ wr => ∃ (k : Nat), k ≤ n ∧ i = .int .i64 (k : Int) ∧ Hid (∀ i (h : i < l.length), i < k → nameB l[i] = true ∧ ∀ j (hj : j < i), l[j] ≠ l[i]) ∧ Hid (Below w.heap.size w wr)) (fun i _ _ _ => n - (intOf i).toNat)
  case atStart => exact ⟨0, by omega, rfl, hide (fun i _ h => by omega), HB0⟩
  case round =>
    obtain ⟨k, hk, rfl, HA, HB⟩ := hrel
    by_cases hlt : k < n
    · have hkl : k < l.length := by have := unhide HN; omega
      obtain ⟨b, off, rfl, _, h0⟩ := (unhide HL).at (List.getElem?_eq_getElem hkl)
      rw [Nat.mul_one] at h0
      have HCl : Hid (∀ j (h : j < l.length) W, Below w.heap.size w W → W.cell? ⟨b, off + j, none⟩ = some (sv l[j])) := hide (fun j h W hW => by
        obtain ⟨b', off', e, _, hj⟩ := (unhide HL).at (List.getElem?_eq_getElem h)
        cases e
        rw [Nat.mul_one] at hj
        exact kept hW hj)
      have z0 := unhide HCl k hkl wr (unhide HB)
      obtain ⟨s, hs⟩ : ∃ s, s = l[k] := ⟨_, rfl⟩
      rw [← hs] at z0
      have HSe := hide hs
      obtain ⟨NB, hNB⟩ : ∃ NB, NB = nameB s := ⟨_, rfl⟩
      have HNB := hide hNB
      have HC2 : Hid (Calls Tryz.prog 12 #[sv s] wr fun e w' => e = .returned (.bool NB) ∧ wr = w') := hide (by rw [hNB]; exact rName_any s wr (unhide HS s (by rw [hs]; exact List.getElem_mem hkl)))
      have hki : (k : Int) < (n : Int) := by omega
      have hk0 : ¬ (k : Int) < 0 := by omega
      clear h0 hs hNB
      cases NB with
      | false =>
        have HX : Hid (R = true) := hide (unhide HRt ⟨k, hkl, .inl (by rw [← unhide HSe]; exact (unhide HNB).symm)⟩)
        go_wp2_with (go_at_call 12; refine (unhide HC2).mono ?_; rintro e w5 ⟨rfl, rfl⟩)
        go_ret
        exact ⟨by rw [unhide HX]; rfl, unhide HB⟩
      | true =>
        go_wp2_with (first | (go_at_call 12; refine (unhide HC2).mono ?_; rintro e w5 ⟨rfl, rfl⟩) | fail)
        go_loopw [5] (fun i wq => ∃ (j : Nat), j ≤ k ∧ i = .int .i64 (j : Int) ∧ Hid (∀ i (h : i < k), i < j → l[i]'(by omega) ≠ l[k]) ∧ Hid (Below w.heap.size w wq)) (fun i _ => k - (intOf i).toNat)
        case atStart => exact ⟨0, by omega, rfl, hide (fun i _ h => by omega), HB⟩
        case round =>
          clear HB z0 HC2
          obtain ⟨j, hj, rfl, HJ, HB⟩ := hrel
          rename World => W1
          by_cases hjk : j < k
          · have hjl : j < l.length := by omega
            have y0 := unhide HCl j hjl W1 (unhide HB)
            have y1 := unhide HCl k hkl W1 (unhide HB)
            obtain ⟨s1, hs1⟩ : ∃ s1, s1 = l[j] := ⟨_, rfl⟩
            rw [← hs1] at y0
            rw [← unhide HSe] at y1
            have hji : (j : Int) < (k : Int) := by omega
            have hj0 : ¬ (j : Int) < 0 := by omega
            have hjn : (j : Int) < (n : Int) := by omega
            have HBd : Hid (∀ nq, Below w.heap.size w (W1.drewN nq)) := hide (fun nq => (unhide HB).trans ((⟨rfl, rfl, rfl, Nat.le_refl _, fun _ _ => rfl⟩ : Below W1.heap.size W1 (W1.drewN nq)).mono (unhide HB).size))
            by_cases he : s1 = s
            · have HX : Hid (R = true) := hide (unhide HRt ⟨k, hkl, .inr ⟨j, hjk, by rw [← hs1, he, unhide HSe]⟩⟩)
              subst he
              clear hs1
              go_wp2
              go_quiet (fail)
              go_wp2
              go_ret
              exact ⟨by rw [unhide HX]; rfl, unhide HBd _⟩
            · have hne : (s1.toArray.toList == s.toArray.toList) = false := by simpa using he
              have HJ2 : Hid (∀ i (h : i < k), i < j + 1 → l[i]'(by omega) ≠ l[k]) := hide (fun i h hi => by
                by_cases e : i = j
                · subst e; rw [← hs1, ← unhide HSe]; exact he
                · exact unhide HJ i h (by omega))
              clear hs1 he
              go_wp2
              go_quiet (fail)
              go_wp2
              go_roundw
              case rel => exact ⟨j + 1, by omega, by go_num, HJ2, hide (unhide HBd _)⟩
              case measure => simp [intOf]; omega
          · have hji : ¬ (j : Int) < (k : Int) := by omega
            have hjk' : j = k := by omega
            have HA2 : Hid (∀ i (h : i < l.length), i < k + 1 → nameB l[i] = true ∧ ∀ j (hj : j < i), l[j] ≠ l[i]) := hide (fun i h hi => by
              by_cases e : i = k
              · subst e
                exact ⟨by rw [← unhide HSe]; exact (unhide HNB).symm, fun q hq => unhide HJ q hq (by omega)⟩
              · exact unhide HA i h (by omega))
            clear hjk' hjk
            go_wp2
            go_roundw
            case rel => exact ⟨k + 1, by omega, by go_num, HA2, HB⟩
            case measure => simp [intOf]; omega
    · have HX : Hid (R = false) := hide (unhide HRf (fun i h => unhide HA i h (by have := unhide HN; omega)))
      have hki : ¬ (k : Int) < (n : Int) := by omega
      go_wp2_with fail
      go_ret
      exact ⟨by rw [unhide HX]; rfl, unhide HB⟩
end Go.Proofs.YtingpmgpjmlioaaGreatDoor

namespace Go.Proofs.YtingpmgpjmlioaaGreatDoor
open Go.RowKit
set_option linter.unusedVariables false

/-- The expressions of a case, of a handler, of a table, in the order in which they are found. -/
def setsE (l : List As) : List Ex := l.map (·.e)
def emitE (m : Em) : List Ex := setsE m.sets
def caseE (c : Cs) : List Ex := c.whn.flatMap cdExP ++ c.emits.flatMap emitE
def handE (h : Ha) : List Ex := h.cases.flatMap caseE
def evoE (v : Evo) : List Ex := setsE v.sets
def exprsD (hs : List Ha) (vs : List Evo) : List Ex := hs.flatMap handE ++ vs.flatMap evoE
/-- A table that is not too great. -/
structure SmT (hs : List Ha) (vs : List Evo) : Prop where
  h : hs.length ≤ 32
  v : vs.length ≤ 32
  c : ∀ x ∈ hs, x.needs.length ≤ 16 ∧ x.cases.length ≤ 16 ∧ ∀ c ∈ x.cases, c.whn.length ≤ 16 ∧ c.emits.length ≤ 16 ∧ ∀ m ∈ c.emits, m.sets.length ≤ 16
  e : ∀ x ∈ vs, x.sets.length ≤ 16 ∧ x.drops.length ≤ 16
theorem len_flat {α β : Type} {f : α → List β} {b : Nat} : ∀ (l : List α), (∀ x ∈ l, (f x).length ≤ b) → (l.flatMap f).length ≤ l.length * b
  | [], _ => by simp
  | x :: r, h => by
    rw [List.flatMap_cons, List.length_append, List.length_cons, Nat.add_mul, Nat.one_mul]
    have h1 := h x (by simp)
    have h2 := len_flat r (fun y hy => h y (by simp [hy]))
    omega
theorem cdEx_len (d : Cd) : (cdExP d).length ≤ 2 := by unfold cdExP; split <;> simp
theorem take_flat {α β : Type} (f : α → List β) {l : List α} {k : Nat} {x : α} (h : l[k]? = some x) : (l.take (k + 1)).flatMap f = (l.take k).flatMap f ++ f x := by rw [List.take_add_one, h]; simp
theorem take_flat_all {α β : Type} (f : α → List β) {l : List α} {k : Nat} (h : l.length ≤ k) : (l.take k).flatMap f = l.flatMap f := by rw [List.take_of_length_le h]
theorem flat_le {α β : Type} {f : α → List β} {b n : Nat} {l : List α} (k : Nat) (hl : l.length ≤ n) (h : ∀ x ∈ l, (f x).length ≤ b) : ((l.take k).flatMap f).length ≤ n * b := by
  have h1 := len_flat (l.take k) (fun x hx => h x (List.mem_of_mem_take hx))
  have h2 : (l.take k).length ≤ n := by rw [List.length_take]; omega
  exact Nat.le_trans h1 (Nat.mul_le_mul_right b h2)
theorem SmT.emit {hs : List Ha} {vs : List Evo} (h : SmT hs vs) {x : Ha} (hx : x ∈ hs) {c : Cs} (hc : c ∈ x.cases) : ∀ m ∈ c.emits, (emitE m).length ≤ 16 := fun m hm => by
  have := ((h.c x hx).2.2 c hc).2.2 m hm
  unfold emitE setsE; rw [List.length_map]; exact this
theorem SmT.case {hs : List Ha} {vs : List Evo} (h : SmT hs vs) {x : Ha} (hx : x ∈ hs) {c : Cs} (hc : c ∈ x.cases) : (caseE c).length ≤ 288 := by
  obtain ⟨h1, h2, h3⟩ := (h.c x hx).2.2 c hc
  have q1 := len_flat (f := cdExP) (b := 2) c.whn (fun d _ => cdEx_len d)
  have q2 := len_flat (f := emitE) (b := 16) c.emits (h.emit hx hc)
  unfold caseE
  rw [List.length_append]
  omega
theorem SmT.hand {hs : List Ha} {vs : List Evo} (h : SmT hs vs) {x : Ha} (hx : x ∈ hs) : (handE x).length ≤ 4608 := by
  have q := len_flat (f := caseE) (b := 288) x.cases (fun c hc => h.case hx hc)
  have := (h.c x hx).2.1
  unfold handE
  omega
theorem SmT.evo {hs : List Ha} {vs : List Evo} (h : SmT hs vs) {x : Evo} (hx : x ∈ vs) : (evoE x).length ≤ 16 := by
  have := (h.e x hx).1
  unfold evoE setsE; rw [List.length_map]; exact this
theorem EOwn.mono {w0 w : World} {base base' : Nat} {v : Value} {L : List Ex} (h : EOwn w0 w base v L) (hb : base' ≤ base) : EOwn w0 w base' v L := by
  obtain ⟨ds, ⟨h1, h2⟩, h3⟩ := h
  refine ⟨ds, ⟨h1, ?_⟩, h3⟩
  rcases h2 with h | ⟨g, cap, cur, a, b, c, r⟩
  · exact .inl h
  · exact .inr ⟨g, cap, cur, a, by omega, c, r⟩
theorem SOwn.mono {w : World} {base base' : Nat} {v : Value} {L : List (List UInt8)} (h : SOwn w base v L) (hb : base' ≤ base) : SOwn w base' v L := by
  obtain ⟨h1, h2⟩ := h
  refine ⟨h1, ?_⟩
  rcases h2 with h | ⟨g, cap, cur, a, b, c, r⟩
  · exact .inl h
  · exact .inr ⟨g, cap, cur, a, by omega, c, r⟩

set_option maxRecDepth 20000 in
set_option maxHeartbeats 16000000 in
theorem rexprs_any (w0 : World) (ha : Option Addr) (nh hc : Nat) (hs : List Ha) (va : Option Addr) (nv vc : Nat) (vs : List Evo) (hH : SlOf 3 HaAt w0 (.slice ha nh hc) hs) (hV : SlOf 3 EvoAt w0 (.slice va nv vc) vs) (hsm : SmT hs vs) (w : World) (hw : Below w0.heap.size w0 w) :
    Calls Tryz.prog 22 #[.agg #[.slice ha nh hc, .slice va nv vc]] w fun e w' => ∃ v, e = .returned v ∧ EOwn w0 w' w.heap.size v (exprsD hs vs) ∧ Below w.heap.size w w' := by
  have hnh := hH.len.1
  have hnv := hV.len.1
  have h32 := hsm.h
  have v32 := hsm.v
  have hb1 : Below w.heap.size w (w.alloc (.cells #[.slice ha nh hc, .slice va nv vc] 25)) := (Below.refl _ _).alloc (Nat.le_refl _) _
  have hx1 : (w.alloc (.cells #[.slice ha nh hc, .slice va nv vc] 25)).heap[w.heap.size]? = some (.cells #[.slice ha nh hc, .slice va nv vc] 25 (0, 0)) := heap_alloc_new _ _
  obtain ⟨w1, hw1⟩ : ∃ w1, w1 = w.alloc (.cells #[.slice ha nh hc, .slice va nv vc] 25) := ⟨_, rfl⟩
  rw [← hw1] at hb1 hx1
  obtain ⟨B, hB⟩ : ∃ B, B = w.heap.size := ⟨_, rfl⟩
  rw [← hB] at hx1
  have HW := hide hw1
  have HB := hide hB
  have HB1 := hide hb1
  have HR : Hid (∀ W, Below w1.heap.size w1 W → W.cell? ⟨B, 0, none⟩ = some (.slice ha nh hc) ∧ W.cell? ⟨B, 1, none⟩ = some (.slice va nv vc)) := hide (fun W hW => ⟨kept hW ((cell_of_row _ _ _ _ _ _ hx1).trans rfl), kept hW ((cell_of_row _ _ _ _ _ _ hx1).trans rfl)⟩)
  have H0 : Hid (∀ W, Below w1.heap.size w1 W → Below w0.heap.size w0 W) := hide (fun W hW => hw.trans ((hb1.trans (hW.mono hb1.size)).mono hw.size))
  have HHs := hide hH
  have HVs := hide hV
  have HSm := hide hsm
  have HNh := hide hnh
  have HNv := hide hnv
  have HO0 : Hid (EOwn w0 w1 w1.heap.size (.slice none 0 0) ((hs.take 0).flatMap handE)) := hide (EOwn.nil _ _ _)
  have HF0 : Hid (Fr 44 w1.heap.size w1 w1) := hide (Fr.refl _ _ _)
  have hnb : nh ≤ 32 := by omega
  have hvb : nv ≤ 32 := by omega
  clear hw1 hb1 hx1 hB hH hV hsm hnh hnv h32 v32 hw
  go_enter Tryz.func22, Tryz.ntmps22
  go_upto_region 1 with fail
  rw [show w.alloc (.cells #[Value.slice ha nh hc, .slice va nv vc] 25) = w1 from (unhide HW).symm]
  rw [← unhide HB]
  go_wp2_with fail
  go_loopw [3, 4, 5, 6, 7, 8, 9] (fun v i _ _ _ _ _ wr => ∃ (k : Nat) (ra : Option Addr) (rn rc : Nat), k ≤ nh ∧ i = .int .i64 (k : Int) ∧ v = .slice ra rn rc ∧ Hid (EOwn w0 wr w1.heap.size (.slice ra rn rc) ((hs.take k).flatMap handE)) ∧ Hid (Fr 44 w1.heap.size w1 wr)) (fun _ i _ _ _ _ _ _ => nh - (intOf i).toNat)
  case atStart => exact ⟨0, none, 0, 0, by omega, rfl, rfl, HO0, HF0⟩
  case round =>
    clear HO0 HF0
    obtain ⟨k, ra, rn, rc, hk, rfl, rfl, HO, HF⟩ := hrel
    obtain ⟨r0, r1⟩ := unhide HR wr (unhide HF).bel
    by_cases hlt : k < nh
    · obtain ⟨x, hx⟩ := (unhide HHs).lt hlt
      have HX : Hid ((hs.take (k + 1)).flatMap handE = (hs.take k).flatMap handE ++ handE x) := hide (take_flat handE hx)
      have hxm := List.mem_of_getElem? hx
      have HXm := hide hxm
      have HP : Hid (((hs.take k).flatMap handE).length ≤ 147456) := hide (by have := flat_le (f := handE) (b := 4608) (n := 32) k (unhide HSm).h (fun y hy => (unhide HSm).hand hy); omega)
      obtain ⟨pre, hpre⟩ : ∃ pre, pre = (hs.take k).flatMap handE := ⟨_, rfl⟩
      rw [← hpre] at HO HX HP
      obtain ⟨hb, ho, rfl, _, h0, ⟨na, nc, h1, hneeds⟩, ca, cc, h2, hcases⟩ := (unhide HHs).at hx
      obtain ⟨CN, hCN⟩ : ∃ CN, CN = x.cases.length := ⟨_, rfl⟩
      obtain ⟨NN, hNN⟩ : ∃ NN, NN = x.needs.length := ⟨_, rfl⟩
      rw [← hCN] at h2 hcases
      rw [← hNN] at h1
      have hb0 := unhide H0 wr (unhide HF).bel
      have z0 := kept hb0 h0
      have z1 := kept hb0 h1
      have z2 := kept hb0 h2
      have hki : (k : Int) < (nh : Int) := by omega
      have hk0 : ¬ (k : Int) < 0 := by omega
      have HCa := hide hcases
      have hCNb : CN ≤ 16 := by rw [hCN]; exact ((unhide HSm).c x hxm).2.1
      have HCN := hide hCN
      have b2 : Below wr.heap.size wr (wr.alloc (.cells #[sv x.cmd, .slice na NN nc, .slice ca CN cc] 62)) := (Below.refl _ _).alloc (Nat.le_refl _) _
      have hx2 : (wr.alloc (.cells #[sv x.cmd, .slice na NN nc, .slice ca CN cc] 62)).heap[wr.heap.size]? = some (.cells #[sv x.cmd, .slice na NN nc, .slice ca CN cc] 62 (0, 0)) := heap_alloc_new _ _
      obtain ⟨w2, hw2⟩ : ∃ w2, w2 = wr.alloc (.cells #[sv x.cmd, .slice na NN nc, .slice ca CN cc] 62) := ⟨_, rfl⟩
      rw [← hw2] at b2 hx2
      have HW2 := hide hw2
      obtain ⟨q, hq⟩ : ∃ q, q = wr.heap.size := ⟨_, rfl⟩
      rw [← hq] at hx2
      have HQ := hide hq
      have HO2 : Hid (EOwn w0 w2 w1.heap.size (.slice ra rn rc) (pre ++ (x.cases.take 0).flatMap caseE)) := hide (by simpa using (unhide HO).below b2 (Nat.le_refl _))
      have HF2 : Hid (Fr 44 w1.heap.size w1 w2) := hide ((unhide HF).trans (Fr.of b2 (unhide HF).bel.size))
      have HBx : Hid (∀ W, Fr 44 w1.heap.size w2 W → W.cell? ⟨q, 2, none⟩ = some (.slice ca CN cc)) := hide (fun W hW => (cell_of_row _ _ _ _ _ _ (hW.row (by decide) hx2)).trans rfl)
      have HFr : Hid (Fr 44 w1.heap.size w2 w2) := hide (Fr.refl _ _ _)
      clear hx hxm hpre h0 h1 h2 hneeds hcases hCN hNN hb0 b2 hx2 hw2 hq
      go_upto_region 6 with fail
      rw [show wr.alloc (.cells #[Value.string ⟨x.cmd.toArray⟩, .slice na NN nc, .slice ca CN cc] 62) = w2 from (unhide HW2).symm]
      rw [← unhide HQ]
      clear z0 z1 z2 r0 r1
      go_wp2_with fail
      go_loopw [3, 6, 7, 8, 9] (fun v i _ _ _ wq => ∃ (j : Nat) (ra : Option Addr) (rn rc : Nat), j ≤ CN ∧ i = .int .i64 (j : Int) ∧ v = .slice ra rn rc ∧ Hid (EOwn w0 wq w1.heap.size (.slice ra rn rc) (pre ++ (x.cases.take j).flatMap caseE)) ∧ Hid (Fr 44 w1.heap.size w2 wq)) (fun _ i _ _ _ _ => CN - (intOf i).toNat)
      case atStart => exact ⟨0, ra, rn, rc, by omega, rfl, rfl, HO2, HFr⟩
      case round =>
        clear HO2 HFr HO
        obtain ⟨j, ra, rn, rc, hj, rfl, rfl, HO, HFq⟩ := hrel
        rename World => wq
        have HFw : Hid (Fr 44 w1.heap.size w1 wq) := hide ((unhide HF2).trans (unhide HFq))
        have y2 := unhide HBx wq (unhide HFq)
        by_cases hjt : j < CN
        · obtain ⟨c, hcx⟩ := (unhide HCa).lt hjt
          have HCX : Hid ((x.cases.take (j + 1)).flatMap caseE = (x.cases.take j).flatMap caseE ++ caseE c) := hide (take_flat caseE hcx)
          have hcm := List.mem_of_getElem? hcx
          have HP2 : Hid ((pre ++ (x.cases.take j).flatMap caseE).length ≤ 152064) := hide (by
            have h1 := flat_le (f := caseE) (b := 288) (n := 16) j ((unhide HSm).c x (unhide HXm)).2.1 (fun y hy => (unhide HSm).case (unhide HXm) hy)
            have h2 := unhide HP
            rw [List.length_append]; omega)
          obtain ⟨pre2, hpre2⟩ : ∃ pre2, pre2 = pre ++ (x.cases.take j).flatMap caseE := ⟨_, rfl⟩
          have HPX : Hid (pre ++ (x.cases.take (j + 1)).flatMap caseE = pre2 ++ caseE c) := hide (by rw [unhide HCX, hpre2, List.append_assoc])
          rw [← hpre2] at HO HP2
          obtain ⟨cb, co, rfl, _, ⟨wa, wc, h0, hwhn⟩, h1, ea, ec, h2, hem⟩ := (unhide HCa).at hcx
          obtain ⟨WN, hWN⟩ : ∃ WN, WN = c.whn.length := ⟨_, rfl⟩
          obtain ⟨EN, hEN⟩ : ∃ EN, EN = c.emits.length := ⟨_, rfl⟩
          rw [← hWN] at h0 hwhn
          rw [← hEN] at h2 hem
          obtain ⟨q1, q2, q3⟩ := ((unhide HSm).c x (unhide HXm)).2.2 c hcm
          have HCc : Hid (∀ W, Below w1.heap.size w1 W → W.cell? ⟨cb, co + j * 3, none⟩ = some (.slice wa WN wc) ∧ W.cell? ⟨cb, co + j * 3 + 2, none⟩ = some (.slice ea EN ec)) := hide (fun W hW => ⟨kept (unhide H0 W hW) h0, kept (unhide H0 W hW) h2⟩)
          have hWb : WN ≤ 16 := by omega
          have hEb : EN ≤ 16 := by omega
          have hji : (j : Int) < (CN : Int) := by omega
          have hj0 : ¬ (j : Int) < 0 := by omega
          have HWh := hide hwhn
          have HEm := hide hem
          have HWN := hide hWN
          have HEN := hide hEN
          have HQ3 := hide q3
          have HO3 : Hid (EOwn w0 wq w1.heap.size (.slice ra rn rc) (pre2 ++ (c.whn.take 0).flatMap cdExP)) := hide (by simpa using unhide HO)
          clear hcx hcm hpre2 h0 h1 h2 hwhn hem hWN hEN q1 q2 q3 HCX
          go_wp2_with fail
          go_loopw [3, 7, 8] (fun v i _ wp => ∃ (n : Nat) (ra : Option Addr) (rn rc : Nat), n ≤ WN ∧ i = .int .i64 (n : Int) ∧ v = .slice ra rn rc ∧ Hid (EOwn w0 wp w1.heap.size (.slice ra rn rc) (pre2 ++ (c.whn.take n).flatMap cdExP)) ∧ Hid (Fr 44 w1.heap.size w2 wp)) (fun _ i _ _ => WN - (intOf i).toNat)
          case atStart => exact ⟨0, ra, rn, rc, by omega, rfl, rfl, HO3, HFq⟩
          case round =>
            clear HO3 HO HFq HFw y2
            obtain ⟨n, ra, rn, rc, hn, rfl, rfl, HO, HFq⟩ := hrel
            rename World => wp
            have HFw : Hid (Fr 44 w1.heap.size w1 wp) := hide ((unhide HF2).trans (unhide HFq))
            have y2 := unhide HBx wp (unhide HFq)
            obtain ⟨c0, c2⟩ := unhide HCc wp (unhide HFw).bel
            by_cases hnt : n < WN
            · obtain ⟨d, hdx⟩ := (unhide HWh).lt hnt
              have HDX : Hid ((c.whn.take (n + 1)).flatMap cdExP = (c.whn.take n).flatMap cdExP ++ cdExP d) := hide (take_flat cdExP hdx)
              have HP3 : Hid ((pre2 ++ (c.whn.take n).flatMap cdExP).length ≤ 153000) := hide (by
                have h1 := flat_le (f := cdExP) (b := 2) (n := 16) n (by rw [← unhide HWN]; exact hWb) (fun y _ => cdEx_len y)
                have h2 := unhide HP2
                rw [List.length_append]; omega)
              obtain ⟨pre3, hpre3⟩ : ∃ pre3, pre3 = pre2 ++ (c.whn.take n).flatMap cdExP := ⟨_, rfl⟩
              have HPX3 : Hid (pre2 ++ (c.whn.take (n + 1)).flatMap cdExP = pre3 ++ cdExP d) := hide (by rw [unhide HDX, hpre3, List.append_assoc])
              rw [← hpre3] at HO HP3
              obtain ⟨db, dof, rfl, _, k0, k1, ⟨x0, x1, x2, aA, cA, x3, hA⟩, y0, y1, yy2, aB, cB, y3, hB⟩ := (unhide HWh).at hdx
              obtain ⟨MA, hMA⟩ : ∃ MA, MA = d.A.args.length := ⟨_, rfl⟩
              obtain ⟨MB, hMB⟩ : ∃ MB, MB = d.B.args.length := ⟨_, rfl⟩
              have HEA : Hid (∀ W : World, ExL w0 (W.alloc (.cells #[.int .i64 d.A.kind, .int .i64 d.A.n, sv d.A.s, .slice aA MA cA] 44)) (some ⟨W.heap.size, 0, none⟩) 1 1 [d.A]) := hide (fun W => by rw [hMA]; exact exl_one W d.A aA cA hA)
              have HEB : Hid (∀ W : World, ExL w0 (W.alloc (.cells #[.int .i64 d.B.kind, .int .i64 d.B.n, sv d.B.s, .slice aB MB cB] 44)) (some ⟨W.heap.size, 0, none⟩) 1 1 [d.B]) := hide (fun W => by rw [hMB]; exact exl_one W d.B aB cB hB)
              rw [← hMA] at x3
              rw [← hMB] at y3
              have hb0 := unhide H0 wp (unhide HFw).bel
              have d0 := kept hb0 k0
              have d1 := kept hb0 k1
              have d2 := kept hb0 x0
              have d3 : wp.cell? ⟨db, dof + n * 10 + 3, none⟩ = _ := kept hb0 x1
              have d4 : wp.cell? ⟨db, dof + n * 10 + 4, none⟩ = _ := kept hb0 x2
              have d5 : wp.cell? ⟨db, dof + n * 10 + 5, none⟩ = _ := kept hb0 x3
              have d6 := kept hb0 y0
              have d7 : wp.cell? ⟨db, dof + n * 10 + 7, none⟩ = _ := kept hb0 y1
              have d8 : wp.cell? ⟨db, dof + n * 10 + 8, none⟩ = _ := kept hb0 yy2
              have d9 : wp.cell? ⟨db, dof + n * 10 + 9, none⟩ = _ := kept hb0 y3
              have hni : (n : Int) < (WN : Int) := by omega
              have hn0 : ¬ (n : Int) < 0 := by omega
              have b3 : Below wp.heap.size wp (wp.alloc (.cells #[.int .i64 d.kind, .bool d.neg, .int .i64 d.A.kind, .int .i64 d.A.n, sv d.A.s, .slice aA MA cA, .int .i64 d.B.kind, .int .i64 d.B.n, sv d.B.s, .slice aB MB cB] 46)) := (Below.refl _ _).alloc (Nat.le_refl _) _
              have hx3 : (wp.alloc (.cells #[.int .i64 d.kind, .bool d.neg, .int .i64 d.A.kind, .int .i64 d.A.n, sv d.A.s, .slice aA MA cA, .int .i64 d.B.kind, .int .i64 d.B.n, sv d.B.s, .slice aB MB cB] 46)).heap[wp.heap.size]? = some (.cells #[.int .i64 d.kind, .bool d.neg, .int .i64 d.A.kind, .int .i64 d.A.n, sv d.A.s, .slice aA MA cA, .int .i64 d.B.kind, .int .i64 d.B.n, sv d.B.s, .slice aB MB cB] 46 (0, 0)) := heap_alloc_new _ _
              obtain ⟨w3, hw3⟩ : ∃ w3, w3 = wp.alloc (.cells #[.int .i64 d.kind, .bool d.neg, .int .i64 d.A.kind, .int .i64 d.A.n, sv d.A.s, .slice aA MA cA, .int .i64 d.B.kind, .int .i64 d.B.n, sv d.B.s, .slice aB MB cB] 46) := ⟨_, rfl⟩
              rw [← hw3] at b3 hx3
              have HW3 := hide hw3
              obtain ⟨q3, hq3⟩ : ∃ q3, q3 = wp.heap.size := ⟨_, rfl⟩
              rw [← hq3] at hx3
              have HQ3' := hide hq3
              have HOW : Hid (EOwn w0 w3 w1.heap.size (.slice ra rn rc) pre3) := hide ((unhide HO).below b3 (Nat.le_refl _))
              have HF3 : Hid (Fr 44 w1.heap.size w2 w3) := hide ((unhide HFq).trans (Fr.of b3 (unhide HFw).bel.size))
              have HS3 : Hid (w1.heap.size ≤ w3.heap.size) := hide (Nat.le_trans (unhide HFw).bel.size b3.size)
              have HBd : Hid (∀ W, Fr 44 w1.heap.size w3 W → W.cell? ⟨q3, 0, none⟩ = some (.int .i64 d.kind) ∧ (W.cell? ⟨q3, 2, none⟩ = some (.int .i64 d.A.kind) ∧ W.cell? ⟨q3, 3, none⟩ = some (.int .i64 d.A.n) ∧ W.cell? ⟨q3, 4, none⟩ = some (sv d.A.s) ∧ W.cell? ⟨q3, 5, none⟩ = some (.slice aA MA cA)) ∧ W.cell? ⟨q3, 6, none⟩ = some (.int .i64 d.B.kind) ∧ W.cell? ⟨q3, 7, none⟩ = some (.int .i64 d.B.n) ∧ W.cell? ⟨q3, 8, none⟩ = some (sv d.B.s) ∧ W.cell? ⟨q3, 9, none⟩ = some (.slice aB MB cB)) := hide (fun W hW => by
                have hr := hW.row (by decide) hx3
                exact ⟨(cell_of_row _ _ _ _ _ _ hr).trans rfl, ⟨(cell_of_row _ _ _ _ _ _ hr).trans rfl, (cell_of_row _ _ _ _ _ _ hr).trans rfl, (cell_of_row _ _ _ _ _ _ hr).trans rfl, (cell_of_row _ _ _ _ _ _ hr).trans rfl⟩, (cell_of_row _ _ _ _ _ _ hr).trans rfl, (cell_of_row _ _ _ _ _ _ hr).trans rfl, (cell_of_row _ _ _ _ _ _ hr).trans rfl, (cell_of_row _ _ _ _ _ _ hr).trans rfl⟩)
              clear hdx hpre3 k0 k1 x0 x1 x2 x3 y0 y1 yy2 y3 hA hB hMA hMB hb0 b3 hx3 hw3 hq3 HDX
              go_upto_region 13 with fail
              rw [show wp.alloc (.cells #[Value.int .i64 d.kind, .bool d.neg, .int .i64 d.A.kind, .int .i64 d.A.n, .string ⟨d.A.s.toArray⟩, .slice aA MA cA, .int .i64 d.B.kind, .int .i64 d.B.n, .string ⟨d.B.s.toArray⟩, .slice aB MB cB] 46) = w3 from (unhide HW3).symm]
              rw [← unhide HQ3']
              clear d0 d1 d2 d3 d4 d5 d6 d7 d8 d9 y2 c0 c2
              obtain ⟨e0, ⟨e2, e3, e4, e5⟩, -⟩ := unhide HBd w3 (Fr.refl _ _ _)
              have HAL : Hid (Below w3.heap.size w3 (w3.alloc (.cells #[.int .i64 d.A.kind, .int .i64 d.A.n, sv d.A.s, .slice aA MA cA] 44))) := hide ((Below.refl _ _).alloc (Nat.le_refl _) _)
              go_upto_region 14 with (at_builtin; refine wpList_append_exs (w0 := w0) rfl (.tmp 50) (.tmp 53) rfl w1.heap.size _ _ rfl ((unhide HOW).below (unhide HAL) (Nat.le_refl _)) _ 1 1 [d.A] rfl (unhide HEA _) (by have := unhide HP3; simp only [List.length_singleton]; omega) (by have := unhide HS3; have := (unhide HAL).size; omega) ?_; intro v5 w5 o5 f5; obtain ⟨ra5, rn5, rc5, rfl⟩ := o5.sl; have HO5 := hide o5; have HF5 := hide ((Fr.of (unhide HAL) (unhide HS3)).trans f5); clear o5 f5)
              clear e0 e2 e3 e4 e5 HAL HOW
              obtain ⟨e0, -, e6, e7, e8, e9⟩ := unhide HBd w5 (unhide HF5)
              by_cases hk4 : d.kind = 4
              · have HZ : Hid (pre2 ++ (c.whn.take (n + 1)).flatMap cdExP = pre3 ++ [d.A]) := hide (by rw [unhide HPX3]; unfold cdExP; rw [if_pos hk4])
                have HF6 := hide ((unhide HF3).trans (unhide HF5))
                rw [hk4] at e0
                clear hk4 e6 e7 e8 e9
                go_wp2_with fail
                go_roundw
                case rel => exact ⟨n + 1, _, _, _, by omega, by go_num, rfl, by rw [unhide HZ]; exact HO5, HF6⟩
                case measure => simp [intOf]; omega
              · have HZ : Hid (pre2 ++ (c.whn.take (n + 1)).flatMap cdExP = (pre3 ++ [d.A]) ++ [d.B]) := hide (by rw [unhide HPX3]; unfold cdExP; rw [if_neg hk4, List.append_assoc]; rfl)
                have hq4 : (d.kind != 4) = true := by simpa using hk4
                have HS5 : Hid (w1.heap.size ≤ w5.heap.size) := hide (Nat.le_trans (unhide HS3) (unhide HF5).bel.size)
                have HAL : Hid (Below w5.heap.size w5 (w5.alloc (.cells #[.int .i64 d.B.kind, .int .i64 d.B.n, sv d.B.s, .slice aB MB cB] 44))) := hide ((Below.refl _ _).alloc (Nat.le_refl _) _)
                have HF35 := hide ((unhide HF3).trans (unhide HF5))
                clear hk4
                go_wp2_with (at_builtin; refine wpList_append_exs (w0 := w0) rfl (.tmp 58) (.tmp 61) rfl w1.heap.size _ _ rfl ((unhide HO5).below (unhide HAL) (Nat.le_refl _)) _ 1 1 [d.B] rfl (unhide HEB _) (by have := unhide HP3; simp only [List.length_singleton, List.length_append]; omega) (by have := unhide HS5; have := (unhide HAL).size; omega) ?_; intro v6 w6 o6 f6; obtain ⟨ra6, rn6, rc6, rfl⟩ := o6.sl; have HO6 := hide o6; have HF6 := hide ((unhide HF35).trans ((Fr.of (unhide HAL) (unhide HS5)).trans f6)); clear o6 f6)
                go_roundw
                case rel => exact ⟨n + 1, _, _, _, by omega, by go_num, rfl, by rw [unhide HZ]; exact HO6, HF6⟩
                case measure => simp [intOf]; omega
            · have hni : ¬ (n : Int) < (WN : Int) := by omega
              obtain ⟨pre3, hpre3⟩ : ∃ pre3, pre3 = pre2 ++ c.whn.flatMap cdExP := ⟨_, rfl⟩
              have HO3 : Hid (EOwn w0 wp w1.heap.size (.slice ra rn rc) (pre3 ++ (c.emits.take 0).flatMap emitE)) := hide (by
                have := unhide HO
                rw [take_flat_all cdExP (by have := unhide HWN; omega), ← hpre3] at this
                simpa using this)
              have HP3 : Hid (pre3.length ≤ 153000) := hide (by
                have h1 := len_flat (f := cdExP) (b := 2) c.whn (fun y _ => cdEx_len y)
                have h2 := unhide HP2
                have h3 := unhide HWN
                rw [hpre3, List.length_append]; omega)
              have HPX3 : Hid (pre ++ (x.cases.take (j + 1)).flatMap caseE = pre3 ++ c.emits.flatMap emitE) := hide (by rw [unhide HPX, hpre3]; unfold caseE; rw [List.append_assoc])
              clear hpre3 HO
              go_wp2_with fail
              go_loopw [3, 9] (fun v i wp => ∃ (n : Nat) (ra : Option Addr) (rn rc : Nat), n ≤ EN ∧ i = .int .i64 (n : Int) ∧ v = .slice ra rn rc ∧ Hid (EOwn w0 wp w1.heap.size (.slice ra rn rc) (pre3 ++ (c.emits.take n).flatMap emitE)) ∧ Hid (Fr 44 w1.heap.size w2 wp)) (fun _ i _ => EN - (intOf i).toNat)
              case atStart => exact ⟨0, ra, rn, rc, by omega, rfl, rfl, HO3, HFq⟩
              case round =>
                clear HO3 HFq HFw y2 c0 c2
                obtain ⟨m, ra, rn, rc, hm, rfl, rfl, HO, HFq⟩ := hrel
                rename World => wm
                have HFw : Hid (Fr 44 w1.heap.size w1 wm) := hide ((unhide HF2).trans (unhide HFq))
                have y2 := unhide HBx wm (unhide HFq)
                obtain ⟨c0, c2⟩ := unhide HCc wm (unhide HFw).bel
                by_cases hmt : m < EN
                · obtain ⟨em, hex⟩ := (unhide HEm).lt hmt
                  have HEX : Hid (pre3 ++ (c.emits.take (m + 1)).flatMap emitE = (pre3 ++ (c.emits.take m).flatMap emitE) ++ emitE em) := hide (by rw [take_flat emitE hex, List.append_assoc])
                  have hemm := List.mem_of_getElem? hex
                  have HP4 : Hid ((pre3 ++ (c.emits.take m).flatMap emitE).length + (emitE em).length ≤ 154000) := hide (by
                    have h0 : ∀ y ∈ c.emits, (emitE y).length ≤ 16 := fun y hy => by unfold emitE setsE; rw [List.length_map]; exact unhide HQ3 y hy
                    have h1 := flat_le (f := emitE) (b := 16) (n := 16) m (by rw [← unhide HEN]; exact hEb) h0
                    have h2 := unhide HP3
                    have h3 := h0 em hemm
                    rw [List.length_append]; omega)
                  obtain ⟨eb, eo, rfl, _, k0, sa, sc, k1, hset⟩ := (unhide HEm).at hex
                  obtain ⟨SN, hSN⟩ : ∃ SN, SN = em.sets.length := ⟨_, rfl⟩
                  rw [← hSN] at k1 hset
                  have hb0 := unhide H0 wm (unhide HFw).bel
                  have d1 := kept hb0 k1
                  have hmi : (m : Int) < (EN : Int) := by omega
                  have hm0 : ¬ (m : Int) < 0 := by omega
                  have HC : Hid (Calls Tryz.prog 72 #[.slice sa SN sc] wm fun e w' => ∃ v, e = .returned v ∧ EOwn w0 w' wm.heap.size v (emitE em) ∧ Below wm.heap.size wm w') := hide (rsets_any w0 sa SN sc em.sets hset (by rw [hSN]; exact unhide HQ3 em hemm) wm hb0)
                  have HS4 := hide (unhide HFw).bel.size
                  clear hex hemm k0 k1 hset hSN hb0
                  go_wp2_with (first
                    | (go_at_call 72; refine (unhide HC).mono ?_; rintro e w5 ⟨v5, rfl, o5, b5⟩; obtain ⟨a5, c5, rfl, hl5⟩ := o5.exl; obtain ⟨n5, hn5⟩ : ∃ n5, n5 = (emitE em).length := ⟨_, rfl⟩; rw [← hn5] at hl5 ⊢; have HL5 := hide hl5; have HB5 := hide b5; have HO5 := hide ((unhide HO).below b5 (Nat.le_refl _)); clear o5 b5 hl5 hn5)
                    | (at_builtin; refine wpList_append_exs (w0 := w0) rfl (.tmp 74) (.tmp 85) rfl w1.heap.size _ _ rfl (unhide HO5) _ _ _ (emitE em) rfl (unhide HL5) (by have := unhide HP4; omega) (by have := unhide HS4; have := (unhide HB5).size; omega) ?_; intro v6 w6 o6 f6; obtain ⟨ra6, rn6, rc6, rfl⟩ := o6.sl; have HO6 := hide o6; have HF6 := hide ((unhide HFq).trans ((Fr.of (unhide HB5) (unhide HS4)).trans f6)); clear o6 f6))
                  go_roundw
                  case rel => exact ⟨m + 1, _, _, _, by omega, by go_num, rfl, by rw [unhide HEX]; exact HO6, HF6⟩
                  case measure => simp [intOf]; omega
                · have hmi : ¬ (m : Int) < (EN : Int) := by omega
                  have HO4 : Hid (EOwn w0 wm w1.heap.size (.slice ra rn rc) (pre ++ (x.cases.take (j + 1)).flatMap caseE)) := hide (by
                    have := unhide HO
                    rw [take_flat_all emitE (by have := unhide HEN; omega), ← unhide HPX3] at this
                    exact this)
                  clear HO
                  go_wp2_with fail
                  go_roundw
                  case rel => exact ⟨j + 1, _, _, _, by omega, by go_num, rfl, HO4, HFq⟩
                  case measure => simp [intOf]; omega
        · have hji : ¬ (j : Int) < (CN : Int) := by omega
          have HO4 : Hid (EOwn w0 wq w1.heap.size (.slice ra rn rc) ((hs.take (k + 1)).flatMap handE)) := hide (by
            have := unhide HO
            rw [take_flat_all caseE (by have := unhide HCN; omega)] at this
            rw [unhide HX]
            exact this)
          clear HO
          go_wp2_with fail
          go_roundw
          case rel => exact ⟨k + 1, _, _, _, by omega, by go_num, rfl, HO4, HFw⟩
          case measure => simp [intOf]; omega
    · have hki : ¬ (k : Int) < (nh : Int) := by omega
      obtain ⟨pre, hpre⟩ : ∃ pre, pre = hs.flatMap handE := ⟨_, rfl⟩
      have HO3 : Hid (EOwn w0 wr w1.heap.size (.slice ra rn rc) (pre ++ (vs.take 0).flatMap evoE)) := hide (by
        have := unhide HO
        rw [take_flat_all handE (by have := unhide HNh; omega), ← hpre] at this
        simpa using this)
      have HP3 : Hid (pre.length ≤ 147456) := hide (by
        have h1 := len_flat (f := handE) (b := 4608) hs (fun y hy => (unhide HSm).hand hy)
        have h2 := (unhide HSm).h
        rw [hpre]; omega)
      have HPX : Hid (exprsD hs vs = pre ++ vs.flatMap evoE) := hide (by rw [hpre]; rfl)
      clear hpre HO
      go_wp2_with fail
      go_loopw [3, 10] (fun v i wp => ∃ (n : Nat) (ra : Option Addr) (rn rc : Nat), n ≤ nv ∧ i = .int .i64 (n : Int) ∧ v = .slice ra rn rc ∧ Hid (EOwn w0 wp w1.heap.size (.slice ra rn rc) (pre ++ (vs.take n).flatMap evoE)) ∧ Hid (Fr 44 w1.heap.size w1 wp)) (fun _ i _ => nv - (intOf i).toNat)
      case atStart => exact ⟨0, ra, rn, rc, by omega, rfl, rfl, HO3, HF⟩
      case round =>
        clear HO3 HF r0 r1
        obtain ⟨m, ra, rn, rc, hm, rfl, rfl, HO, HFw⟩ := hrel
        rename World => wm
        obtain ⟨r0, r1⟩ := unhide HR wm (unhide HFw).bel
        by_cases hmt : m < nv
        · obtain ⟨ev, hex⟩ := (unhide HVs).lt hmt
          have HEX : Hid (pre ++ (vs.take (m + 1)).flatMap evoE = (pre ++ (vs.take m).flatMap evoE) ++ evoE ev) := hide (by rw [take_flat evoE hex, List.append_assoc])
          have hevm := List.mem_of_getElem? hex
          have HP4 : Hid ((pre ++ (vs.take m).flatMap evoE).length + (evoE ev).length ≤ 154000) := hide (by
            have h1 := flat_le (f := evoE) (b := 16) (n := 32) m (unhide HSm).v (fun y hy => (unhide HSm).evo hy)
            have h2 := unhide HP3
            have h3 := (unhide HSm).evo hevm
            rw [List.length_append]; omega)
          obtain ⟨eb, eo, rfl, _, k0, ⟨sa, sc, k1, hset⟩, _⟩ := (unhide HVs).at hex
          obtain ⟨SN, hSN⟩ : ∃ SN, SN = ev.sets.length := ⟨_, rfl⟩
          rw [← hSN] at k1 hset
          have hb0 := unhide H0 wm (unhide HFw).bel
          have d1 := kept hb0 k1
          have hmi : (m : Int) < (nv : Int) := by omega
          have hm0 : ¬ (m : Int) < 0 := by omega
          have HC : Hid (Calls Tryz.prog 72 #[.slice sa SN sc] wm fun e w' => ∃ v, e = .returned v ∧ EOwn w0 w' wm.heap.size v (evoE ev) ∧ Below wm.heap.size wm w') := hide (rsets_any w0 sa SN sc ev.sets hset (by rw [hSN]; exact ((unhide HSm).e ev hevm).1) wm hb0)
          have HS4 := hide (unhide HFw).bel.size
          clear hex hevm k0 k1 hset hSN hb0
          go_wp2_with (first
            | (go_at_call 72; refine (unhide HC).mono ?_; rintro e w5 ⟨v5, rfl, o5, b5⟩; obtain ⟨a5, c5, rfl, hl5⟩ := o5.exl; obtain ⟨n5, hn5⟩ : ∃ n5, n5 = (evoE ev).length := ⟨_, rfl⟩; rw [← hn5] at hl5 ⊢; have HL5 := hide hl5; have HB5 := hide b5; have HO5 := hide ((unhide HO).below b5 (Nat.le_refl _)); clear o5 b5 hl5 hn5)
            | (at_builtin; refine wpList_append_exs (w0 := w0) rfl (.tmp 94) (.tmp 101) rfl w1.heap.size _ _ rfl (unhide HO5) _ _ _ (evoE ev) rfl (unhide HL5) (by have := unhide HP4; omega) (by have := unhide HS4; have := (unhide HB5).size; omega) ?_; intro v6 w6 o6 f6; obtain ⟨ra6, rn6, rc6, rfl⟩ := o6.sl; have HO6 := hide o6; have HF6 := hide ((unhide HFw).trans ((Fr.of (unhide HB5) (unhide HS4)).trans f6)); clear o6 f6))
          go_roundw
          case rel => exact ⟨m + 1, _, _, _, by omega, by go_num, rfl, by rw [unhide HEX]; exact HO6, HF6⟩
          case measure => simp [intOf]; omega
        · have hmi : ¬ (m : Int) < (nv : Int) := by omega
          have HO4 : Hid (EOwn w0 wm w.heap.size (.slice ra rn rc) (exprsD hs vs)) := hide (by
            have := unhide HO
            rw [take_flat_all evoE (by have := unhide HNv; omega), ← unhide HPX] at this
            exact this.mono (unhide HB1).size)
          clear HO
          go_wp2_with fail
          go_ret
          exact ⟨_, rfl, unhide HO4, (unhide HB1).trans ((unhide HFw).bel.mono (unhide HB1).size)⟩
end Go.Proofs.YtingpmgpjmlioaaGreatDoor
