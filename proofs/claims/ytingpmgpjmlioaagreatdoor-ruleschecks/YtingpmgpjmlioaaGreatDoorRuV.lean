/-
  DERIVED. The walk of value.
-/
import Derived.Test.YtingpmgpjmlioaaGreatDoorRuE
import Derived.Test.YtingpmgpjmlioaaGreatDoorPeel
namespace Go.Proofs.YtingpmgpjmlioaaGreatDoor
open Go.RowKit
set_option linter.unusedVariables false

/-- What an evaluation comes to: a field, or it gives up. -/
def EndsF (w : World) (r : Except Int Fld) (e : Ending) (w' : World) : Prop :=
  (match r with
    | .ok f => e = .returned (.agg (fv f)) ∧ small f
    | .error n => e = pan n) ∧ Below w.heap.size w w'

def XBox (w : World) (q : Nat) (x : Ex) (a : Option Addr) (c : Nat) : Prop := w.heap[q]? = some (.cells (exV x a c) 44 (0, 0))
theorem XBox.cells {w : World} {q : Nat} {x : Ex} {a : Option Addr} {c : Nat} (h : XBox w q x a c) : w.cell? ⟨q, 0, none⟩ = some (.int .i64 x.kind) ∧ w.cell? ⟨q, 1, none⟩ = some (.int .i64 x.n) ∧ w.cell? ⟨q, 2, none⟩ = some (sv x.s) ∧ w.cell? ⟨q, 3, none⟩ = some (.slice a x.args.length c) ∧ ∀ i, w.frozen? ⟨q, i, none⟩ = false := cells4 h
theorem XBox.lt {w : World} {q : Nat} {x : Ex} {a : Option Addr} {c : Nat} (h : XBox w q x a c) : q < w.heap.size := lt_of_block h
theorem XBox.below {B : Nat} {w w' : World} {q : Nat} {x : Ex} {a : Option Addr} {c : Nat} (h : XBox w q x a c) (hb : Below B w w') (hB : w.heap.size ≤ B) : XBox w' q x a c := (hb.block q (by have := h.lt; omega)).trans h

theorem ExAt.facts {w : World} {x : Ex} {a : Option Addr} {c : Nat} (h : ExAt w x a c) : I64 x.kind ∧ I64 x.n ∧ x.s.length ≤ 140737488355328 ∧ x.args.length ≤ c ∧ c ≤ 9223372036854775807 := by
  obtain ⟨_, _, _, b, off, A, C, h1, h2, h3, hk, hn, hs, hc, hr⟩ := h
  exact ⟨hk, hn, hs, h1, h2⟩
theorem ExAt.arg {w : World} {x : Ex} {a : Option Addr} {c : Nat} (h : ExAt w x a c) (i : Nat) (hi : i < x.args.length) : ∃ b off a' c', a = some ⟨b, off, none⟩ ∧ b < w.heap.size ∧ w.cell? ⟨b, off + i * 4, none⟩ = some (.int .i64 x.args[i].kind) ∧ w.cell? ⟨b, off + i * 4 + 1, none⟩ = some (.int .i64 x.args[i].n) ∧ w.cell? ⟨b, off + i * 4 + 2, none⟩ = some (sv x.args[i].s) ∧ w.cell? ⟨b, off + i * 4 + 3, none⟩ = some (.slice a' x.args[i].args.length c') ∧ ExAt w x.args[i] a' c' := by
  obtain ⟨_, _, _, b, off, A, C, h1, h2, h3, hk, hn, hs, hc, hr⟩ := h
  obtain ⟨q0, q1, q2, q3⟩ := hc i hi
  obtain ⟨e, hb⟩ := h3 (by omega)
  exact ⟨b, off, A i, C i, e, hb, q0, q1, q2, q3, hr i hi⟩

theorem len_two {α : Type} : ∀ {l : List α}, l.length = 2 → ∃ a b, l = [a, b]
  | [a, b], _ => ⟨a, b, rfl⟩

theorem zero64 : I64 0 := ⟨by decide, by decide⟩
theorem dec_len20 : ∀ (k u : Nat), u < 10 ^ (k + 1) → Lib.nDigits u ≤ k + 1
  | 0, u, h => by rw [Lib.nDigits_small (by omega)]; omega
  | k + 1, u, h => by
    by_cases h10 : u < 10
    · rw [Lib.nDigits_small h10]; omega
    · rw [Lib.nDigits_big h10]
      have := dec_len20 k (u / 10) (by rw [Nat.pow_succ] at h; omega)
      omega
theorem itoa_short {n : Int} (h : I64 n) : (Lib.itoa n).length ≤ 21 := by
  obtain ⟨h1, h2⟩ := h
  unfold Lib.itoa
  split
  · have := dec_len20 19 n.natAbs (by omega)
    rw [List.length_cons, Lib.decDigits_length]; omega
  · have := dec_len20 19 n.toNat (by omega)
    rw [Lib.decDigits_length]; omega

/-- The three boxes of value. -/
structure VB (w0 w3 : World) (p q r : Nat) (S : Sc) (x : Ex) (a : Option Addr) (c : Nat) : Prop where
  bel : Below w0.heap.size w0 w3
  sb : SBox w3 p S
  xb : XBox w3 q x a c
  fb : FBox w3 r fld0
  ge : w0.heap.size ≤ r
theorem VB.new (w : World) (S : Sc) (x : Ex) (a : Option Addr) (c : Nat) : VB w (((w.alloc (.cells (scv S) 82)).alloc (.cells (exV x a c) 44)).alloc (.cells (fv fld0) 48)) w.heap.size (w.heap.size + 1) (w.heap.size + 1 + 1) S x a c := by
  have z1 : (w.alloc (.cells (scv S) 82)).heap.size = w.heap.size + 1 := by simp
  have z2 : ((w.alloc (.cells (scv S) 82)).alloc (.cells (exV x a c) 44)).heap.size = w.heap.size + 1 + 1 := by simp
  have b1 : Below w.heap.size w (w.alloc (.cells (scv S) 82)) := (Below.refl _ _).alloc (Nat.le_refl _) _
  have b2 := (Below.refl (w.alloc (.cells (scv S) 82)).heap.size (w.alloc (.cells (scv S) 82))).alloc (Nat.le_refl _) (.cells (exV x a c) 44)
  have b3 := (Below.refl ((w.alloc (.cells (scv S) 82)).alloc (.cells (exV x a c) 44)).heap.size ((w.alloc (.cells (scv S) 82)).alloc (.cells (exV x a c) 44))).alloc (Nat.le_refl _) (.cells (fv fld0) 48)
  refine ⟨(b1.trans (b2.mono (by omega))).trans (b3.mono (by omega)), ((SBox.new w S).below b2 (Nat.le_refl _)).below b3 (Nat.le_refl _), ?_, ?_, by omega⟩
  · have : XBox ((w.alloc (.cells (scv S) 82)).alloc (.cells (exV x a c) 44)) (w.heap.size + 1) x a c := by rw [← z1]; exact heap_alloc_new _ _
    exact this.below b3 (Nat.le_refl _)
  · rw [← z2]; exact FBox.new _ _
theorem VB.grown {w0 w3 w' : World} {p q r : Nat} {S : Sc} {x : Ex} {a : Option Addr} {c : Nat} (h : VB w0 w3 p q r S x a c) (hb : Below w3.heap.size w3 w') : VB w0 w' p q r S x a c :=
  ⟨h.bel.trans (hb.mono h.bel.size), h.sb.below hb (Nat.le_refl _), h.xb.below hb (Nat.le_refl _), h.fb.below hb (Nat.le_refl _), h.ge⟩

theorem cell_same {w w' : World} {g : Nat} (h : w'.heap[g]? = w.heap[g]?) (i : Nat) : w'.cell? ⟨g, i, none⟩ = w.cell? ⟨g, i, none⟩ := by
  unfold World.cell?
  simp only [h]
theorem box_cells {w0 w : World} {p q r : Nat} {st : List UInt8} {sl gl : List Fld} {sa : Option Addr} {sc : Nat} {ga : Option Addr} {gc mp : Nat} {S : Sc} {x : Ex} {a : Option Addr} {c : Nat} (h : VB w0 w p q r S x a c) (hS : S = ⟨st, sl, gl, sa, sc, ga, gc, mp⟩) : ∀ V : World, V.heap[p]? = w.heap[p]? → V.heap[q]? = w.heap[q]? → (V.cell? ⟨p, 0, none⟩ = some (sv st) ∧ V.cell? ⟨p, 1, none⟩ = some (.slice sa sl.length sc) ∧ V.cell? ⟨p, 2, none⟩ = some (.slice ga gl.length gc) ∧ V.cell? ⟨p, 3, none⟩ = some (.map (some mp))) ∧ (V.cell? ⟨q, 0, none⟩ = some (.int .i64 x.kind) ∧ V.cell? ⟨q, 1, none⟩ = some (.int .i64 x.n) ∧ V.cell? ⟨q, 2, none⟩ = some (sv x.s) ∧ V.cell? ⟨q, 3, none⟩ = some (.slice a x.args.length c)) := by
  subst hS
  intro V hp hq
  obtain ⟨s0, s1, s2, s3, _⟩ := h.sb.cells
  obtain ⟨x0, x1, x2, x3, _⟩ := h.xb.cells
  exact ⟨⟨(cell_same hp 0).trans s0, (cell_same hp 1).trans s1, (cell_same hp 2).trans s2, (cell_same hp 3).trans s3⟩, (cell_same hq 0).trans x0, (cell_same hq 1).trans x1, (cell_same hq 2).trans x2, (cell_same hq 3).trans x3⟩
theorem box_ne {w0 w : World} {p q r : Nat} {S : Sc} {x : Ex} {a : Option Addr} {c : Nat} (h : VB w0 w p q r S x a c) : p ≠ r ∧ q ≠ r := by
  have hs : w.heap[p]? = _ := h.sb
  have hx : w.heap[q]? = _ := h.xb
  have hf : w.heap[r]? = _ := h.fb
  constructor
  · intro e
    rw [e, hf] at hs
    simp at hs
  · intro e
    rw [e, hf] at hx
    simp at hx

set_option maxRecDepth 20000 in
set_option maxHeartbeats 8000000 in
theorem value_any (S : Sc) : ∀ (m : Nat) (x : Ex) (a : Option Addr) (c : Nat) (w : World), SizeOf.sizeOf x ≤ m → ExAt w x a c → Formed x → S.at w → Vars w → Calls Tryz.prog 82 #[.agg (scv S), .agg (exV x a c)] w (EndsF w (evalX S x)) := by
  intro m
  induction m with
  | zero => intro x a c w hx; cases x; simp only [Ex.mk.sizeOf_spec] at hx; omega
  | succ m ih =>
    intro x a c w hx hat hfm hS hva
    obtain ⟨hk1, hn1, hs1, hac, hc63⟩ := hat.facts
    obtain ⟨_, hok, hfr⟩ := hfm
    have hok2 : (x.args.length : Int) = argsN x.kind := by unfold okX at hok; simpa using hok
    have hal : x.args.length ≤ 2 := by
      have : argsN x.kind ≤ 2 := by unfold argsN; split <;> (try split) <;> (try split) <;> omega
      omega
    have hvb := VB.new w S x a c
    obtain ⟨w3, hw3⟩ : ∃ w3, w3 = ((w.alloc (.cells (scv S) 82)).alloc (.cells (exV x a c) 44)).alloc (.cells (fv fld0) 48) := ⟨_, rfl⟩
    rw [← hw3] at hvb
    have HW3 := hide hw3
    have HVB := hide hvb
    have HAT := hide (hat.grown hvb.bel)
    have HSA := hide (hS.grown hvb.bel)
    have HVA := hide (hva.below hvb.bel (Nat.le_refl _))
    have HIH : Hid (∀ (i : Nat) (hi : i < x.args.length) (a' : Option Addr) (c' : Nat) (W : World), ExAt W x.args[i] a' c' → S.at W → Vars W → Calls Tryz.prog 82 #[.agg (scv S), .agg (exV x.args[i] a' c')] W (EndsF W (evalX S x.args[i]))) := hide (fun i hi a' c' W h1 h2 h3 => ih _ a' c' W (by have := args_lt (x := x) (y := x.args[i]) (List.getElem_mem hi); omega) h1 (hfr _ (List.getElem_mem hi)) h2 h3)
    obtain ⟨AN, hAN⟩ : ∃ AN, AN = x.args.length := ⟨_, rfl⟩
    have HAN := hide hAN
    have HOK := hide hok2
    have HEV := hide (evalX_eq S x)
    have HAC := hide (And.intro hac (And.intro hc63 (And.intro hk1 (And.intro hn1 hs1))))
    obtain ⟨p, hp⟩ : ∃ p, p = w.heap.size := ⟨_, rfl⟩
    obtain ⟨q, hq⟩ : ∃ q, q = w.heap.size + 1 := ⟨_, rfl⟩
    obtain ⟨r, hr⟩ : ∃ r, r = w.heap.size + 1 + 1 := ⟨_, rfl⟩
    have HPQ := hide (And.intro hp (And.intro hq hr))
    rw [← hr, ← hq, ← hp] at HVB
    clear hat hS hva ih hvb hw3 hok hok2 hfr hx hp hq hr hac hc63 hk1 hn1 hs1
    obtain ⟨S', hS'⟩ : ∃ S', S' = S := ⟨_, rfl⟩
    have HSS := hide hS'
    obtain ⟨st, sl, gl, sa, sc, ga, gc, mp⟩ := S
    go_enter Tryz.func82, Tryz.ntmps82
    go_upto_region 1 with fail
    rw [show ((w.alloc (.cells #[sv st, .slice sa sl.length sc, .slice ga gl.length gc, .map (some mp)] 82)).alloc (.cells #[Value.int IntKind.i64 x.kind, .int .i64 x.n, sv x.s, .slice a x.args.length c] 44)).alloc (.cells #[Value.string ⟨#[]⟩, .bool false, .int .i64 0, Value.string ⟨#[]⟩] 48) = w3 from (unhide HW3).symm]
    rw [← (unhide HPQ).2.2, ← (unhide HPQ).2.1, ← (unhide HPQ).1]
    rw [← hS'] at HVB HSA HIH HEV ⊢
    obtain ⟨x0, x1, x2, x3, xf⟩ := (unhide HVB).xb.cells
    rw [← hAN] at x3
    obtain ⟨o, mk, own0⟩ := make_flds w3 AN (by omega)
    have HO0 := hide own0
    have HB0 : Hid (Below w3.heap.size w3 (w3.alloc o)) := hide ((Below.refl _ _).alloc (Nat.le_refl _) _)
    obtain ⟨w4, hw4⟩ : ∃ w4, w4 = w3.alloc o := ⟨_, rfl⟩
    rw [← hw4] at mk HO0 HB0
    obtain ⟨y0, y1, y2, y3, yf⟩ := ((unhide HVB).grown (unhide HB0)).xb.cells
    rw [← hAN] at y3
    clear own0 hw4 hAN hS' HW3
    go_wp2_with fail
    clear x0 x1 x2 x3 xf y0 y1 y2 y3 yf mk
    go_loopw [5, 7, 15] (fun v _ i wr => ∃ (k : Nat) (fs : List Fld), i = .int .i64 k ∧ k ≤ AN ∧ Hid (evalL S' (x.args.take k) = .ok fs ∧ (∀ f ∈ fs, small f) ∧ FOwn wr w3.heap.size v fs ∧ Below w3.heap.size w3 wr)) (fun _ _ i _ => AN - (intOf i).toNat)
    case atStart => exact ⟨0, [], rfl, by omega, hide ⟨by rw [List.take_zero, evalL], fun f hf => by simp at hf, unhide HO0, unhide HB0⟩⟩
    case round =>
      clear HO0 HB0
      obtain ⟨k, fs, rfl, hk, HR⟩ := hrel
      by_cases hlt : k < AN
      · have hkl : k < x.args.length := by have := unhide HAN; omega
        obtain ⟨b, off, a', c', rfl, hb, q0, q1, q2, q3, hexa⟩ := (unhide HAT).arg k hkl
        have hbw := (unhide HR).2.2.2
        have d0 := (hbw.cell (p := ⟨b, off + k * 4, none⟩) hb).trans q0
        have d1 := (hbw.cell (p := ⟨b, off + k * 4 + 1, none⟩) hb).trans q1
        have d2 := (hbw.cell (p := ⟨b, off + k * 4 + 2, none⟩) hb).trans q2
        have d3 := (hbw.cell (p := ⟨b, off + k * 4 + 3, none⟩) hb).trans q3
        obtain ⟨y, hy⟩ : ∃ y, y = x.args[k] := ⟨_, rfl⟩
        have HY : Hid (x.args[k]? = some y) := hide (by rw [hy]; exact List.getElem?_eq_getElem hkl)
        have HIHk := unhide HIH k hkl a' c'
        rw [← hy] at d0 d1 d2 d3 HIHk hexa
        have HIK := hide HIHk
        have HEX := hide hexa
        have hAc : (k : Int) < (AN : Int) := by omega
        clear q0 q1 q2 q3 hexa hbw hy HIHk
        go_upto_region 5 with fail
        have hbw := (unhide HR).2.2.2
        have hb5 : Below w3.heap.size w3 (wr.alloc (.cells (exV y a' c') 44)) := hbw.alloc hbw.size _
        have hb5' : Below wr.heap.size wr (wr.alloc (.cells (exV y a' c') 44)) := (Below.refl _ _).alloc (Nat.le_refl _) _
        have hx5 : XBox (wr.alloc (.cells (exV y a' c') 44)) wr.heap.size y a' c' := heap_alloc_new _ _
        have HO5 := hide ((unhide HR).2.2.1.below hb5' (Nat.le_refl _))
        obtain ⟨w5, hw5⟩ : ∃ w5, w5 = wr.alloc (.cells (exV y a' c') 44) := ⟨_, rfl⟩
        rw [show wr.alloc (.cells #[Value.int IntKind.i64 y.kind, .int .i64 y.n, sv y.s, .slice a' y.args.length c'] 44) = w5 from hw5.symm]
        rw [← hw5] at hb5 hx5 HO5
        obtain ⟨g5, hg5⟩ : ∃ g5, g5 = wr.heap.size := ⟨_, rfl⟩
        rw [← hg5] at hx5 ⊢
        have HB5 := hide hb5
        obtain ⟨z0, z1, z2, z3, zf⟩ := hx5.cells
        obtain ⟨s0, s1, s2, s3, sf⟩ := ((unhide HVB).grown hb5).sb.cells
        have HC := hide (unhide HIK w5 ((unhide HEX).grown hb5) ((unhide HSA).grown hb5) ((unhide HVA).below hb5 (Nat.le_refl _)))
        have hsm := (unhide HR).2.1
        have hev0 := (unhide HR).1
        have HLT : Hid (x.args.take (k + 1) = x.args.take k ++ [y] ∧ x.args = x.args.take k ++ y :: x.args.drop (k + 1)) := hide ⟨by rw [List.take_add_one, unhide HY]; rfl, by
          conv => lhs; rw [← List.take_append_drop k x.args]
          congr 1
          have := List.getElem?_eq_some_iff.1 (unhide HY)
          rw [List.drop_eq_getElem_cons this.1, this.2]⟩
        clear d0 d1 d2 d3 hbw hb5 hb5' hx5 hw5 hg5
        rw [unhide HSS] at HC s0 s1 s2 s3
        simp only at s0 s1 s2 s3
        cases hev : evalX S' y with
        | error n =>
          have HE : Hid (evalX S' x = .error n) := hide (by
            rw [unhide HEV, (unhide HLT).2, evalL_stop S' _ y _ hev0 hev])
          rw [unhide HSS] at hev HE
          rw [hev] at HC
          clear hev hev0 hsm
          go_wp2_with (go_at_call 82; refine (unhide HC).mono ?_; rintro e w6 ⟨rfl, b6⟩; have BE := hide ((unhide HVB).bel.trans (((unhide HB5).trans (b6.mono (unhide HB5).size)).mono (unhide HVB).bel.size)); clear b6)
          refine ⟨rfl, ?_⟩
          rw [unhide HE]
          exact ⟨rfl, unhide BE⟩
        | ok f =>
          have HE : Hid (evalL S' (x.args.take (k + 1)) = .ok (fs ++ [f])) := hide (by rw [(unhide HLT).1, evalL_snoc S' _ y hev0, hev])
          rw [unhide HSS] at hev
          rw [hev] at HC
          have hfl : fs.length ≤ 2 := by have := evalL_len S' _ hev0; rw [this, List.length_take]; omega
          have HSM := hide hsm
          have HFL := hide hfl
          clear hev hev0 hsm hfl
          obtain ⟨fn, ft, fi, fz⟩ := f
          go_wp2_with fail
          refine (unhide HC).mono ?_
          rintro e w6 ⟨⟨rfl, hsf⟩, b6⟩
          have HSF := hide hsf
          have HO6 := hide ((unhide HO5).below b6 (Nat.le_refl _))
          have HB6 := hide ((unhide HB5).trans (b6.mono (unhide HB5).size))
          have hz6 := (unhide HB6).size
          clear b6 hsf
          go_wp2_with (at_builtin; (refine wpList_append_fld rfl (.tmp 19) (.tmp 23) rfl w3.heap.size _ fs rfl ((unhide HO6).below ((Below.refl _ _).alloc (Nat.le_refl _) _) (Nat.le_refl _)) w6.heap.size ⟨fn, ft, fi, fz⟩ rfl (FBox.new w6 ⟨fn, ft, fi, fz⟩) (Nat.le_trans (unhide HFL) (by decide)) (by simp; omega) ?_); intro v' w7 own7 b7 _; have HO7 := hide own7; have HB7 := hide (((unhide HB6).alloc (unhide HB6).size _).trans b7); clear own7 b7)
          go_roundw
          case rel => exact ⟨k + 1, fs ++ [⟨fn, ft, fi, fz⟩], by go_num, by omega, hide ⟨unhide HE, (fun f hf => (by
            rcases List.mem_append.1 hf with hf | hf
            · exact unhide HSM f hf
            · rw [List.mem_singleton.1 hf]; exact unhide HSF)), unhide HO7, unhide HB7⟩⟩
          case measure => simp [intOf]; omega
      · have hkA : k = AN := by omega
        have hAc : ¬ (k : Int) < (AN : Int) := by omega
        have HFS : Hid (evalX S' x = opX S' x.kind x.n x.s fs ∧ fs.length = AN ∧ (AN : Int) = argsN x.kind) := hide (by
          have h1 := (unhide HR).1
          rw [List.take_of_length_le (by have := unhide HAN; omega)] at h1
          exact ⟨by rw [unhide HEV, h1], by rw [evalL_len S' _ h1, ← unhide HAN], by rw [unhide HAN]; exact unhide HOK⟩)
        have HSM := hide (unhide HR).2.1
        have HO := hide (unhide HR).2.2.1
        have HBW := hide (unhide HR).2.2.2
        have hvb := (unhide HVB).grown (unhide HBW)
        have HV4 := hide hvb
        obtain ⟨x0, x1, x2, x3, xf⟩ := hvb.xb.cells
        obtain ⟨s0, s1, s2, s3, sf⟩ := hvb.sb.cells
        obtain ⟨kd, hkd⟩ : ∃ kd, kd = x.kind := ⟨_, rfl⟩
        have hkr : 1 ≤ kd ∧ kd ≤ 11 := by
          have h := (unhide HFS).2.2
          rw [← hkd] at h
          unfold argsN at h
          split at h
          · omega
          · split at h
            · omega
            · split at h <;> omega
        rw [← hkd] at x0 HFS
        have HK0 : Hid (x.kind = kd) := hide hkd.symm
        rw [← unhide HAN] at x3
        rw [unhide HSS] at s0 s1 s2 s3 HFS
        simp only at s0 s1 s2 s3
        have hkc : kd = 1 ∨ kd = 2 ∨ kd = 3 ∨ kd = 4 ∨ kd = 5 ∨ kd = 6 ∨ kd = 7 ∨ kd = 8 ∨ kd = 9 ∨ kd = 10 ∨ kd = 11 := by omega
        have HBE : Hid (Below w.heap.size w wr) := hide hvb.bel
        have HGE : Hid (w.heap.size ≤ r) := hide hvb.ge
        have hgw : w.heap.size ≤ wr.heap.size := (unhide HBE).size
        have HFB := hide hvb.fb
        clear HIH HEV HR hvb hkd hkr HAT HVB HOK
        go_upto_region 7 with fail
        rcases hkc with rfl | rfl | rfl | rfl | rfl | rfl | rfl | rfl | rfl | rfl | rfl
        · have HX : Hid (evalX ⟨st, sl, gl, sa, sc, ga, gc, mp⟩ x = .ok ⟨[], false, x.n, []⟩) := hide (by rw [(unhide HFS).1]; rfl)
          have HSF : Hid (small ⟨[], false, x.n, []⟩) := hide ⟨by simp, (unhide HAC).2.2.2.1⟩
          go_wp2_with (go_at_call 103; refine (integer_any x.n _).mono ?_; rintro e w6 ⟨rfl, b6⟩; have hf6 := (unhide HFB).below b6 (Nat.le_refl _); obtain ⟨r0, r1, r2, r3, rf⟩ := hf6.cells; have HE2 := hide (hf6.put [] false x.n []); have BE := hide (below_put ((unhide HBE).trans (b6.mono hgw)) (unhide HGE) [] false x.n []); clear b6 hf6)
          refine bodyPost_ret (results_cell_row rfl _ _ r 48 (fv ⟨[], false, x.n, []⟩) (0, 0) _ rfl (unhide HE2) Tryz.underlying48 rfl sizeField) rfl ?_
          rw [unhide HX]
          exact ⟨⟨rfl, unhide HSF⟩, unhide BE⟩
        · have HX : Hid (evalX ⟨st, sl, gl, sa, sc, ga, gc, mp⟩ x = .ok ⟨[], true, 0, x.s⟩) := hide (by rw [(unhide HFS).1]; rfl)
          have HSF : Hid (small ⟨[], true, 0, x.s⟩) := hide ⟨(unhide HAC).2.2.2.2, zero64⟩
          go_wp2_with (go_at_call 104; refine (text_any x.s _).mono ?_; rintro e w6 ⟨rfl, b6⟩; have hf6 := (unhide HFB).below b6 (Nat.le_refl _); obtain ⟨r0, r1, r2, r3, rf⟩ := hf6.cells; have HE2 := hide (hf6.put [] true 0 x.s); have BE := hide (below_put ((unhide HBE).trans (b6.mono hgw)) (unhide HGE) [] true 0 x.s); clear b6 hf6)
          refine bodyPost_ret (results_cell_row rfl _ _ r 48 (fv ⟨[], true, 0, x.s⟩) (0, 0) _ rfl (unhide HE2) Tryz.underlying48 rfl sizeField) rfl ?_
          rw [unhide HX]
          exact ⟨⟨rfl, unhide HSF⟩, unhide BE⟩
        · have hat : ∀ W, Below w3.heap.size w3 W → FdL W (.slice sa sl.length sc) sl := fun W hW => by
            have := ((unhide HSA).grown hW).st
            rw [unhide HSS] at this
            exact this
          have HFO : Hid (Calls Tryz.prog 106 #[.agg (scv ⟨st, sl, gl, sa, sc, ga, gc, mp⟩), .agg (exV x a c)] wr.drew fun e w' => e = .returned (.slice sa sl.length sc) ∧ Below wr.drew.heap.size wr.drew w') := hide (by
            have := fieldsOf_any ⟨st, sl, gl, sa, sc, ga, gc, mp⟩ ⟨x, a, c⟩ wr.drew
            simp only at this
            rw [show x.kind = 3 from unhide HK0] at this
            exact this)
          have HVO : Hid (∀ W, Below wr.heap.size wr W → Calls Tryz.prog 105 #[.slice sa sl.length sc, sv x.s] W (EndsV W (valR sl x.s))) := hide (fun W hW => valueOf_any sa _ sc sl x.s W (hat W ((unhide HBW).trans (hW.mono (unhide HBW).size))))
          have HX0 : Hid (evalX ⟨st, sl, gl, sa, sc, ga, gc, mp⟩ x = if hasF sl x.s then .ok ⟨[], (getA sl x.s).text, (getA sl x.s).n, (getA sl x.s).s⟩ else .error 133) := hide (by rw [(unhide HFS).1]; rfl)
          have HSM2 : Hid (hasF sl x.s = true → small (getA sl x.s)) := hide (fun h => by
            have h1 := (unhide HSA).fs
            rw [unhide HSS] at h1
            exact h1 _ (List.mem_of_getElem? (at_get h).2))
          unfold valR at HVO
          obtain ⟨H, hH⟩ : ∃ H, H = hasF sl x.s := ⟨_, rfl⟩
          obtain ⟨⟨gn, gt, gi, gz⟩, hG⟩ : ∃ G, G = getA sl x.s := ⟨_, rfl⟩
          rw [← hG, ← hH] at HVO HX0 HSM2
          simp only at HVO HX0 HSM2
          clear hH hG hat
          have HSP := hide (box_cells (unhide HV4) (unhide HSS))
          have HPL := hide (And.intro (unhide HV4).sb.lt (unhide HV4).xb.lt)
          go_upto_region 14 with fail
          refine wp_region_peel (n := 6) (L := ?Lx1) (S := fun w' => (w'.cell? ⟨p, 0, none⟩ = some (sv st) ∧ w'.cell? ⟨p, 1, none⟩ = some (.slice sa sl.length sc) ∧ w'.cell? ⟨p, 2, none⟩ = some (.slice ga gl.length gc) ∧ w'.cell? ⟨p, 3, none⟩ = some (.map (some mp))) ∧ (w'.cell? ⟨q, 0, none⟩ = some (.int .i64 x.kind) ∧ w'.cell? ⟨q, 1, none⟩ = some (.int .i64 x.n) ∧ w'.cell? ⟨q, 2, none⟩ = some (sv x.s) ∧ w'.cell? ⟨q, 3, none⟩ = some (.slice a x.args.length c))) (by kernel_rfl) (by rfl) ?hLx1 ?hpx1 (unhide HSP wr.drew rfl rfl) (fun hS => ?_)
          case hLx1 => (simp only [List.getElem?_toArray, List.getElem?_cons_succ, List.getElem?_cons_zero]; rfl)
          case hpx1 => kernel_rfl
          simp only [List.pop_toArray, List.dropLast_cons_cons, List.dropLast_singleton]
          refine wpAnyH_take (i := 0) (oi := ?ox2) (v := ?vx2) ?hx2 (by kernel_rfl) (by kernel_rfl) (by kernel_rfl) ?qx2 (Or.inl ⟨?wx2, ?yx2⟩) hS ?rx2
          case hx2 => (simp only [List.getElem?_toArray, List.getElem?_cons_zero]; rfl)
          case wx2 => rfl
          case qx2 => exact fun _ _ _ h => h
          case yx2 =>
            intro w' hSw
            try dsimp only at hSw
            go_simp
            with_reducible rfl
          try simp only [Act.put, List.setIfInBounds_toArray, List.set_cons_zero, List.set_cons_succ]
          refine wpAnyH_take (i := 1) (oi := ?ox3) (v := ?vx3) ?hx3 (by kernel_rfl) (by kernel_rfl) (by kernel_rfl) ?qx3 (Or.inl ⟨?wx3, ?yx3⟩) hS ?rx3
          case hx3 => (simp only [List.getElem?_toArray, List.getElem?_cons_succ, List.getElem?_cons_zero]; rfl)
          case wx3 => rfl
          case qx3 => exact fun _ _ _ h => h
          case yx3 =>
            intro w' hSw
            try dsimp only at hSw
            go_simp
            with_reducible rfl
          try simp only [Act.put, List.setIfInBounds_toArray, List.set_cons_zero, List.set_cons_succ]
          refine wpAnyH_take (i := 3) (oi := ?ox4) (v := ?vx4) ?hx4 (by kernel_rfl) (by kernel_rfl) (by kernel_rfl) ?qx4 (Or.inl ⟨?wx4, ?yx4⟩) hS ?rx4
          case hx4 => (simp only [List.getElem?_toArray, List.getElem?_cons_succ, List.getElem?_cons_zero]; rfl)
          case wx4 => rfl
          case qx4 => exact fun _ _ _ h => h
          case yx4 =>
            intro w' hSw
            try dsimp only at hSw
            go_simp
            with_reducible rfl
          try simp only [Act.put, List.setIfInBounds_toArray, List.set_cons_zero, List.set_cons_succ]
          refine wpAnyH_take (i := 4) (oi := ?ox5) (v := ?vx5) ?hx5 (by kernel_rfl) (by kernel_rfl) (by kernel_rfl) ?qx5 (Or.inl ⟨?wx5, ?yx5⟩) hS ?rx5
          case hx5 => (simp only [List.getElem?_toArray, List.getElem?_cons_succ, List.getElem?_cons_zero]; rfl)
          case wx5 => rfl
          case qx5 => exact fun _ _ _ h => h
          case yx5 =>
            intro w' hSw
            try dsimp only at hSw
            go_simp
            with_reducible rfl
          try simp only [Act.put, List.setIfInBounds_toArray, List.set_cons_zero, List.set_cons_succ]
          refine wpAnyH_ready (rs := [2]) (by kernel_rfl) (by simp) ?_
          refine AllReadyH.cons (o := ?ox6) ?hx6 (fun K hK => ?_) AllReadyH.nil
          case hx6 => (simp only [List.getElem?_toArray, List.getElem?_cons_succ, List.getElem?_cons_zero]; rfl)
          go_simp
          refine (unhide HFO).mono ?_
          rintro e w5 ⟨rfl, b5⟩
          have B5 := hide ((Below.refl wr.heap.size wr).drew.trans b5)
          clear b5
          refine hK.out _ _ ((unhide HSP w5 ((unhide B5).block p (unhide HPL).1) ((unhide B5).block q (unhide HPL).2))) (fun hS => ?_)
          clear hK K
          try simp only [Act.put, List.setIfInBounds_toArray, List.set_cons_zero, List.set_cons_succ]
          refine wpAnyH_ready (rs := [5]) (by kernel_rfl) (by simp) ?_
          refine AllReadyH.cons (o := ?ox7) ?hx7 (fun K hK => ?_) AllReadyH.nil
          case hx7 => (simp only [List.getElem?_toArray, List.getElem?_cons_succ, List.getElem?_cons_zero]; rfl)
          go_simp
          cases H with
          | false =>
            have HX := HX0
            refine (unhide HVO _ (unhide B5)).mono ?_
            rintro e w6 ⟨rfl, b6⟩
            have B6 := hide ((unhide B5).trans (b6.mono (unhide B5).size))
            clear b6
            refine ⟨rfl, ?_⟩
            rw [unhide HX]
            exact ⟨rfl, (unhide HBE).trans ((unhide B6).mono hgw)⟩
          | true =>
            have HX := HX0
            have HSF : Hid (small ⟨[], gt, gi, gz⟩) := hide ⟨(unhide HSM2 rfl).1, (unhide HSM2 rfl).2⟩
            refine (unhide HVO _ (unhide B5)).mono ?_
            rintro e w6 ⟨rfl, b6⟩
            have B6 := hide ((unhide B5).trans (b6.mono (unhide B5).size))
            clear b6
            have hf6 := (unhide HFB).below (unhide B6) (Nat.le_refl _)
            obtain ⟨r0, r1, r2, r3, rf⟩ := hf6.cells
            have HE2 := hide (hf6.put [] gt gi gz)
            have BE := hide (below_put ((unhide HBE).trans ((unhide B6).mono hgw)) (unhide HGE) [] gt gi gz)
            clear hf6
            refine hK.out _ _ ((unhide HSP w6 ((unhide B6).block p (unhide HPL).1) ((unhide B6).block q (unhide HPL).2))) (fun hS => ?_)
            clear hK K
            try simp only [Act.put, List.setIfInBounds_toArray, List.set_cons_zero, List.set_cons_succ]
            refine wpAnyH_done (by kernel_rfl) ?_ _
            clear hS
            unfold peelQ
            go_wp2
            refine bodyPost_ret (results_cell_row rfl _ _ r 48 (fv ⟨[], gt, gi, gz⟩) (0, 0) _ rfl (unhide HE2) Tryz.underlying48 rfl sizeField) rfl ?_
            rw [unhide HX]
            exact ⟨⟨rfl, unhide HSF⟩, unhide BE⟩
        · have hat : ∀ W, Below w3.heap.size w3 W → FdL W (.slice ga gl.length gc) gl := fun W hW => by
            have := ((unhide HSA).grown hW).gv
            rw [unhide HSS] at this
            exact this
          have HFO : Hid (Calls Tryz.prog 106 #[.agg (scv ⟨st, sl, gl, sa, sc, ga, gc, mp⟩), .agg (exV x a c)] wr.drew fun e w' => e = .returned (.slice ga gl.length gc) ∧ Below wr.drew.heap.size wr.drew w') := hide (by
            have := fieldsOf_any ⟨st, sl, gl, sa, sc, ga, gc, mp⟩ ⟨x, a, c⟩ wr.drew
            simp only at this
            rw [show x.kind = 4 from unhide HK0] at this
            exact this)
          have HVO : Hid (∀ W, Below wr.heap.size wr W → Calls Tryz.prog 105 #[.slice ga gl.length gc, sv x.s] W (EndsV W (valR gl x.s))) := hide (fun W hW => valueOf_any ga _ gc gl x.s W (hat W ((unhide HBW).trans (hW.mono (unhide HBW).size))))
          have HX0 : Hid (evalX ⟨st, sl, gl, sa, sc, ga, gc, mp⟩ x = if hasF gl x.s then .ok ⟨[], (getA gl x.s).text, (getA gl x.s).n, (getA gl x.s).s⟩ else .error 133) := hide (by rw [(unhide HFS).1]; rfl)
          have HSM2 : Hid (hasF gl x.s = true → small (getA gl x.s)) := hide (fun h => by
            have h1 := (unhide HSA).fg
            rw [unhide HSS] at h1
            exact h1 _ (List.mem_of_getElem? (at_get h).2))
          unfold valR at HVO
          obtain ⟨H, hH⟩ : ∃ H, H = hasF gl x.s := ⟨_, rfl⟩
          obtain ⟨⟨gn, gt, gi, gz⟩, hG⟩ : ∃ G, G = getA gl x.s := ⟨_, rfl⟩
          rw [← hG, ← hH] at HVO HX0 HSM2
          simp only at HVO HX0 HSM2
          clear hH hG hat
          have HSP := hide (box_cells (unhide HV4) (unhide HSS))
          have HPL := hide (And.intro (unhide HV4).sb.lt (unhide HV4).xb.lt)
          go_upto_region 14 with fail
          refine wp_region_peel (n := 6) (L := ?Lx8) (S := fun w' => (w'.cell? ⟨p, 0, none⟩ = some (sv st) ∧ w'.cell? ⟨p, 1, none⟩ = some (.slice sa sl.length sc) ∧ w'.cell? ⟨p, 2, none⟩ = some (.slice ga gl.length gc) ∧ w'.cell? ⟨p, 3, none⟩ = some (.map (some mp))) ∧ (w'.cell? ⟨q, 0, none⟩ = some (.int .i64 x.kind) ∧ w'.cell? ⟨q, 1, none⟩ = some (.int .i64 x.n) ∧ w'.cell? ⟨q, 2, none⟩ = some (sv x.s) ∧ w'.cell? ⟨q, 3, none⟩ = some (.slice a x.args.length c))) (by kernel_rfl) (by rfl) ?hLx8 ?hpx8 (unhide HSP wr.drew rfl rfl) (fun hS => ?_)
          case hLx8 => (simp only [List.getElem?_toArray, List.getElem?_cons_succ, List.getElem?_cons_zero]; rfl)
          case hpx8 => kernel_rfl
          simp only [List.pop_toArray, List.dropLast_cons_cons, List.dropLast_singleton]
          refine wpAnyH_take (i := 0) (oi := ?ox9) (v := ?vx9) ?hx9 (by kernel_rfl) (by kernel_rfl) (by kernel_rfl) ?qx9 (Or.inl ⟨?wx9, ?yx9⟩) hS ?rx9
          case hx9 => (simp only [List.getElem?_toArray, List.getElem?_cons_zero]; rfl)
          case wx9 => rfl
          case qx9 => exact fun _ _ _ h => h
          case yx9 =>
            intro w' hSw
            try dsimp only at hSw
            go_simp
            with_reducible rfl
          try simp only [Act.put, List.setIfInBounds_toArray, List.set_cons_zero, List.set_cons_succ]
          refine wpAnyH_take (i := 1) (oi := ?ox10) (v := ?vx10) ?hx10 (by kernel_rfl) (by kernel_rfl) (by kernel_rfl) ?qx10 (Or.inl ⟨?wx10, ?yx10⟩) hS ?rx10
          case hx10 => (simp only [List.getElem?_toArray, List.getElem?_cons_succ, List.getElem?_cons_zero]; rfl)
          case wx10 => rfl
          case qx10 => exact fun _ _ _ h => h
          case yx10 =>
            intro w' hSw
            try dsimp only at hSw
            go_simp
            with_reducible rfl
          try simp only [Act.put, List.setIfInBounds_toArray, List.set_cons_zero, List.set_cons_succ]
          refine wpAnyH_take (i := 3) (oi := ?ox11) (v := ?vx11) ?hx11 (by kernel_rfl) (by kernel_rfl) (by kernel_rfl) ?qx11 (Or.inl ⟨?wx11, ?yx11⟩) hS ?rx11
          case hx11 => (simp only [List.getElem?_toArray, List.getElem?_cons_succ, List.getElem?_cons_zero]; rfl)
          case wx11 => rfl
          case qx11 => exact fun _ _ _ h => h
          case yx11 =>
            intro w' hSw
            try dsimp only at hSw
            go_simp
            with_reducible rfl
          try simp only [Act.put, List.setIfInBounds_toArray, List.set_cons_zero, List.set_cons_succ]
          refine wpAnyH_take (i := 4) (oi := ?ox12) (v := ?vx12) ?hx12 (by kernel_rfl) (by kernel_rfl) (by kernel_rfl) ?qx12 (Or.inl ⟨?wx12, ?yx12⟩) hS ?rx12
          case hx12 => (simp only [List.getElem?_toArray, List.getElem?_cons_succ, List.getElem?_cons_zero]; rfl)
          case wx12 => rfl
          case qx12 => exact fun _ _ _ h => h
          case yx12 =>
            intro w' hSw
            try dsimp only at hSw
            go_simp
            with_reducible rfl
          try simp only [Act.put, List.setIfInBounds_toArray, List.set_cons_zero, List.set_cons_succ]
          refine wpAnyH_ready (rs := [2]) (by kernel_rfl) (by simp) ?_
          refine AllReadyH.cons (o := ?ox13) ?hx13 (fun K hK => ?_) AllReadyH.nil
          case hx13 => (simp only [List.getElem?_toArray, List.getElem?_cons_succ, List.getElem?_cons_zero]; rfl)
          go_simp
          refine (unhide HFO).mono ?_
          rintro e w5 ⟨rfl, b5⟩
          have B5 := hide ((Below.refl wr.heap.size wr).drew.trans b5)
          clear b5
          refine hK.out _ _ ((unhide HSP w5 ((unhide B5).block p (unhide HPL).1) ((unhide B5).block q (unhide HPL).2))) (fun hS => ?_)
          clear hK K
          try simp only [Act.put, List.setIfInBounds_toArray, List.set_cons_zero, List.set_cons_succ]
          refine wpAnyH_ready (rs := [5]) (by kernel_rfl) (by simp) ?_
          refine AllReadyH.cons (o := ?ox14) ?hx14 (fun K hK => ?_) AllReadyH.nil
          case hx14 => (simp only [List.getElem?_toArray, List.getElem?_cons_succ, List.getElem?_cons_zero]; rfl)
          go_simp
          cases H with
          | false =>
            have HX := HX0
            refine (unhide HVO _ (unhide B5)).mono ?_
            rintro e w6 ⟨rfl, b6⟩
            have B6 := hide ((unhide B5).trans (b6.mono (unhide B5).size))
            clear b6
            refine ⟨rfl, ?_⟩
            rw [unhide HX]
            exact ⟨rfl, (unhide HBE).trans ((unhide B6).mono hgw)⟩
          | true =>
            have HX := HX0
            have HSF : Hid (small ⟨[], gt, gi, gz⟩) := hide ⟨(unhide HSM2 rfl).1, (unhide HSM2 rfl).2⟩
            refine (unhide HVO _ (unhide B5)).mono ?_
            rintro e w6 ⟨rfl, b6⟩
            have B6 := hide ((unhide B5).trans (b6.mono (unhide B5).size))
            clear b6
            have hf6 := (unhide HFB).below (unhide B6) (Nat.le_refl _)
            obtain ⟨r0, r1, r2, r3, rf⟩ := hf6.cells
            have HE2 := hide (hf6.put [] gt gi gz)
            have BE := hide (below_put ((unhide HBE).trans ((unhide B6).mono hgw)) (unhide HGE) [] gt gi gz)
            clear hf6
            refine hK.out _ _ ((unhide HSP w6 ((unhide B6).block p (unhide HPL).1) ((unhide B6).block q (unhide HPL).2))) (fun hS => ?_)
            clear hK K
            try simp only [Act.put, List.setIfInBounds_toArray, List.set_cons_zero, List.set_cons_succ]
            refine wpAnyH_done (by kernel_rfl) ?_ _
            clear hS
            unfold peelQ
            go_wp2
            refine bodyPost_ret (results_cell_row rfl _ _ r 48 (fv ⟨[], gt, gi, gz⟩) (0, 0) _ rfl (unhide HE2) Tryz.underlying48 rfl sizeField) rfl ?_
            rw [unhide HX]
            exact ⟨⟨rfl, unhide HSF⟩, unhide BE⟩
        · have HX : Hid (evalX ⟨st, sl, gl, sa, sc, ga, gc, mp⟩ x = .ok ⟨[], true, 0, st⟩) := hide (by rw [(unhide HFS).1]; rfl)
          have HSF : Hid (small ⟨[], true, 0, st⟩) := hide ⟨by have := (unhide HSA).len; rw [unhide HSS] at this; exact this, zero64⟩
          go_wp2_with (go_at_call 104; refine (text_any st _).mono ?_; rintro e w6 ⟨rfl, b6⟩; have hf6 := (unhide HFB).below b6 (Nat.le_refl _); obtain ⟨r0, r1, r2, r3, rf⟩ := hf6.cells; have HE2 := hide (hf6.put [] true 0 st); have BE := hide (below_put ((unhide HBE).trans (b6.mono hgw)) (unhide HGE) [] true 0 st); clear b6 hf6)
          refine bodyPost_ret (results_cell_row rfl _ _ r 48 (fv ⟨[], true, 0, st⟩) (0, 0) _ rfl (unhide HE2) Tryz.underlying48 rfl sizeField) rfl ?_
          rw [unhide HX]
          exact ⟨⟨rfl, unhide HSF⟩, unhide BE⟩
        · obtain ⟨A, A2, rfl⟩ : ∃ A A2, fs = [A, A2] := by
            have h1 := (unhide HFS).2.1
            have h2 := (unhide HFS).2.2
            rw [show argsN 6 = 2 from rfl] at h2
            exact len_two (by omega)
          have hsA := unhide HSM A (by simp)
          have hsB := unhide HSM A2 (by simp)
          obtain ⟨an, at_, ai, az⟩ := A
          obtain ⟨bn, bt, bi, bz⟩ := A2
          rcases (unhide HO).2 with ⟨_, h0⟩ | ⟨g, cap, cur, hu5, _, _, hcap, hcm, _⟩
          · simp at h0
          · have ho := unhide HO
            rw [hu5] at ho
            have HSG : Hid (∀ W, Below wr.heap.size wr W → (W.cell? ⟨g, 0, none⟩ = some (sv an) ∧ W.cell? ⟨g, 1, none⟩ = some (.bool at_) ∧ W.cell? ⟨g, 2, none⟩ = some (.int .i64 ai) ∧ W.cell? ⟨g, 3, none⟩ = some (sv az)) ∧ (W.cell? ⟨g, 4, none⟩ = some (sv bn) ∧ W.cell? ⟨g, 5, none⟩ = some (.bool bt) ∧ W.cell? ⟨g, 6, none⟩ = some (.int .i64 bi) ∧ W.cell? ⟨g, 7, none⟩ = some (sv bz))) := hide (fun W hW => by
              have h := ho.below hW (Nat.le_refl _)
              have h0 := (h.slots 0 (by simp)).1
              have h1 := (h.slots 1 (by simp)).1
              exact ⟨h0, h1⟩)
            subst hu5
            clear ho hcap hcm
            have HSA2 := hide hsA
            have HSB2 := hide hsB
            clear hsA hsB
            rw [show ([⟨an, at_, ai, az⟩, ⟨bn, bt, bi, bz⟩] : List Fld).length = 2 from rfl]
            have R0 : Hid (Below wr.heap.size wr wr.drew) := hide (Below.refl _ _).drew
            have HSP := hide (box_cells (unhide HV4) (unhide HSS))
            have HPL := hide (And.intro (unhide HV4).sb.lt (unhide HV4).xb.lt)
            rw [show x.kind = 6 from unhide HK0] at HSP
            have HTG : Hid (∀ W, Below wr.heap.size wr W → Calls Tryz.prog 111 #[.agg (scv ⟨st, sl, gl, sa, sc, ga, gc, mp⟩), .int .i64 6, .int .i64 ai, .int .i64 bi] W (EndsV W (togR 6 ai bi))) := hide (fun W hW => together_any ⟨st, sl, gl, sa, sc, ga, gc, mp⟩ 6 ai bi W (by have := ((unhide HSA).grown ((unhide HBW).trans (hW.mono (unhide HBW).size))); rw [unhide HSS] at this; exact this) (by omega) (unhide HSA2).2 (unhide HSB2).2)
            cases at_ with
            | true =>
              have HX : Hid (evalX ⟨st, sl, gl, sa, sc, ga, gc, mp⟩ x = .error 134) := hide (by rw [(unhide HFS).1]; rfl)
              go_upto_region 23 with fail
              refine wp_region_peel (n := 12) (L := ?Lx15) (S := fun w' => ((w'.cell? ⟨p, 0, none⟩ = some (sv st) ∧ w'.cell? ⟨p, 1, none⟩ = some (.slice sa sl.length sc) ∧ w'.cell? ⟨p, 2, none⟩ = some (.slice ga gl.length gc) ∧ w'.cell? ⟨p, 3, none⟩ = some (.map (some mp))) ∧ (w'.cell? ⟨q, 0, none⟩ = some (.int .i64 6) ∧ w'.cell? ⟨q, 1, none⟩ = some (.int .i64 x.n) ∧ w'.cell? ⟨q, 2, none⟩ = some (sv x.s) ∧ w'.cell? ⟨q, 3, none⟩ = some (.slice a x.args.length c))) ∧ ((w'.cell? ⟨g, 0, none⟩ = some (sv an) ∧ w'.cell? ⟨g, 1, none⟩ = some (.bool true) ∧ w'.cell? ⟨g, 2, none⟩ = some (.int .i64 ai) ∧ w'.cell? ⟨g, 3, none⟩ = some (sv az)) ∧ (w'.cell? ⟨g, 4, none⟩ = some (sv bn) ∧ w'.cell? ⟨g, 5, none⟩ = some (.bool bt) ∧ w'.cell? ⟨g, 6, none⟩ = some (.int .i64 bi) ∧ w'.cell? ⟨g, 7, none⟩ = some (sv bz)))) (by kernel_rfl) (by rfl) ?hLx15 ?hpx15 (⟨unhide HSP wr.drew ((unhide R0).block p (unhide HPL).1) ((unhide R0).block q (unhide HPL).2), unhide HSG wr.drew (unhide R0)⟩) (fun hS => ?_)
              case hLx15 => (simp only [List.getElem?_toArray, List.getElem?_cons_succ, List.getElem?_cons_zero]; rfl)
              case hpx15 => kernel_rfl
              simp only [List.pop_toArray, List.dropLast_cons_cons, List.dropLast_singleton]
              refine wpAnyH_take (i := 0) (oi := ?ox16) (v := ?vx16) ?hx16 (by kernel_rfl) (by kernel_rfl) (by kernel_rfl) ?qx16 (Or.inl ⟨?wx16, ?yx16⟩) hS ?rx16
              case hx16 => (simp only [List.getElem?_toArray, List.getElem?_cons_zero]; rfl)
              case wx16 => rfl
              case qx16 => exact fun _ _ _ h => h
              case yx16 =>
                intro w' hSw
                try dsimp only at hSw
                go_simp
                with_reducible rfl
              try simp only [Act.put, List.setIfInBounds_toArray, List.set_cons_zero, List.set_cons_succ]
              refine wpAnyH_take (i := 1) (oi := ?ox17) (v := ?vx17) ?hx17 (by kernel_rfl) (by kernel_rfl) (by kernel_rfl) ?qx17 (Or.inl ⟨?wx17, ?yx17⟩) hS ?rx17
              case hx17 => (simp only [List.getElem?_toArray, List.getElem?_cons_succ, List.getElem?_cons_zero]; rfl)
              case wx17 => rfl
              case qx17 => exact fun _ _ _ h => h
              case yx17 =>
                intro w' hSw
                try dsimp only at hSw
                go_simp
                with_reducible rfl
              try simp only [Act.put, List.setIfInBounds_toArray, List.set_cons_zero, List.set_cons_succ]
              refine wpAnyH_take (i := 2) (oi := ?ox18) (v := ?vx18) ?hx18 (by kernel_rfl) (by kernel_rfl) (by kernel_rfl) ?qx18 (Or.inl ⟨?wx18, ?yx18⟩) hS ?rx18
              case hx18 => (simp only [List.getElem?_toArray, List.getElem?_cons_succ, List.getElem?_cons_zero]; rfl)
              case wx18 => rfl
              case qx18 => exact fun _ _ _ h => h
              case yx18 =>
                intro w' hSw
                try dsimp only at hSw
                go_simp
                with_reducible rfl
              try simp only [Act.put, List.setIfInBounds_toArray, List.set_cons_zero, List.set_cons_succ]
              refine wpAnyH_take (i := 3) (oi := ?ox19) (v := ?vx19) ?hx19 (by kernel_rfl) (by kernel_rfl) (by kernel_rfl) ?qx19 (Or.inl ⟨?wx19, ?yx19⟩) hS ?rx19
              case hx19 => (simp only [List.getElem?_toArray, List.getElem?_cons_succ, List.getElem?_cons_zero]; rfl)
              case wx19 => rfl
              case qx19 => exact fun _ _ _ h => h
              case yx19 =>
                intro w' hSw
                try dsimp only at hSw
                go_simp
                with_reducible rfl
              try simp only [Act.put, List.setIfInBounds_toArray, List.set_cons_zero, List.set_cons_succ]
              refine wpAnyH_take (i := 4) (oi := ?ox20) (v := ?vx20) ?hx20 (by kernel_rfl) (by kernel_rfl) (by kernel_rfl) ?qx20 (Or.inl ⟨?wx20, ?yx20⟩) hS ?rx20
              case hx20 => (simp only [List.getElem?_toArray, List.getElem?_cons_succ, List.getElem?_cons_zero]; rfl)
              case wx20 => rfl
              case qx20 => exact fun _ _ _ h => h
              case yx20 =>
                intro w' hSw
                try dsimp only at hSw
                go_simp
                with_reducible rfl
              try simp only [Act.put, List.setIfInBounds_toArray, List.set_cons_zero, List.set_cons_succ]
              refine wpAnyH_take (i := 5) (oi := ?ox21) (v := ?vx21) ?hx21 (by kernel_rfl) (by kernel_rfl) (by kernel_rfl) ?qx21 (Or.inl ⟨?wx21, ?yx21⟩) hS ?rx21
              case hx21 => (simp only [List.getElem?_toArray, List.getElem?_cons_succ, List.getElem?_cons_zero]; rfl)
              case wx21 => rfl
              case qx21 => exact fun _ _ _ h => h
              case yx21 =>
                intro w' hSw
                try dsimp only at hSw
                go_simp
                with_reducible rfl
              try simp only [Act.put, List.setIfInBounds_toArray, List.set_cons_zero, List.set_cons_succ]
              refine wpAnyH_take (i := 7) (oi := ?ox22) (v := ?vx22) ?hx22 (by kernel_rfl) (by kernel_rfl) (by kernel_rfl) ?qx22 (Or.inl ⟨?wx22, ?yx22⟩) hS ?rx22
              case hx22 => (simp only [List.getElem?_toArray, List.getElem?_cons_succ, List.getElem?_cons_zero]; rfl)
              case wx22 => rfl
              case qx22 => exact fun _ _ _ h => h
              case yx22 =>
                intro w' hSw
                try dsimp only at hSw
                go_simp
                with_reducible rfl
              try simp only [Act.put, List.setIfInBounds_toArray, List.set_cons_zero, List.set_cons_succ]
              refine wpAnyH_take (i := 8) (oi := ?ox23) (v := ?vx23) ?hx23 (by kernel_rfl) (by kernel_rfl) (by kernel_rfl) ?qx23 (Or.inl ⟨?wx23, ?yx23⟩) hS ?rx23
              case hx23 => (simp only [List.getElem?_toArray, List.getElem?_cons_succ, List.getElem?_cons_zero]; rfl)
              case wx23 => rfl
              case qx23 => exact fun _ _ _ h => h
              case yx23 =>
                intro w' hSw
                try dsimp only at hSw
                go_simp
                with_reducible rfl
              try simp only [Act.put, List.setIfInBounds_toArray, List.set_cons_zero, List.set_cons_succ]
              refine wpAnyH_take (i := 9) (oi := ?ox24) (v := ?vx24) ?hx24 (by kernel_rfl) (by kernel_rfl) (by kernel_rfl) ?qx24 (Or.inl ⟨?wx24, ?yx24⟩) hS ?rx24
              case hx24 => (simp only [List.getElem?_toArray, List.getElem?_cons_succ, List.getElem?_cons_zero]; rfl)
              case wx24 => rfl
              case qx24 => exact fun _ _ _ h => h
              case yx24 =>
                intro w' hSw
                try dsimp only at hSw
                go_simp
                with_reducible rfl
              try simp only [Act.put, List.setIfInBounds_toArray, List.set_cons_zero, List.set_cons_succ]
              refine wpAnyH_ready (rs := [6]) (by kernel_rfl) (by simp) ?_
              refine AllReadyH.cons (o := ?ox25) ?hx25 (fun K hK => ?_) AllReadyH.nil
              case hx25 => (simp only [List.getElem?_toArray, List.getElem?_cons_succ, List.getElem?_cons_zero]; rfl)
              go_simp
              refine (integerOf_any ⟨an, true, ai, az⟩ _).mono ?_
              rintro e w4 ⟨rfl, b4⟩
              have B4 := hide ((unhide R0).trans (b4.mono (unhide R0).size))
              clear b4
              refine ⟨rfl, ?_⟩
              rw [unhide HX]
              exact ⟨rfl, (unhide HBE).trans ((unhide B4).mono hgw)⟩
            | false =>
              cases bt with
              | true =>
                have HX : Hid (evalX ⟨st, sl, gl, sa, sc, ga, gc, mp⟩ x = .error 134) := hide (by rw [(unhide HFS).1]; rfl)
                go_upto_region 23 with fail
                refine wp_region_peel (n := 12) (L := ?Lx26) (S := fun w' => ((w'.cell? ⟨p, 0, none⟩ = some (sv st) ∧ w'.cell? ⟨p, 1, none⟩ = some (.slice sa sl.length sc) ∧ w'.cell? ⟨p, 2, none⟩ = some (.slice ga gl.length gc) ∧ w'.cell? ⟨p, 3, none⟩ = some (.map (some mp))) ∧ (w'.cell? ⟨q, 0, none⟩ = some (.int .i64 6) ∧ w'.cell? ⟨q, 1, none⟩ = some (.int .i64 x.n) ∧ w'.cell? ⟨q, 2, none⟩ = some (sv x.s) ∧ w'.cell? ⟨q, 3, none⟩ = some (.slice a x.args.length c))) ∧ ((w'.cell? ⟨g, 0, none⟩ = some (sv an) ∧ w'.cell? ⟨g, 1, none⟩ = some (.bool false) ∧ w'.cell? ⟨g, 2, none⟩ = some (.int .i64 ai) ∧ w'.cell? ⟨g, 3, none⟩ = some (sv az)) ∧ (w'.cell? ⟨g, 4, none⟩ = some (sv bn) ∧ w'.cell? ⟨g, 5, none⟩ = some (.bool true) ∧ w'.cell? ⟨g, 6, none⟩ = some (.int .i64 bi) ∧ w'.cell? ⟨g, 7, none⟩ = some (sv bz)))) (by kernel_rfl) (by rfl) ?hLx26 ?hpx26 (⟨unhide HSP wr.drew ((unhide R0).block p (unhide HPL).1) ((unhide R0).block q (unhide HPL).2), unhide HSG wr.drew (unhide R0)⟩) (fun hS => ?_)
                case hLx26 => (simp only [List.getElem?_toArray, List.getElem?_cons_succ, List.getElem?_cons_zero]; rfl)
                case hpx26 => kernel_rfl
                simp only [List.pop_toArray, List.dropLast_cons_cons, List.dropLast_singleton]
                refine wpAnyH_take (i := 0) (oi := ?ox27) (v := ?vx27) ?hx27 (by kernel_rfl) (by kernel_rfl) (by kernel_rfl) ?qx27 (Or.inl ⟨?wx27, ?yx27⟩) hS ?rx27
                case hx27 => (simp only [List.getElem?_toArray, List.getElem?_cons_zero]; rfl)
                case wx27 => rfl
                case qx27 => exact fun _ _ _ h => h
                case yx27 =>
                  intro w' hSw
                  try dsimp only at hSw
                  go_simp
                  with_reducible rfl
                try simp only [Act.put, List.setIfInBounds_toArray, List.set_cons_zero, List.set_cons_succ]
                refine wpAnyH_take (i := 1) (oi := ?ox28) (v := ?vx28) ?hx28 (by kernel_rfl) (by kernel_rfl) (by kernel_rfl) ?qx28 (Or.inl ⟨?wx28, ?yx28⟩) hS ?rx28
                case hx28 => (simp only [List.getElem?_toArray, List.getElem?_cons_succ, List.getElem?_cons_zero]; rfl)
                case wx28 => rfl
                case qx28 => exact fun _ _ _ h => h
                case yx28 =>
                  intro w' hSw
                  try dsimp only at hSw
                  go_simp
                  with_reducible rfl
                try simp only [Act.put, List.setIfInBounds_toArray, List.set_cons_zero, List.set_cons_succ]
                refine wpAnyH_take (i := 2) (oi := ?ox29) (v := ?vx29) ?hx29 (by kernel_rfl) (by kernel_rfl) (by kernel_rfl) ?qx29 (Or.inl ⟨?wx29, ?yx29⟩) hS ?rx29
                case hx29 => (simp only [List.getElem?_toArray, List.getElem?_cons_succ, List.getElem?_cons_zero]; rfl)
                case wx29 => rfl
                case qx29 => exact fun _ _ _ h => h
                case yx29 =>
                  intro w' hSw
                  try dsimp only at hSw
                  go_simp
                  with_reducible rfl
                try simp only [Act.put, List.setIfInBounds_toArray, List.set_cons_zero, List.set_cons_succ]
                refine wpAnyH_take (i := 3) (oi := ?ox30) (v := ?vx30) ?hx30 (by kernel_rfl) (by kernel_rfl) (by kernel_rfl) ?qx30 (Or.inl ⟨?wx30, ?yx30⟩) hS ?rx30
                case hx30 => (simp only [List.getElem?_toArray, List.getElem?_cons_succ, List.getElem?_cons_zero]; rfl)
                case wx30 => rfl
                case qx30 => exact fun _ _ _ h => h
                case yx30 =>
                  intro w' hSw
                  try dsimp only at hSw
                  go_simp
                  with_reducible rfl
                try simp only [Act.put, List.setIfInBounds_toArray, List.set_cons_zero, List.set_cons_succ]
                refine wpAnyH_take (i := 4) (oi := ?ox31) (v := ?vx31) ?hx31 (by kernel_rfl) (by kernel_rfl) (by kernel_rfl) ?qx31 (Or.inl ⟨?wx31, ?yx31⟩) hS ?rx31
                case hx31 => (simp only [List.getElem?_toArray, List.getElem?_cons_succ, List.getElem?_cons_zero]; rfl)
                case wx31 => rfl
                case qx31 => exact fun _ _ _ h => h
                case yx31 =>
                  intro w' hSw
                  try dsimp only at hSw
                  go_simp
                  with_reducible rfl
                try simp only [Act.put, List.setIfInBounds_toArray, List.set_cons_zero, List.set_cons_succ]
                refine wpAnyH_take (i := 5) (oi := ?ox32) (v := ?vx32) ?hx32 (by kernel_rfl) (by kernel_rfl) (by kernel_rfl) ?qx32 (Or.inl ⟨?wx32, ?yx32⟩) hS ?rx32
                case hx32 => (simp only [List.getElem?_toArray, List.getElem?_cons_succ, List.getElem?_cons_zero]; rfl)
                case wx32 => rfl
                case qx32 => exact fun _ _ _ h => h
                case yx32 =>
                  intro w' hSw
                  try dsimp only at hSw
                  go_simp
                  with_reducible rfl
                try simp only [Act.put, List.setIfInBounds_toArray, List.set_cons_zero, List.set_cons_succ]
                refine wpAnyH_take (i := 7) (oi := ?ox33) (v := ?vx33) ?hx33 (by kernel_rfl) (by kernel_rfl) (by kernel_rfl) ?qx33 (Or.inl ⟨?wx33, ?yx33⟩) hS ?rx33
                case hx33 => (simp only [List.getElem?_toArray, List.getElem?_cons_succ, List.getElem?_cons_zero]; rfl)
                case wx33 => rfl
                case qx33 => exact fun _ _ _ h => h
                case yx33 =>
                  intro w' hSw
                  try dsimp only at hSw
                  go_simp
                  with_reducible rfl
                try simp only [Act.put, List.setIfInBounds_toArray, List.set_cons_zero, List.set_cons_succ]
                refine wpAnyH_take (i := 8) (oi := ?ox34) (v := ?vx34) ?hx34 (by kernel_rfl) (by kernel_rfl) (by kernel_rfl) ?qx34 (Or.inl ⟨?wx34, ?yx34⟩) hS ?rx34
                case hx34 => (simp only [List.getElem?_toArray, List.getElem?_cons_succ, List.getElem?_cons_zero]; rfl)
                case wx34 => rfl
                case qx34 => exact fun _ _ _ h => h
                case yx34 =>
                  intro w' hSw
                  try dsimp only at hSw
                  go_simp
                  with_reducible rfl
                try simp only [Act.put, List.setIfInBounds_toArray, List.set_cons_zero, List.set_cons_succ]
                refine wpAnyH_take (i := 9) (oi := ?ox35) (v := ?vx35) ?hx35 (by kernel_rfl) (by kernel_rfl) (by kernel_rfl) ?qx35 (Or.inl ⟨?wx35, ?yx35⟩) hS ?rx35
                case hx35 => (simp only [List.getElem?_toArray, List.getElem?_cons_succ, List.getElem?_cons_zero]; rfl)
                case wx35 => rfl
                case qx35 => exact fun _ _ _ h => h
                case yx35 =>
                  intro w' hSw
                  try dsimp only at hSw
                  go_simp
                  with_reducible rfl
                try simp only [Act.put, List.setIfInBounds_toArray, List.set_cons_zero, List.set_cons_succ]
                refine wpAnyH_ready (rs := [6]) (by kernel_rfl) (by simp) ?_
                refine AllReadyH.cons (o := ?ox36) ?hx36 (fun K hK => ?_) AllReadyH.nil
                case hx36 => (simp only [List.getElem?_toArray, List.getElem?_cons_succ, List.getElem?_cons_zero]; rfl)
                go_simp
                refine (integerOf_any ⟨an, false, ai, az⟩ _).mono ?_
                rintro e w4 ⟨rfl, b4⟩
                have B4 := hide ((unhide R0).trans (b4.mono (unhide R0).size))
                clear b4
                refine hK.out _ _ (⟨unhide HSP w4 ((unhide B4).block p (unhide HPL).1) ((unhide B4).block q (unhide HPL).2), unhide HSG w4 (unhide B4)⟩) (fun hS => ?_)
                clear hK K
                skip
                refine wpAnyH_ready (rs := [10]) (by kernel_rfl) (by simp) ?_
                refine AllReadyH.cons (o := ?ox37) ?hx37 (fun K hK => ?_) AllReadyH.nil
                case hx37 => (simp only [List.getElem?_toArray, List.getElem?_cons_succ, List.getElem?_cons_zero]; rfl)
                go_simp
                refine (integerOf_any ⟨bn, true, bi, bz⟩ _).mono ?_
                rintro e w5 ⟨rfl, b5⟩
                have B5 := hide ((unhide B4).trans (b5.mono (unhide B4).size))
                clear b5
                refine ⟨rfl, ?_⟩
                rw [unhide HX]
                exact ⟨rfl, (unhide HBE).trans ((unhide B5).mono hgw)⟩
              | false =>
                have HX0 : Hid (evalX ⟨st, sl, gl, sa, sc, ga, gc, mp⟩ x = if inB (opZ 6 ai bi) then .ok ⟨[], false, opZ 6 ai bi, []⟩ else .error 135) := hide (by rw [(unhide HFS).1]; rfl)
                unfold togR at HTG
                have hin : inB (opZ 6 ai bi) = true → I64 (opZ 6 ai bi) := fun h => (by have := inB_iff.1 h; constructor <;> omega)
                have HIN := hide hin
                obtain ⟨z, hz⟩ : ∃ z, z = opZ 6 ai bi := ⟨_, rfl⟩
                rw [← hz] at HX0 HTG HIN
                obtain ⟨Z, hZ⟩ : ∃ Z, Z = inB z := ⟨_, rfl⟩
                rw [← hZ] at HX0 HTG HIN
                clear hz hin hZ
                go_upto_region 23 with fail
                refine wp_region_peel (n := 12) (L := ?Lx38) (S := fun w' => ((w'.cell? ⟨p, 0, none⟩ = some (sv st) ∧ w'.cell? ⟨p, 1, none⟩ = some (.slice sa sl.length sc) ∧ w'.cell? ⟨p, 2, none⟩ = some (.slice ga gl.length gc) ∧ w'.cell? ⟨p, 3, none⟩ = some (.map (some mp))) ∧ (w'.cell? ⟨q, 0, none⟩ = some (.int .i64 6) ∧ w'.cell? ⟨q, 1, none⟩ = some (.int .i64 x.n) ∧ w'.cell? ⟨q, 2, none⟩ = some (sv x.s) ∧ w'.cell? ⟨q, 3, none⟩ = some (.slice a x.args.length c))) ∧ ((w'.cell? ⟨g, 0, none⟩ = some (sv an) ∧ w'.cell? ⟨g, 1, none⟩ = some (.bool false) ∧ w'.cell? ⟨g, 2, none⟩ = some (.int .i64 ai) ∧ w'.cell? ⟨g, 3, none⟩ = some (sv az)) ∧ (w'.cell? ⟨g, 4, none⟩ = some (sv bn) ∧ w'.cell? ⟨g, 5, none⟩ = some (.bool false) ∧ w'.cell? ⟨g, 6, none⟩ = some (.int .i64 bi) ∧ w'.cell? ⟨g, 7, none⟩ = some (sv bz)))) (by kernel_rfl) (by rfl) ?hLx38 ?hpx38 (⟨unhide HSP wr.drew ((unhide R0).block p (unhide HPL).1) ((unhide R0).block q (unhide HPL).2), unhide HSG wr.drew (unhide R0)⟩) (fun hS => ?_)
                case hLx38 => (simp only [List.getElem?_toArray, List.getElem?_cons_succ, List.getElem?_cons_zero]; rfl)
                case hpx38 => kernel_rfl
                simp only [List.pop_toArray, List.dropLast_cons_cons, List.dropLast_singleton]
                refine wpAnyH_take (i := 0) (oi := ?ox39) (v := ?vx39) ?hx39 (by kernel_rfl) (by kernel_rfl) (by kernel_rfl) ?qx39 (Or.inl ⟨?wx39, ?yx39⟩) hS ?rx39
                case hx39 => (simp only [List.getElem?_toArray, List.getElem?_cons_zero]; rfl)
                case wx39 => rfl
                case qx39 => exact fun _ _ _ h => h
                case yx39 =>
                  intro w' hSw
                  try dsimp only at hSw
                  go_simp
                  with_reducible rfl
                try simp only [Act.put, List.setIfInBounds_toArray, List.set_cons_zero, List.set_cons_succ]
                refine wpAnyH_take (i := 1) (oi := ?ox40) (v := ?vx40) ?hx40 (by kernel_rfl) (by kernel_rfl) (by kernel_rfl) ?qx40 (Or.inl ⟨?wx40, ?yx40⟩) hS ?rx40
                case hx40 => (simp only [List.getElem?_toArray, List.getElem?_cons_succ, List.getElem?_cons_zero]; rfl)
                case wx40 => rfl
                case qx40 => exact fun _ _ _ h => h
                case yx40 =>
                  intro w' hSw
                  try dsimp only at hSw
                  go_simp
                  with_reducible rfl
                try simp only [Act.put, List.setIfInBounds_toArray, List.set_cons_zero, List.set_cons_succ]
                refine wpAnyH_take (i := 2) (oi := ?ox41) (v := ?vx41) ?hx41 (by kernel_rfl) (by kernel_rfl) (by kernel_rfl) ?qx41 (Or.inl ⟨?wx41, ?yx41⟩) hS ?rx41
                case hx41 => (simp only [List.getElem?_toArray, List.getElem?_cons_succ, List.getElem?_cons_zero]; rfl)
                case wx41 => rfl
                case qx41 => exact fun _ _ _ h => h
                case yx41 =>
                  intro w' hSw
                  try dsimp only at hSw
                  go_simp
                  with_reducible rfl
                try simp only [Act.put, List.setIfInBounds_toArray, List.set_cons_zero, List.set_cons_succ]
                refine wpAnyH_take (i := 3) (oi := ?ox42) (v := ?vx42) ?hx42 (by kernel_rfl) (by kernel_rfl) (by kernel_rfl) ?qx42 (Or.inl ⟨?wx42, ?yx42⟩) hS ?rx42
                case hx42 => (simp only [List.getElem?_toArray, List.getElem?_cons_succ, List.getElem?_cons_zero]; rfl)
                case wx42 => rfl
                case qx42 => exact fun _ _ _ h => h
                case yx42 =>
                  intro w' hSw
                  try dsimp only at hSw
                  go_simp
                  with_reducible rfl
                try simp only [Act.put, List.setIfInBounds_toArray, List.set_cons_zero, List.set_cons_succ]
                refine wpAnyH_take (i := 4) (oi := ?ox43) (v := ?vx43) ?hx43 (by kernel_rfl) (by kernel_rfl) (by kernel_rfl) ?qx43 (Or.inl ⟨?wx43, ?yx43⟩) hS ?rx43
                case hx43 => (simp only [List.getElem?_toArray, List.getElem?_cons_succ, List.getElem?_cons_zero]; rfl)
                case wx43 => rfl
                case qx43 => exact fun _ _ _ h => h
                case yx43 =>
                  intro w' hSw
                  try dsimp only at hSw
                  go_simp
                  with_reducible rfl
                try simp only [Act.put, List.setIfInBounds_toArray, List.set_cons_zero, List.set_cons_succ]
                refine wpAnyH_take (i := 5) (oi := ?ox44) (v := ?vx44) ?hx44 (by kernel_rfl) (by kernel_rfl) (by kernel_rfl) ?qx44 (Or.inl ⟨?wx44, ?yx44⟩) hS ?rx44
                case hx44 => (simp only [List.getElem?_toArray, List.getElem?_cons_succ, List.getElem?_cons_zero]; rfl)
                case wx44 => rfl
                case qx44 => exact fun _ _ _ h => h
                case yx44 =>
                  intro w' hSw
                  try dsimp only at hSw
                  go_simp
                  with_reducible rfl
                try simp only [Act.put, List.setIfInBounds_toArray, List.set_cons_zero, List.set_cons_succ]
                refine wpAnyH_take (i := 7) (oi := ?ox45) (v := ?vx45) ?hx45 (by kernel_rfl) (by kernel_rfl) (by kernel_rfl) ?qx45 (Or.inl ⟨?wx45, ?yx45⟩) hS ?rx45
                case hx45 => (simp only [List.getElem?_toArray, List.getElem?_cons_succ, List.getElem?_cons_zero]; rfl)
                case wx45 => rfl
                case qx45 => exact fun _ _ _ h => h
                case yx45 =>
                  intro w' hSw
                  try dsimp only at hSw
                  go_simp
                  with_reducible rfl
                try simp only [Act.put, List.setIfInBounds_toArray, List.set_cons_zero, List.set_cons_succ]
                refine wpAnyH_take (i := 8) (oi := ?ox46) (v := ?vx46) ?hx46 (by kernel_rfl) (by kernel_rfl) (by kernel_rfl) ?qx46 (Or.inl ⟨?wx46, ?yx46⟩) hS ?rx46
                case hx46 => (simp only [List.getElem?_toArray, List.getElem?_cons_succ, List.getElem?_cons_zero]; rfl)
                case wx46 => rfl
                case qx46 => exact fun _ _ _ h => h
                case yx46 =>
                  intro w' hSw
                  try dsimp only at hSw
                  go_simp
                  with_reducible rfl
                try simp only [Act.put, List.setIfInBounds_toArray, List.set_cons_zero, List.set_cons_succ]
                refine wpAnyH_take (i := 9) (oi := ?ox47) (v := ?vx47) ?hx47 (by kernel_rfl) (by kernel_rfl) (by kernel_rfl) ?qx47 (Or.inl ⟨?wx47, ?yx47⟩) hS ?rx47
                case hx47 => (simp only [List.getElem?_toArray, List.getElem?_cons_succ, List.getElem?_cons_zero]; rfl)
                case wx47 => rfl
                case qx47 => exact fun _ _ _ h => h
                case yx47 =>
                  intro w' hSw
                  try dsimp only at hSw
                  go_simp
                  with_reducible rfl
                try simp only [Act.put, List.setIfInBounds_toArray, List.set_cons_zero, List.set_cons_succ]
                refine wpAnyH_ready (rs := [6]) (by kernel_rfl) (by simp) ?_
                refine AllReadyH.cons (o := ?ox48) ?hx48 (fun K hK => ?_) AllReadyH.nil
                case hx48 => (simp only [List.getElem?_toArray, List.getElem?_cons_succ, List.getElem?_cons_zero]; rfl)
                go_simp
                refine (integerOf_any ⟨an, false, ai, az⟩ _).mono ?_
                rintro e w4 ⟨rfl, b4⟩
                have B4 := hide ((unhide R0).trans (b4.mono (unhide R0).size))
                clear b4
                refine hK.out _ _ (⟨unhide HSP w4 ((unhide B4).block p (unhide HPL).1) ((unhide B4).block q (unhide HPL).2), unhide HSG w4 (unhide B4)⟩) (fun hS => ?_)
                clear hK K
                skip
                refine wpAnyH_ready (rs := [10]) (by kernel_rfl) (by simp) ?_
                refine AllReadyH.cons (o := ?ox49) ?hx49 (fun K hK => ?_) AllReadyH.nil
                case hx49 => (simp only [List.getElem?_toArray, List.getElem?_cons_succ, List.getElem?_cons_zero]; rfl)
                go_simp
                refine (integerOf_any ⟨bn, false, bi, bz⟩ _).mono ?_
                rintro e w5 ⟨rfl, b5⟩
                have B5 := hide ((unhide B4).trans (b5.mono (unhide B4).size))
                clear b5
                refine hK.out _ _ (⟨unhide HSP w5 ((unhide B5).block p (unhide HPL).1) ((unhide B5).block q (unhide HPL).2), unhide HSG w5 (unhide B5)⟩) (fun hS => ?_)
                clear hK K
                skip
                refine wpAnyH_ready (rs := [11]) (by kernel_rfl) (by simp) ?_
                refine AllReadyH.cons (o := ?ox50) ?hx50 (fun K hK => ?_) AllReadyH.nil
                case hx50 => (simp only [List.getElem?_toArray, List.getElem?_cons_succ, List.getElem?_cons_zero]; rfl)
                go_simp
                cases Z with
                | false =>
                  have HX := HX0
                  refine (unhide HTG _ (unhide B5)).mono ?_
                  rintro e w6 ⟨rfl, b6⟩
                  have B6 := hide ((unhide B5).trans (b6.mono (unhide B5).size))
                  clear b6
                  refine ⟨rfl, ?_⟩
                  rw [unhide HX]
                  exact ⟨rfl, (unhide HBE).trans ((unhide B6).mono hgw)⟩
                | true =>
                  have HX := HX0
                  refine (unhide HTG _ (unhide B5)).mono ?_
                  rintro e w6 ⟨rfl, b6⟩
                  have B6 := hide ((unhide B5).trans (b6.mono (unhide B5).size))
                  clear b6
                  have HSF : Hid (small ⟨[], false, z, []⟩) := hide ⟨by simp, unhide HIN rfl⟩
                  have hf6 := (unhide HFB).below (unhide B6) (Nat.le_refl _)
                  obtain ⟨r0, r1, r2, r3, rf⟩ := hf6.cells
                  have HE2 := hide (hf6.put [] false z [])
                  have BE := hide (below_put ((unhide HBE).trans ((unhide B6).mono hgw)) (unhide HGE) [] false z [])
                  clear hf6
                  refine hK.out _ _ (⟨unhide HSP w6 ((unhide B6).block p (unhide HPL).1) ((unhide B6).block q (unhide HPL).2), unhide HSG w6 (unhide B6)⟩) (fun hS => ?_)
                  clear hK K
                  try simp only [Act.put, List.setIfInBounds_toArray, List.set_cons_zero, List.set_cons_succ]
                  refine wpAnyH_done (by kernel_rfl) ?_ _
                  clear hS
                  unfold peelQ
                  go_wp2
                  refine bodyPost_ret (results_cell_row rfl _ _ r 48 (fv ⟨[], false, z, []⟩) (0, 0) _ rfl (unhide HE2) Tryz.underlying48 rfl sizeField) rfl ?_
                  rw [unhide HX]
                  exact ⟨⟨rfl, unhide HSF⟩, unhide BE⟩
        · obtain ⟨A, A2, rfl⟩ : ∃ A A2, fs = [A, A2] := by
            have h1 := (unhide HFS).2.1
            have h2 := (unhide HFS).2.2
            rw [show argsN 7 = 2 from rfl] at h2
            exact len_two (by omega)
          have hsA := unhide HSM A (by simp)
          have hsB := unhide HSM A2 (by simp)
          obtain ⟨an, at_, ai, az⟩ := A
          obtain ⟨bn, bt, bi, bz⟩ := A2
          rcases (unhide HO).2 with ⟨_, h0⟩ | ⟨g, cap, cur, hu5, _, _, hcap, hcm, _⟩
          · simp at h0
          · have ho := unhide HO
            rw [hu5] at ho
            have HSG : Hid (∀ W, Below wr.heap.size wr W → (W.cell? ⟨g, 0, none⟩ = some (sv an) ∧ W.cell? ⟨g, 1, none⟩ = some (.bool at_) ∧ W.cell? ⟨g, 2, none⟩ = some (.int .i64 ai) ∧ W.cell? ⟨g, 3, none⟩ = some (sv az)) ∧ (W.cell? ⟨g, 4, none⟩ = some (sv bn) ∧ W.cell? ⟨g, 5, none⟩ = some (.bool bt) ∧ W.cell? ⟨g, 6, none⟩ = some (.int .i64 bi) ∧ W.cell? ⟨g, 7, none⟩ = some (sv bz))) := hide (fun W hW => by
              have h := ho.below hW (Nat.le_refl _)
              have h0 := (h.slots 0 (by simp)).1
              have h1 := (h.slots 1 (by simp)).1
              exact ⟨h0, h1⟩)
            subst hu5
            clear ho hcap hcm
            have HSA2 := hide hsA
            have HSB2 := hide hsB
            clear hsA hsB
            rw [show ([⟨an, at_, ai, az⟩, ⟨bn, bt, bi, bz⟩] : List Fld).length = 2 from rfl]
            have R0 : Hid (Below wr.heap.size wr wr.drew) := hide (Below.refl _ _).drew
            have HSP := hide (box_cells (unhide HV4) (unhide HSS))
            have HPL := hide (And.intro (unhide HV4).sb.lt (unhide HV4).xb.lt)
            rw [show x.kind = 7 from unhide HK0] at HSP
            have HTG : Hid (∀ W, Below wr.heap.size wr W → Calls Tryz.prog 111 #[.agg (scv ⟨st, sl, gl, sa, sc, ga, gc, mp⟩), .int .i64 7, .int .i64 ai, .int .i64 bi] W (EndsV W (togR 7 ai bi))) := hide (fun W hW => together_any ⟨st, sl, gl, sa, sc, ga, gc, mp⟩ 7 ai bi W (by have := ((unhide HSA).grown ((unhide HBW).trans (hW.mono (unhide HBW).size))); rw [unhide HSS] at this; exact this) (by omega) (unhide HSA2).2 (unhide HSB2).2)
            cases at_ with
            | true =>
              have HX : Hid (evalX ⟨st, sl, gl, sa, sc, ga, gc, mp⟩ x = .error 134) := hide (by rw [(unhide HFS).1]; rfl)
              go_upto_region 23 with fail
              refine wp_region_peel (n := 12) (L := ?Lx51) (S := fun w' => ((w'.cell? ⟨p, 0, none⟩ = some (sv st) ∧ w'.cell? ⟨p, 1, none⟩ = some (.slice sa sl.length sc) ∧ w'.cell? ⟨p, 2, none⟩ = some (.slice ga gl.length gc) ∧ w'.cell? ⟨p, 3, none⟩ = some (.map (some mp))) ∧ (w'.cell? ⟨q, 0, none⟩ = some (.int .i64 7) ∧ w'.cell? ⟨q, 1, none⟩ = some (.int .i64 x.n) ∧ w'.cell? ⟨q, 2, none⟩ = some (sv x.s) ∧ w'.cell? ⟨q, 3, none⟩ = some (.slice a x.args.length c))) ∧ ((w'.cell? ⟨g, 0, none⟩ = some (sv an) ∧ w'.cell? ⟨g, 1, none⟩ = some (.bool true) ∧ w'.cell? ⟨g, 2, none⟩ = some (.int .i64 ai) ∧ w'.cell? ⟨g, 3, none⟩ = some (sv az)) ∧ (w'.cell? ⟨g, 4, none⟩ = some (sv bn) ∧ w'.cell? ⟨g, 5, none⟩ = some (.bool bt) ∧ w'.cell? ⟨g, 6, none⟩ = some (.int .i64 bi) ∧ w'.cell? ⟨g, 7, none⟩ = some (sv bz)))) (by kernel_rfl) (by rfl) ?hLx51 ?hpx51 (⟨unhide HSP wr.drew ((unhide R0).block p (unhide HPL).1) ((unhide R0).block q (unhide HPL).2), unhide HSG wr.drew (unhide R0)⟩) (fun hS => ?_)
              case hLx51 => (simp only [List.getElem?_toArray, List.getElem?_cons_succ, List.getElem?_cons_zero]; rfl)
              case hpx51 => kernel_rfl
              simp only [List.pop_toArray, List.dropLast_cons_cons, List.dropLast_singleton]
              refine wpAnyH_take (i := 0) (oi := ?ox52) (v := ?vx52) ?hx52 (by kernel_rfl) (by kernel_rfl) (by kernel_rfl) ?qx52 (Or.inl ⟨?wx52, ?yx52⟩) hS ?rx52
              case hx52 => (simp only [List.getElem?_toArray, List.getElem?_cons_zero]; rfl)
              case wx52 => rfl
              case qx52 => exact fun _ _ _ h => h
              case yx52 =>
                intro w' hSw
                try dsimp only at hSw
                go_simp
                with_reducible rfl
              try simp only [Act.put, List.setIfInBounds_toArray, List.set_cons_zero, List.set_cons_succ]
              refine wpAnyH_take (i := 1) (oi := ?ox53) (v := ?vx53) ?hx53 (by kernel_rfl) (by kernel_rfl) (by kernel_rfl) ?qx53 (Or.inl ⟨?wx53, ?yx53⟩) hS ?rx53
              case hx53 => (simp only [List.getElem?_toArray, List.getElem?_cons_succ, List.getElem?_cons_zero]; rfl)
              case wx53 => rfl
              case qx53 => exact fun _ _ _ h => h
              case yx53 =>
                intro w' hSw
                try dsimp only at hSw
                go_simp
                with_reducible rfl
              try simp only [Act.put, List.setIfInBounds_toArray, List.set_cons_zero, List.set_cons_succ]
              refine wpAnyH_take (i := 2) (oi := ?ox54) (v := ?vx54) ?hx54 (by kernel_rfl) (by kernel_rfl) (by kernel_rfl) ?qx54 (Or.inl ⟨?wx54, ?yx54⟩) hS ?rx54
              case hx54 => (simp only [List.getElem?_toArray, List.getElem?_cons_succ, List.getElem?_cons_zero]; rfl)
              case wx54 => rfl
              case qx54 => exact fun _ _ _ h => h
              case yx54 =>
                intro w' hSw
                try dsimp only at hSw
                go_simp
                with_reducible rfl
              try simp only [Act.put, List.setIfInBounds_toArray, List.set_cons_zero, List.set_cons_succ]
              refine wpAnyH_take (i := 3) (oi := ?ox55) (v := ?vx55) ?hx55 (by kernel_rfl) (by kernel_rfl) (by kernel_rfl) ?qx55 (Or.inl ⟨?wx55, ?yx55⟩) hS ?rx55
              case hx55 => (simp only [List.getElem?_toArray, List.getElem?_cons_succ, List.getElem?_cons_zero]; rfl)
              case wx55 => rfl
              case qx55 => exact fun _ _ _ h => h
              case yx55 =>
                intro w' hSw
                try dsimp only at hSw
                go_simp
                with_reducible rfl
              try simp only [Act.put, List.setIfInBounds_toArray, List.set_cons_zero, List.set_cons_succ]
              refine wpAnyH_take (i := 4) (oi := ?ox56) (v := ?vx56) ?hx56 (by kernel_rfl) (by kernel_rfl) (by kernel_rfl) ?qx56 (Or.inl ⟨?wx56, ?yx56⟩) hS ?rx56
              case hx56 => (simp only [List.getElem?_toArray, List.getElem?_cons_succ, List.getElem?_cons_zero]; rfl)
              case wx56 => rfl
              case qx56 => exact fun _ _ _ h => h
              case yx56 =>
                intro w' hSw
                try dsimp only at hSw
                go_simp
                with_reducible rfl
              try simp only [Act.put, List.setIfInBounds_toArray, List.set_cons_zero, List.set_cons_succ]
              refine wpAnyH_take (i := 5) (oi := ?ox57) (v := ?vx57) ?hx57 (by kernel_rfl) (by kernel_rfl) (by kernel_rfl) ?qx57 (Or.inl ⟨?wx57, ?yx57⟩) hS ?rx57
              case hx57 => (simp only [List.getElem?_toArray, List.getElem?_cons_succ, List.getElem?_cons_zero]; rfl)
              case wx57 => rfl
              case qx57 => exact fun _ _ _ h => h
              case yx57 =>
                intro w' hSw
                try dsimp only at hSw
                go_simp
                with_reducible rfl
              try simp only [Act.put, List.setIfInBounds_toArray, List.set_cons_zero, List.set_cons_succ]
              refine wpAnyH_take (i := 7) (oi := ?ox58) (v := ?vx58) ?hx58 (by kernel_rfl) (by kernel_rfl) (by kernel_rfl) ?qx58 (Or.inl ⟨?wx58, ?yx58⟩) hS ?rx58
              case hx58 => (simp only [List.getElem?_toArray, List.getElem?_cons_succ, List.getElem?_cons_zero]; rfl)
              case wx58 => rfl
              case qx58 => exact fun _ _ _ h => h
              case yx58 =>
                intro w' hSw
                try dsimp only at hSw
                go_simp
                with_reducible rfl
              try simp only [Act.put, List.setIfInBounds_toArray, List.set_cons_zero, List.set_cons_succ]
              refine wpAnyH_take (i := 8) (oi := ?ox59) (v := ?vx59) ?hx59 (by kernel_rfl) (by kernel_rfl) (by kernel_rfl) ?qx59 (Or.inl ⟨?wx59, ?yx59⟩) hS ?rx59
              case hx59 => (simp only [List.getElem?_toArray, List.getElem?_cons_succ, List.getElem?_cons_zero]; rfl)
              case wx59 => rfl
              case qx59 => exact fun _ _ _ h => h
              case yx59 =>
                intro w' hSw
                try dsimp only at hSw
                go_simp
                with_reducible rfl
              try simp only [Act.put, List.setIfInBounds_toArray, List.set_cons_zero, List.set_cons_succ]
              refine wpAnyH_take (i := 9) (oi := ?ox60) (v := ?vx60) ?hx60 (by kernel_rfl) (by kernel_rfl) (by kernel_rfl) ?qx60 (Or.inl ⟨?wx60, ?yx60⟩) hS ?rx60
              case hx60 => (simp only [List.getElem?_toArray, List.getElem?_cons_succ, List.getElem?_cons_zero]; rfl)
              case wx60 => rfl
              case qx60 => exact fun _ _ _ h => h
              case yx60 =>
                intro w' hSw
                try dsimp only at hSw
                go_simp
                with_reducible rfl
              try simp only [Act.put, List.setIfInBounds_toArray, List.set_cons_zero, List.set_cons_succ]
              refine wpAnyH_ready (rs := [6]) (by kernel_rfl) (by simp) ?_
              refine AllReadyH.cons (o := ?ox61) ?hx61 (fun K hK => ?_) AllReadyH.nil
              case hx61 => (simp only [List.getElem?_toArray, List.getElem?_cons_succ, List.getElem?_cons_zero]; rfl)
              go_simp
              refine (integerOf_any ⟨an, true, ai, az⟩ _).mono ?_
              rintro e w4 ⟨rfl, b4⟩
              have B4 := hide ((unhide R0).trans (b4.mono (unhide R0).size))
              clear b4
              refine ⟨rfl, ?_⟩
              rw [unhide HX]
              exact ⟨rfl, (unhide HBE).trans ((unhide B4).mono hgw)⟩
            | false =>
              cases bt with
              | true =>
                have HX : Hid (evalX ⟨st, sl, gl, sa, sc, ga, gc, mp⟩ x = .error 134) := hide (by rw [(unhide HFS).1]; rfl)
                go_upto_region 23 with fail
                refine wp_region_peel (n := 12) (L := ?Lx62) (S := fun w' => ((w'.cell? ⟨p, 0, none⟩ = some (sv st) ∧ w'.cell? ⟨p, 1, none⟩ = some (.slice sa sl.length sc) ∧ w'.cell? ⟨p, 2, none⟩ = some (.slice ga gl.length gc) ∧ w'.cell? ⟨p, 3, none⟩ = some (.map (some mp))) ∧ (w'.cell? ⟨q, 0, none⟩ = some (.int .i64 7) ∧ w'.cell? ⟨q, 1, none⟩ = some (.int .i64 x.n) ∧ w'.cell? ⟨q, 2, none⟩ = some (sv x.s) ∧ w'.cell? ⟨q, 3, none⟩ = some (.slice a x.args.length c))) ∧ ((w'.cell? ⟨g, 0, none⟩ = some (sv an) ∧ w'.cell? ⟨g, 1, none⟩ = some (.bool false) ∧ w'.cell? ⟨g, 2, none⟩ = some (.int .i64 ai) ∧ w'.cell? ⟨g, 3, none⟩ = some (sv az)) ∧ (w'.cell? ⟨g, 4, none⟩ = some (sv bn) ∧ w'.cell? ⟨g, 5, none⟩ = some (.bool true) ∧ w'.cell? ⟨g, 6, none⟩ = some (.int .i64 bi) ∧ w'.cell? ⟨g, 7, none⟩ = some (sv bz)))) (by kernel_rfl) (by rfl) ?hLx62 ?hpx62 (⟨unhide HSP wr.drew ((unhide R0).block p (unhide HPL).1) ((unhide R0).block q (unhide HPL).2), unhide HSG wr.drew (unhide R0)⟩) (fun hS => ?_)
                case hLx62 => (simp only [List.getElem?_toArray, List.getElem?_cons_succ, List.getElem?_cons_zero]; rfl)
                case hpx62 => kernel_rfl
                simp only [List.pop_toArray, List.dropLast_cons_cons, List.dropLast_singleton]
                refine wpAnyH_take (i := 0) (oi := ?ox63) (v := ?vx63) ?hx63 (by kernel_rfl) (by kernel_rfl) (by kernel_rfl) ?qx63 (Or.inl ⟨?wx63, ?yx63⟩) hS ?rx63
                case hx63 => (simp only [List.getElem?_toArray, List.getElem?_cons_zero]; rfl)
                case wx63 => rfl
                case qx63 => exact fun _ _ _ h => h
                case yx63 =>
                  intro w' hSw
                  try dsimp only at hSw
                  go_simp
                  with_reducible rfl
                try simp only [Act.put, List.setIfInBounds_toArray, List.set_cons_zero, List.set_cons_succ]
                refine wpAnyH_take (i := 1) (oi := ?ox64) (v := ?vx64) ?hx64 (by kernel_rfl) (by kernel_rfl) (by kernel_rfl) ?qx64 (Or.inl ⟨?wx64, ?yx64⟩) hS ?rx64
                case hx64 => (simp only [List.getElem?_toArray, List.getElem?_cons_succ, List.getElem?_cons_zero]; rfl)
                case wx64 => rfl
                case qx64 => exact fun _ _ _ h => h
                case yx64 =>
                  intro w' hSw
                  try dsimp only at hSw
                  go_simp
                  with_reducible rfl
                try simp only [Act.put, List.setIfInBounds_toArray, List.set_cons_zero, List.set_cons_succ]
                refine wpAnyH_take (i := 2) (oi := ?ox65) (v := ?vx65) ?hx65 (by kernel_rfl) (by kernel_rfl) (by kernel_rfl) ?qx65 (Or.inl ⟨?wx65, ?yx65⟩) hS ?rx65
                case hx65 => (simp only [List.getElem?_toArray, List.getElem?_cons_succ, List.getElem?_cons_zero]; rfl)
                case wx65 => rfl
                case qx65 => exact fun _ _ _ h => h
                case yx65 =>
                  intro w' hSw
                  try dsimp only at hSw
                  go_simp
                  with_reducible rfl
                try simp only [Act.put, List.setIfInBounds_toArray, List.set_cons_zero, List.set_cons_succ]
                refine wpAnyH_take (i := 3) (oi := ?ox66) (v := ?vx66) ?hx66 (by kernel_rfl) (by kernel_rfl) (by kernel_rfl) ?qx66 (Or.inl ⟨?wx66, ?yx66⟩) hS ?rx66
                case hx66 => (simp only [List.getElem?_toArray, List.getElem?_cons_succ, List.getElem?_cons_zero]; rfl)
                case wx66 => rfl
                case qx66 => exact fun _ _ _ h => h
                case yx66 =>
                  intro w' hSw
                  try dsimp only at hSw
                  go_simp
                  with_reducible rfl
                try simp only [Act.put, List.setIfInBounds_toArray, List.set_cons_zero, List.set_cons_succ]
                refine wpAnyH_take (i := 4) (oi := ?ox67) (v := ?vx67) ?hx67 (by kernel_rfl) (by kernel_rfl) (by kernel_rfl) ?qx67 (Or.inl ⟨?wx67, ?yx67⟩) hS ?rx67
                case hx67 => (simp only [List.getElem?_toArray, List.getElem?_cons_succ, List.getElem?_cons_zero]; rfl)
                case wx67 => rfl
                case qx67 => exact fun _ _ _ h => h
                case yx67 =>
                  intro w' hSw
                  try dsimp only at hSw
                  go_simp
                  with_reducible rfl
                try simp only [Act.put, List.setIfInBounds_toArray, List.set_cons_zero, List.set_cons_succ]
                refine wpAnyH_take (i := 5) (oi := ?ox68) (v := ?vx68) ?hx68 (by kernel_rfl) (by kernel_rfl) (by kernel_rfl) ?qx68 (Or.inl ⟨?wx68, ?yx68⟩) hS ?rx68
                case hx68 => (simp only [List.getElem?_toArray, List.getElem?_cons_succ, List.getElem?_cons_zero]; rfl)
                case wx68 => rfl
                case qx68 => exact fun _ _ _ h => h
                case yx68 =>
                  intro w' hSw
                  try dsimp only at hSw
                  go_simp
                  with_reducible rfl
                try simp only [Act.put, List.setIfInBounds_toArray, List.set_cons_zero, List.set_cons_succ]
                refine wpAnyH_take (i := 7) (oi := ?ox69) (v := ?vx69) ?hx69 (by kernel_rfl) (by kernel_rfl) (by kernel_rfl) ?qx69 (Or.inl ⟨?wx69, ?yx69⟩) hS ?rx69
                case hx69 => (simp only [List.getElem?_toArray, List.getElem?_cons_succ, List.getElem?_cons_zero]; rfl)
                case wx69 => rfl
                case qx69 => exact fun _ _ _ h => h
                case yx69 =>
                  intro w' hSw
                  try dsimp only at hSw
                  go_simp
                  with_reducible rfl
                try simp only [Act.put, List.setIfInBounds_toArray, List.set_cons_zero, List.set_cons_succ]
                refine wpAnyH_take (i := 8) (oi := ?ox70) (v := ?vx70) ?hx70 (by kernel_rfl) (by kernel_rfl) (by kernel_rfl) ?qx70 (Or.inl ⟨?wx70, ?yx70⟩) hS ?rx70
                case hx70 => (simp only [List.getElem?_toArray, List.getElem?_cons_succ, List.getElem?_cons_zero]; rfl)
                case wx70 => rfl
                case qx70 => exact fun _ _ _ h => h
                case yx70 =>
                  intro w' hSw
                  try dsimp only at hSw
                  go_simp
                  with_reducible rfl
                try simp only [Act.put, List.setIfInBounds_toArray, List.set_cons_zero, List.set_cons_succ]
                refine wpAnyH_take (i := 9) (oi := ?ox71) (v := ?vx71) ?hx71 (by kernel_rfl) (by kernel_rfl) (by kernel_rfl) ?qx71 (Or.inl ⟨?wx71, ?yx71⟩) hS ?rx71
                case hx71 => (simp only [List.getElem?_toArray, List.getElem?_cons_succ, List.getElem?_cons_zero]; rfl)
                case wx71 => rfl
                case qx71 => exact fun _ _ _ h => h
                case yx71 =>
                  intro w' hSw
                  try dsimp only at hSw
                  go_simp
                  with_reducible rfl
                try simp only [Act.put, List.setIfInBounds_toArray, List.set_cons_zero, List.set_cons_succ]
                refine wpAnyH_ready (rs := [6]) (by kernel_rfl) (by simp) ?_
                refine AllReadyH.cons (o := ?ox72) ?hx72 (fun K hK => ?_) AllReadyH.nil
                case hx72 => (simp only [List.getElem?_toArray, List.getElem?_cons_succ, List.getElem?_cons_zero]; rfl)
                go_simp
                refine (integerOf_any ⟨an, false, ai, az⟩ _).mono ?_
                rintro e w4 ⟨rfl, b4⟩
                have B4 := hide ((unhide R0).trans (b4.mono (unhide R0).size))
                clear b4
                refine hK.out _ _ (⟨unhide HSP w4 ((unhide B4).block p (unhide HPL).1) ((unhide B4).block q (unhide HPL).2), unhide HSG w4 (unhide B4)⟩) (fun hS => ?_)
                clear hK K
                skip
                refine wpAnyH_ready (rs := [10]) (by kernel_rfl) (by simp) ?_
                refine AllReadyH.cons (o := ?ox73) ?hx73 (fun K hK => ?_) AllReadyH.nil
                case hx73 => (simp only [List.getElem?_toArray, List.getElem?_cons_succ, List.getElem?_cons_zero]; rfl)
                go_simp
                refine (integerOf_any ⟨bn, true, bi, bz⟩ _).mono ?_
                rintro e w5 ⟨rfl, b5⟩
                have B5 := hide ((unhide B4).trans (b5.mono (unhide B4).size))
                clear b5
                refine ⟨rfl, ?_⟩
                rw [unhide HX]
                exact ⟨rfl, (unhide HBE).trans ((unhide B5).mono hgw)⟩
              | false =>
                have HX0 : Hid (evalX ⟨st, sl, gl, sa, sc, ga, gc, mp⟩ x = if inB (opZ 7 ai bi) then .ok ⟨[], false, opZ 7 ai bi, []⟩ else .error 135) := hide (by rw [(unhide HFS).1]; rfl)
                unfold togR at HTG
                have hin : inB (opZ 7 ai bi) = true → I64 (opZ 7 ai bi) := fun h => (by have := inB_iff.1 h; constructor <;> omega)
                have HIN := hide hin
                obtain ⟨z, hz⟩ : ∃ z, z = opZ 7 ai bi := ⟨_, rfl⟩
                rw [← hz] at HX0 HTG HIN
                obtain ⟨Z, hZ⟩ : ∃ Z, Z = inB z := ⟨_, rfl⟩
                rw [← hZ] at HX0 HTG HIN
                clear hz hin hZ
                go_upto_region 23 with fail
                refine wp_region_peel (n := 12) (L := ?Lx74) (S := fun w' => ((w'.cell? ⟨p, 0, none⟩ = some (sv st) ∧ w'.cell? ⟨p, 1, none⟩ = some (.slice sa sl.length sc) ∧ w'.cell? ⟨p, 2, none⟩ = some (.slice ga gl.length gc) ∧ w'.cell? ⟨p, 3, none⟩ = some (.map (some mp))) ∧ (w'.cell? ⟨q, 0, none⟩ = some (.int .i64 7) ∧ w'.cell? ⟨q, 1, none⟩ = some (.int .i64 x.n) ∧ w'.cell? ⟨q, 2, none⟩ = some (sv x.s) ∧ w'.cell? ⟨q, 3, none⟩ = some (.slice a x.args.length c))) ∧ ((w'.cell? ⟨g, 0, none⟩ = some (sv an) ∧ w'.cell? ⟨g, 1, none⟩ = some (.bool false) ∧ w'.cell? ⟨g, 2, none⟩ = some (.int .i64 ai) ∧ w'.cell? ⟨g, 3, none⟩ = some (sv az)) ∧ (w'.cell? ⟨g, 4, none⟩ = some (sv bn) ∧ w'.cell? ⟨g, 5, none⟩ = some (.bool false) ∧ w'.cell? ⟨g, 6, none⟩ = some (.int .i64 bi) ∧ w'.cell? ⟨g, 7, none⟩ = some (sv bz)))) (by kernel_rfl) (by rfl) ?hLx74 ?hpx74 (⟨unhide HSP wr.drew ((unhide R0).block p (unhide HPL).1) ((unhide R0).block q (unhide HPL).2), unhide HSG wr.drew (unhide R0)⟩) (fun hS => ?_)
                case hLx74 => (simp only [List.getElem?_toArray, List.getElem?_cons_succ, List.getElem?_cons_zero]; rfl)
                case hpx74 => kernel_rfl
                simp only [List.pop_toArray, List.dropLast_cons_cons, List.dropLast_singleton]
                refine wpAnyH_take (i := 0) (oi := ?ox75) (v := ?vx75) ?hx75 (by kernel_rfl) (by kernel_rfl) (by kernel_rfl) ?qx75 (Or.inl ⟨?wx75, ?yx75⟩) hS ?rx75
                case hx75 => (simp only [List.getElem?_toArray, List.getElem?_cons_zero]; rfl)
                case wx75 => rfl
                case qx75 => exact fun _ _ _ h => h
                case yx75 =>
                  intro w' hSw
                  try dsimp only at hSw
                  go_simp
                  with_reducible rfl
                try simp only [Act.put, List.setIfInBounds_toArray, List.set_cons_zero, List.set_cons_succ]
                refine wpAnyH_take (i := 1) (oi := ?ox76) (v := ?vx76) ?hx76 (by kernel_rfl) (by kernel_rfl) (by kernel_rfl) ?qx76 (Or.inl ⟨?wx76, ?yx76⟩) hS ?rx76
                case hx76 => (simp only [List.getElem?_toArray, List.getElem?_cons_succ, List.getElem?_cons_zero]; rfl)
                case wx76 => rfl
                case qx76 => exact fun _ _ _ h => h
                case yx76 =>
                  intro w' hSw
                  try dsimp only at hSw
                  go_simp
                  with_reducible rfl
                try simp only [Act.put, List.setIfInBounds_toArray, List.set_cons_zero, List.set_cons_succ]
                refine wpAnyH_take (i := 2) (oi := ?ox77) (v := ?vx77) ?hx77 (by kernel_rfl) (by kernel_rfl) (by kernel_rfl) ?qx77 (Or.inl ⟨?wx77, ?yx77⟩) hS ?rx77
                case hx77 => (simp only [List.getElem?_toArray, List.getElem?_cons_succ, List.getElem?_cons_zero]; rfl)
                case wx77 => rfl
                case qx77 => exact fun _ _ _ h => h
                case yx77 =>
                  intro w' hSw
                  try dsimp only at hSw
                  go_simp
                  with_reducible rfl
                try simp only [Act.put, List.setIfInBounds_toArray, List.set_cons_zero, List.set_cons_succ]
                refine wpAnyH_take (i := 3) (oi := ?ox78) (v := ?vx78) ?hx78 (by kernel_rfl) (by kernel_rfl) (by kernel_rfl) ?qx78 (Or.inl ⟨?wx78, ?yx78⟩) hS ?rx78
                case hx78 => (simp only [List.getElem?_toArray, List.getElem?_cons_succ, List.getElem?_cons_zero]; rfl)
                case wx78 => rfl
                case qx78 => exact fun _ _ _ h => h
                case yx78 =>
                  intro w' hSw
                  try dsimp only at hSw
                  go_simp
                  with_reducible rfl
                try simp only [Act.put, List.setIfInBounds_toArray, List.set_cons_zero, List.set_cons_succ]
                refine wpAnyH_take (i := 4) (oi := ?ox79) (v := ?vx79) ?hx79 (by kernel_rfl) (by kernel_rfl) (by kernel_rfl) ?qx79 (Or.inl ⟨?wx79, ?yx79⟩) hS ?rx79
                case hx79 => (simp only [List.getElem?_toArray, List.getElem?_cons_succ, List.getElem?_cons_zero]; rfl)
                case wx79 => rfl
                case qx79 => exact fun _ _ _ h => h
                case yx79 =>
                  intro w' hSw
                  try dsimp only at hSw
                  go_simp
                  with_reducible rfl
                try simp only [Act.put, List.setIfInBounds_toArray, List.set_cons_zero, List.set_cons_succ]
                refine wpAnyH_take (i := 5) (oi := ?ox80) (v := ?vx80) ?hx80 (by kernel_rfl) (by kernel_rfl) (by kernel_rfl) ?qx80 (Or.inl ⟨?wx80, ?yx80⟩) hS ?rx80
                case hx80 => (simp only [List.getElem?_toArray, List.getElem?_cons_succ, List.getElem?_cons_zero]; rfl)
                case wx80 => rfl
                case qx80 => exact fun _ _ _ h => h
                case yx80 =>
                  intro w' hSw
                  try dsimp only at hSw
                  go_simp
                  with_reducible rfl
                try simp only [Act.put, List.setIfInBounds_toArray, List.set_cons_zero, List.set_cons_succ]
                refine wpAnyH_take (i := 7) (oi := ?ox81) (v := ?vx81) ?hx81 (by kernel_rfl) (by kernel_rfl) (by kernel_rfl) ?qx81 (Or.inl ⟨?wx81, ?yx81⟩) hS ?rx81
                case hx81 => (simp only [List.getElem?_toArray, List.getElem?_cons_succ, List.getElem?_cons_zero]; rfl)
                case wx81 => rfl
                case qx81 => exact fun _ _ _ h => h
                case yx81 =>
                  intro w' hSw
                  try dsimp only at hSw
                  go_simp
                  with_reducible rfl
                try simp only [Act.put, List.setIfInBounds_toArray, List.set_cons_zero, List.set_cons_succ]
                refine wpAnyH_take (i := 8) (oi := ?ox82) (v := ?vx82) ?hx82 (by kernel_rfl) (by kernel_rfl) (by kernel_rfl) ?qx82 (Or.inl ⟨?wx82, ?yx82⟩) hS ?rx82
                case hx82 => (simp only [List.getElem?_toArray, List.getElem?_cons_succ, List.getElem?_cons_zero]; rfl)
                case wx82 => rfl
                case qx82 => exact fun _ _ _ h => h
                case yx82 =>
                  intro w' hSw
                  try dsimp only at hSw
                  go_simp
                  with_reducible rfl
                try simp only [Act.put, List.setIfInBounds_toArray, List.set_cons_zero, List.set_cons_succ]
                refine wpAnyH_take (i := 9) (oi := ?ox83) (v := ?vx83) ?hx83 (by kernel_rfl) (by kernel_rfl) (by kernel_rfl) ?qx83 (Or.inl ⟨?wx83, ?yx83⟩) hS ?rx83
                case hx83 => (simp only [List.getElem?_toArray, List.getElem?_cons_succ, List.getElem?_cons_zero]; rfl)
                case wx83 => rfl
                case qx83 => exact fun _ _ _ h => h
                case yx83 =>
                  intro w' hSw
                  try dsimp only at hSw
                  go_simp
                  with_reducible rfl
                try simp only [Act.put, List.setIfInBounds_toArray, List.set_cons_zero, List.set_cons_succ]
                refine wpAnyH_ready (rs := [6]) (by kernel_rfl) (by simp) ?_
                refine AllReadyH.cons (o := ?ox84) ?hx84 (fun K hK => ?_) AllReadyH.nil
                case hx84 => (simp only [List.getElem?_toArray, List.getElem?_cons_succ, List.getElem?_cons_zero]; rfl)
                go_simp
                refine (integerOf_any ⟨an, false, ai, az⟩ _).mono ?_
                rintro e w4 ⟨rfl, b4⟩
                have B4 := hide ((unhide R0).trans (b4.mono (unhide R0).size))
                clear b4
                refine hK.out _ _ (⟨unhide HSP w4 ((unhide B4).block p (unhide HPL).1) ((unhide B4).block q (unhide HPL).2), unhide HSG w4 (unhide B4)⟩) (fun hS => ?_)
                clear hK K
                skip
                refine wpAnyH_ready (rs := [10]) (by kernel_rfl) (by simp) ?_
                refine AllReadyH.cons (o := ?ox85) ?hx85 (fun K hK => ?_) AllReadyH.nil
                case hx85 => (simp only [List.getElem?_toArray, List.getElem?_cons_succ, List.getElem?_cons_zero]; rfl)
                go_simp
                refine (integerOf_any ⟨bn, false, bi, bz⟩ _).mono ?_
                rintro e w5 ⟨rfl, b5⟩
                have B5 := hide ((unhide B4).trans (b5.mono (unhide B4).size))
                clear b5
                refine hK.out _ _ (⟨unhide HSP w5 ((unhide B5).block p (unhide HPL).1) ((unhide B5).block q (unhide HPL).2), unhide HSG w5 (unhide B5)⟩) (fun hS => ?_)
                clear hK K
                skip
                refine wpAnyH_ready (rs := [11]) (by kernel_rfl) (by simp) ?_
                refine AllReadyH.cons (o := ?ox86) ?hx86 (fun K hK => ?_) AllReadyH.nil
                case hx86 => (simp only [List.getElem?_toArray, List.getElem?_cons_succ, List.getElem?_cons_zero]; rfl)
                go_simp
                cases Z with
                | false =>
                  have HX := HX0
                  refine (unhide HTG _ (unhide B5)).mono ?_
                  rintro e w6 ⟨rfl, b6⟩
                  have B6 := hide ((unhide B5).trans (b6.mono (unhide B5).size))
                  clear b6
                  refine ⟨rfl, ?_⟩
                  rw [unhide HX]
                  exact ⟨rfl, (unhide HBE).trans ((unhide B6).mono hgw)⟩
                | true =>
                  have HX := HX0
                  refine (unhide HTG _ (unhide B5)).mono ?_
                  rintro e w6 ⟨rfl, b6⟩
                  have B6 := hide ((unhide B5).trans (b6.mono (unhide B5).size))
                  clear b6
                  have HSF : Hid (small ⟨[], false, z, []⟩) := hide ⟨by simp, unhide HIN rfl⟩
                  have hf6 := (unhide HFB).below (unhide B6) (Nat.le_refl _)
                  obtain ⟨r0, r1, r2, r3, rf⟩ := hf6.cells
                  have HE2 := hide (hf6.put [] false z [])
                  have BE := hide (below_put ((unhide HBE).trans ((unhide B6).mono hgw)) (unhide HGE) [] false z [])
                  clear hf6
                  refine hK.out _ _ (⟨unhide HSP w6 ((unhide B6).block p (unhide HPL).1) ((unhide B6).block q (unhide HPL).2), unhide HSG w6 (unhide B6)⟩) (fun hS => ?_)
                  clear hK K
                  try simp only [Act.put, List.setIfInBounds_toArray, List.set_cons_zero, List.set_cons_succ]
                  refine wpAnyH_done (by kernel_rfl) ?_ _
                  clear hS
                  unfold peelQ
                  go_wp2
                  refine bodyPost_ret (results_cell_row rfl _ _ r 48 (fv ⟨[], false, z, []⟩) (0, 0) _ rfl (unhide HE2) Tryz.underlying48 rfl sizeField) rfl ?_
                  rw [unhide HX]
                  exact ⟨⟨rfl, unhide HSF⟩, unhide BE⟩
        · obtain ⟨A, A2, rfl⟩ : ∃ A A2, fs = [A, A2] := by
            have h1 := (unhide HFS).2.1
            have h2 := (unhide HFS).2.2
            rw [show argsN 8 = 2 from rfl] at h2
            exact len_two (by omega)
          have hsA := unhide HSM A (by simp)
          have hsB := unhide HSM A2 (by simp)
          obtain ⟨an, at_, ai, az⟩ := A
          obtain ⟨bn, bt, bi, bz⟩ := A2
          rcases (unhide HO).2 with ⟨_, h0⟩ | ⟨g, cap, cur, hu5, _, _, hcap, hcm, _⟩
          · simp at h0
          · have ho := unhide HO
            rw [hu5] at ho
            have HSG : Hid (∀ W, Below wr.heap.size wr W → (W.cell? ⟨g, 0, none⟩ = some (sv an) ∧ W.cell? ⟨g, 1, none⟩ = some (.bool at_) ∧ W.cell? ⟨g, 2, none⟩ = some (.int .i64 ai) ∧ W.cell? ⟨g, 3, none⟩ = some (sv az)) ∧ (W.cell? ⟨g, 4, none⟩ = some (sv bn) ∧ W.cell? ⟨g, 5, none⟩ = some (.bool bt) ∧ W.cell? ⟨g, 6, none⟩ = some (.int .i64 bi) ∧ W.cell? ⟨g, 7, none⟩ = some (sv bz))) := hide (fun W hW => by
              have h := ho.below hW (Nat.le_refl _)
              have h0 := (h.slots 0 (by simp)).1
              have h1 := (h.slots 1 (by simp)).1
              exact ⟨h0, h1⟩)
            subst hu5
            clear ho hcap hcm
            have HSA2 := hide hsA
            have HSB2 := hide hsB
            clear hsA hsB
            rw [show ([⟨an, at_, ai, az⟩, ⟨bn, bt, bi, bz⟩] : List Fld).length = 2 from rfl]
            have R0 : Hid (Below wr.heap.size wr wr.drew) := hide (Below.refl _ _).drew
            have HSP := hide (box_cells (unhide HV4) (unhide HSS))
            have HPL := hide (And.intro (unhide HV4).sb.lt (unhide HV4).xb.lt)
            rw [show x.kind = 8 from unhide HK0] at HSP
            have HTG : Hid (∀ W, Below wr.heap.size wr W → Calls Tryz.prog 111 #[.agg (scv ⟨st, sl, gl, sa, sc, ga, gc, mp⟩), .int .i64 8, .int .i64 ai, .int .i64 bi] W (EndsV W (togR 8 ai bi))) := hide (fun W hW => together_any ⟨st, sl, gl, sa, sc, ga, gc, mp⟩ 8 ai bi W (by have := ((unhide HSA).grown ((unhide HBW).trans (hW.mono (unhide HBW).size))); rw [unhide HSS] at this; exact this) (by omega) (unhide HSA2).2 (unhide HSB2).2)
            cases at_ with
            | true =>
              have HX : Hid (evalX ⟨st, sl, gl, sa, sc, ga, gc, mp⟩ x = .error 134) := hide (by rw [(unhide HFS).1]; rfl)
              go_upto_region 23 with fail
              refine wp_region_peel (n := 12) (L := ?Lx87) (S := fun w' => ((w'.cell? ⟨p, 0, none⟩ = some (sv st) ∧ w'.cell? ⟨p, 1, none⟩ = some (.slice sa sl.length sc) ∧ w'.cell? ⟨p, 2, none⟩ = some (.slice ga gl.length gc) ∧ w'.cell? ⟨p, 3, none⟩ = some (.map (some mp))) ∧ (w'.cell? ⟨q, 0, none⟩ = some (.int .i64 8) ∧ w'.cell? ⟨q, 1, none⟩ = some (.int .i64 x.n) ∧ w'.cell? ⟨q, 2, none⟩ = some (sv x.s) ∧ w'.cell? ⟨q, 3, none⟩ = some (.slice a x.args.length c))) ∧ ((w'.cell? ⟨g, 0, none⟩ = some (sv an) ∧ w'.cell? ⟨g, 1, none⟩ = some (.bool true) ∧ w'.cell? ⟨g, 2, none⟩ = some (.int .i64 ai) ∧ w'.cell? ⟨g, 3, none⟩ = some (sv az)) ∧ (w'.cell? ⟨g, 4, none⟩ = some (sv bn) ∧ w'.cell? ⟨g, 5, none⟩ = some (.bool bt) ∧ w'.cell? ⟨g, 6, none⟩ = some (.int .i64 bi) ∧ w'.cell? ⟨g, 7, none⟩ = some (sv bz)))) (by kernel_rfl) (by rfl) ?hLx87 ?hpx87 (⟨unhide HSP wr.drew ((unhide R0).block p (unhide HPL).1) ((unhide R0).block q (unhide HPL).2), unhide HSG wr.drew (unhide R0)⟩) (fun hS => ?_)
              case hLx87 => (simp only [List.getElem?_toArray, List.getElem?_cons_succ, List.getElem?_cons_zero]; rfl)
              case hpx87 => kernel_rfl
              simp only [List.pop_toArray, List.dropLast_cons_cons, List.dropLast_singleton]
              refine wpAnyH_take (i := 0) (oi := ?ox88) (v := ?vx88) ?hx88 (by kernel_rfl) (by kernel_rfl) (by kernel_rfl) ?qx88 (Or.inl ⟨?wx88, ?yx88⟩) hS ?rx88
              case hx88 => (simp only [List.getElem?_toArray, List.getElem?_cons_zero]; rfl)
              case wx88 => rfl
              case qx88 => exact fun _ _ _ h => h
              case yx88 =>
                intro w' hSw
                try dsimp only at hSw
                go_simp
                with_reducible rfl
              try simp only [Act.put, List.setIfInBounds_toArray, List.set_cons_zero, List.set_cons_succ]
              refine wpAnyH_take (i := 1) (oi := ?ox89) (v := ?vx89) ?hx89 (by kernel_rfl) (by kernel_rfl) (by kernel_rfl) ?qx89 (Or.inl ⟨?wx89, ?yx89⟩) hS ?rx89
              case hx89 => (simp only [List.getElem?_toArray, List.getElem?_cons_succ, List.getElem?_cons_zero]; rfl)
              case wx89 => rfl
              case qx89 => exact fun _ _ _ h => h
              case yx89 =>
                intro w' hSw
                try dsimp only at hSw
                go_simp
                with_reducible rfl
              try simp only [Act.put, List.setIfInBounds_toArray, List.set_cons_zero, List.set_cons_succ]
              refine wpAnyH_take (i := 2) (oi := ?ox90) (v := ?vx90) ?hx90 (by kernel_rfl) (by kernel_rfl) (by kernel_rfl) ?qx90 (Or.inl ⟨?wx90, ?yx90⟩) hS ?rx90
              case hx90 => (simp only [List.getElem?_toArray, List.getElem?_cons_succ, List.getElem?_cons_zero]; rfl)
              case wx90 => rfl
              case qx90 => exact fun _ _ _ h => h
              case yx90 =>
                intro w' hSw
                try dsimp only at hSw
                go_simp
                with_reducible rfl
              try simp only [Act.put, List.setIfInBounds_toArray, List.set_cons_zero, List.set_cons_succ]
              refine wpAnyH_take (i := 3) (oi := ?ox91) (v := ?vx91) ?hx91 (by kernel_rfl) (by kernel_rfl) (by kernel_rfl) ?qx91 (Or.inl ⟨?wx91, ?yx91⟩) hS ?rx91
              case hx91 => (simp only [List.getElem?_toArray, List.getElem?_cons_succ, List.getElem?_cons_zero]; rfl)
              case wx91 => rfl
              case qx91 => exact fun _ _ _ h => h
              case yx91 =>
                intro w' hSw
                try dsimp only at hSw
                go_simp
                with_reducible rfl
              try simp only [Act.put, List.setIfInBounds_toArray, List.set_cons_zero, List.set_cons_succ]
              refine wpAnyH_take (i := 4) (oi := ?ox92) (v := ?vx92) ?hx92 (by kernel_rfl) (by kernel_rfl) (by kernel_rfl) ?qx92 (Or.inl ⟨?wx92, ?yx92⟩) hS ?rx92
              case hx92 => (simp only [List.getElem?_toArray, List.getElem?_cons_succ, List.getElem?_cons_zero]; rfl)
              case wx92 => rfl
              case qx92 => exact fun _ _ _ h => h
              case yx92 =>
                intro w' hSw
                try dsimp only at hSw
                go_simp
                with_reducible rfl
              try simp only [Act.put, List.setIfInBounds_toArray, List.set_cons_zero, List.set_cons_succ]
              refine wpAnyH_take (i := 5) (oi := ?ox93) (v := ?vx93) ?hx93 (by kernel_rfl) (by kernel_rfl) (by kernel_rfl) ?qx93 (Or.inl ⟨?wx93, ?yx93⟩) hS ?rx93
              case hx93 => (simp only [List.getElem?_toArray, List.getElem?_cons_succ, List.getElem?_cons_zero]; rfl)
              case wx93 => rfl
              case qx93 => exact fun _ _ _ h => h
              case yx93 =>
                intro w' hSw
                try dsimp only at hSw
                go_simp
                with_reducible rfl
              try simp only [Act.put, List.setIfInBounds_toArray, List.set_cons_zero, List.set_cons_succ]
              refine wpAnyH_take (i := 7) (oi := ?ox94) (v := ?vx94) ?hx94 (by kernel_rfl) (by kernel_rfl) (by kernel_rfl) ?qx94 (Or.inl ⟨?wx94, ?yx94⟩) hS ?rx94
              case hx94 => (simp only [List.getElem?_toArray, List.getElem?_cons_succ, List.getElem?_cons_zero]; rfl)
              case wx94 => rfl
              case qx94 => exact fun _ _ _ h => h
              case yx94 =>
                intro w' hSw
                try dsimp only at hSw
                go_simp
                with_reducible rfl
              try simp only [Act.put, List.setIfInBounds_toArray, List.set_cons_zero, List.set_cons_succ]
              refine wpAnyH_take (i := 8) (oi := ?ox95) (v := ?vx95) ?hx95 (by kernel_rfl) (by kernel_rfl) (by kernel_rfl) ?qx95 (Or.inl ⟨?wx95, ?yx95⟩) hS ?rx95
              case hx95 => (simp only [List.getElem?_toArray, List.getElem?_cons_succ, List.getElem?_cons_zero]; rfl)
              case wx95 => rfl
              case qx95 => exact fun _ _ _ h => h
              case yx95 =>
                intro w' hSw
                try dsimp only at hSw
                go_simp
                with_reducible rfl
              try simp only [Act.put, List.setIfInBounds_toArray, List.set_cons_zero, List.set_cons_succ]
              refine wpAnyH_take (i := 9) (oi := ?ox96) (v := ?vx96) ?hx96 (by kernel_rfl) (by kernel_rfl) (by kernel_rfl) ?qx96 (Or.inl ⟨?wx96, ?yx96⟩) hS ?rx96
              case hx96 => (simp only [List.getElem?_toArray, List.getElem?_cons_succ, List.getElem?_cons_zero]; rfl)
              case wx96 => rfl
              case qx96 => exact fun _ _ _ h => h
              case yx96 =>
                intro w' hSw
                try dsimp only at hSw
                go_simp
                with_reducible rfl
              try simp only [Act.put, List.setIfInBounds_toArray, List.set_cons_zero, List.set_cons_succ]
              refine wpAnyH_ready (rs := [6]) (by kernel_rfl) (by simp) ?_
              refine AllReadyH.cons (o := ?ox97) ?hx97 (fun K hK => ?_) AllReadyH.nil
              case hx97 => (simp only [List.getElem?_toArray, List.getElem?_cons_succ, List.getElem?_cons_zero]; rfl)
              go_simp
              refine (integerOf_any ⟨an, true, ai, az⟩ _).mono ?_
              rintro e w4 ⟨rfl, b4⟩
              have B4 := hide ((unhide R0).trans (b4.mono (unhide R0).size))
              clear b4
              refine ⟨rfl, ?_⟩
              rw [unhide HX]
              exact ⟨rfl, (unhide HBE).trans ((unhide B4).mono hgw)⟩
            | false =>
              cases bt with
              | true =>
                have HX : Hid (evalX ⟨st, sl, gl, sa, sc, ga, gc, mp⟩ x = .error 134) := hide (by rw [(unhide HFS).1]; rfl)
                go_upto_region 23 with fail
                refine wp_region_peel (n := 12) (L := ?Lx98) (S := fun w' => ((w'.cell? ⟨p, 0, none⟩ = some (sv st) ∧ w'.cell? ⟨p, 1, none⟩ = some (.slice sa sl.length sc) ∧ w'.cell? ⟨p, 2, none⟩ = some (.slice ga gl.length gc) ∧ w'.cell? ⟨p, 3, none⟩ = some (.map (some mp))) ∧ (w'.cell? ⟨q, 0, none⟩ = some (.int .i64 8) ∧ w'.cell? ⟨q, 1, none⟩ = some (.int .i64 x.n) ∧ w'.cell? ⟨q, 2, none⟩ = some (sv x.s) ∧ w'.cell? ⟨q, 3, none⟩ = some (.slice a x.args.length c))) ∧ ((w'.cell? ⟨g, 0, none⟩ = some (sv an) ∧ w'.cell? ⟨g, 1, none⟩ = some (.bool false) ∧ w'.cell? ⟨g, 2, none⟩ = some (.int .i64 ai) ∧ w'.cell? ⟨g, 3, none⟩ = some (sv az)) ∧ (w'.cell? ⟨g, 4, none⟩ = some (sv bn) ∧ w'.cell? ⟨g, 5, none⟩ = some (.bool true) ∧ w'.cell? ⟨g, 6, none⟩ = some (.int .i64 bi) ∧ w'.cell? ⟨g, 7, none⟩ = some (sv bz)))) (by kernel_rfl) (by rfl) ?hLx98 ?hpx98 (⟨unhide HSP wr.drew ((unhide R0).block p (unhide HPL).1) ((unhide R0).block q (unhide HPL).2), unhide HSG wr.drew (unhide R0)⟩) (fun hS => ?_)
                case hLx98 => (simp only [List.getElem?_toArray, List.getElem?_cons_succ, List.getElem?_cons_zero]; rfl)
                case hpx98 => kernel_rfl
                simp only [List.pop_toArray, List.dropLast_cons_cons, List.dropLast_singleton]
                refine wpAnyH_take (i := 0) (oi := ?ox99) (v := ?vx99) ?hx99 (by kernel_rfl) (by kernel_rfl) (by kernel_rfl) ?qx99 (Or.inl ⟨?wx99, ?yx99⟩) hS ?rx99
                case hx99 => (simp only [List.getElem?_toArray, List.getElem?_cons_zero]; rfl)
                case wx99 => rfl
                case qx99 => exact fun _ _ _ h => h
                case yx99 =>
                  intro w' hSw
                  try dsimp only at hSw
                  go_simp
                  with_reducible rfl
                try simp only [Act.put, List.setIfInBounds_toArray, List.set_cons_zero, List.set_cons_succ]
                refine wpAnyH_take (i := 1) (oi := ?ox100) (v := ?vx100) ?hx100 (by kernel_rfl) (by kernel_rfl) (by kernel_rfl) ?qx100 (Or.inl ⟨?wx100, ?yx100⟩) hS ?rx100
                case hx100 => (simp only [List.getElem?_toArray, List.getElem?_cons_succ, List.getElem?_cons_zero]; rfl)
                case wx100 => rfl
                case qx100 => exact fun _ _ _ h => h
                case yx100 =>
                  intro w' hSw
                  try dsimp only at hSw
                  go_simp
                  with_reducible rfl
                try simp only [Act.put, List.setIfInBounds_toArray, List.set_cons_zero, List.set_cons_succ]
                refine wpAnyH_take (i := 2) (oi := ?ox101) (v := ?vx101) ?hx101 (by kernel_rfl) (by kernel_rfl) (by kernel_rfl) ?qx101 (Or.inl ⟨?wx101, ?yx101⟩) hS ?rx101
                case hx101 => (simp only [List.getElem?_toArray, List.getElem?_cons_succ, List.getElem?_cons_zero]; rfl)
                case wx101 => rfl
                case qx101 => exact fun _ _ _ h => h
                case yx101 =>
                  intro w' hSw
                  try dsimp only at hSw
                  go_simp
                  with_reducible rfl
                try simp only [Act.put, List.setIfInBounds_toArray, List.set_cons_zero, List.set_cons_succ]
                refine wpAnyH_take (i := 3) (oi := ?ox102) (v := ?vx102) ?hx102 (by kernel_rfl) (by kernel_rfl) (by kernel_rfl) ?qx102 (Or.inl ⟨?wx102, ?yx102⟩) hS ?rx102
                case hx102 => (simp only [List.getElem?_toArray, List.getElem?_cons_succ, List.getElem?_cons_zero]; rfl)
                case wx102 => rfl
                case qx102 => exact fun _ _ _ h => h
                case yx102 =>
                  intro w' hSw
                  try dsimp only at hSw
                  go_simp
                  with_reducible rfl
                try simp only [Act.put, List.setIfInBounds_toArray, List.set_cons_zero, List.set_cons_succ]
                refine wpAnyH_take (i := 4) (oi := ?ox103) (v := ?vx103) ?hx103 (by kernel_rfl) (by kernel_rfl) (by kernel_rfl) ?qx103 (Or.inl ⟨?wx103, ?yx103⟩) hS ?rx103
                case hx103 => (simp only [List.getElem?_toArray, List.getElem?_cons_succ, List.getElem?_cons_zero]; rfl)
                case wx103 => rfl
                case qx103 => exact fun _ _ _ h => h
                case yx103 =>
                  intro w' hSw
                  try dsimp only at hSw
                  go_simp
                  with_reducible rfl
                try simp only [Act.put, List.setIfInBounds_toArray, List.set_cons_zero, List.set_cons_succ]
                refine wpAnyH_take (i := 5) (oi := ?ox104) (v := ?vx104) ?hx104 (by kernel_rfl) (by kernel_rfl) (by kernel_rfl) ?qx104 (Or.inl ⟨?wx104, ?yx104⟩) hS ?rx104
                case hx104 => (simp only [List.getElem?_toArray, List.getElem?_cons_succ, List.getElem?_cons_zero]; rfl)
                case wx104 => rfl
                case qx104 => exact fun _ _ _ h => h
                case yx104 =>
                  intro w' hSw
                  try dsimp only at hSw
                  go_simp
                  with_reducible rfl
                try simp only [Act.put, List.setIfInBounds_toArray, List.set_cons_zero, List.set_cons_succ]
                refine wpAnyH_take (i := 7) (oi := ?ox105) (v := ?vx105) ?hx105 (by kernel_rfl) (by kernel_rfl) (by kernel_rfl) ?qx105 (Or.inl ⟨?wx105, ?yx105⟩) hS ?rx105
                case hx105 => (simp only [List.getElem?_toArray, List.getElem?_cons_succ, List.getElem?_cons_zero]; rfl)
                case wx105 => rfl
                case qx105 => exact fun _ _ _ h => h
                case yx105 =>
                  intro w' hSw
                  try dsimp only at hSw
                  go_simp
                  with_reducible rfl
                try simp only [Act.put, List.setIfInBounds_toArray, List.set_cons_zero, List.set_cons_succ]
                refine wpAnyH_take (i := 8) (oi := ?ox106) (v := ?vx106) ?hx106 (by kernel_rfl) (by kernel_rfl) (by kernel_rfl) ?qx106 (Or.inl ⟨?wx106, ?yx106⟩) hS ?rx106
                case hx106 => (simp only [List.getElem?_toArray, List.getElem?_cons_succ, List.getElem?_cons_zero]; rfl)
                case wx106 => rfl
                case qx106 => exact fun _ _ _ h => h
                case yx106 =>
                  intro w' hSw
                  try dsimp only at hSw
                  go_simp
                  with_reducible rfl
                try simp only [Act.put, List.setIfInBounds_toArray, List.set_cons_zero, List.set_cons_succ]
                refine wpAnyH_take (i := 9) (oi := ?ox107) (v := ?vx107) ?hx107 (by kernel_rfl) (by kernel_rfl) (by kernel_rfl) ?qx107 (Or.inl ⟨?wx107, ?yx107⟩) hS ?rx107
                case hx107 => (simp only [List.getElem?_toArray, List.getElem?_cons_succ, List.getElem?_cons_zero]; rfl)
                case wx107 => rfl
                case qx107 => exact fun _ _ _ h => h
                case yx107 =>
                  intro w' hSw
                  try dsimp only at hSw
                  go_simp
                  with_reducible rfl
                try simp only [Act.put, List.setIfInBounds_toArray, List.set_cons_zero, List.set_cons_succ]
                refine wpAnyH_ready (rs := [6]) (by kernel_rfl) (by simp) ?_
                refine AllReadyH.cons (o := ?ox108) ?hx108 (fun K hK => ?_) AllReadyH.nil
                case hx108 => (simp only [List.getElem?_toArray, List.getElem?_cons_succ, List.getElem?_cons_zero]; rfl)
                go_simp
                refine (integerOf_any ⟨an, false, ai, az⟩ _).mono ?_
                rintro e w4 ⟨rfl, b4⟩
                have B4 := hide ((unhide R0).trans (b4.mono (unhide R0).size))
                clear b4
                refine hK.out _ _ (⟨unhide HSP w4 ((unhide B4).block p (unhide HPL).1) ((unhide B4).block q (unhide HPL).2), unhide HSG w4 (unhide B4)⟩) (fun hS => ?_)
                clear hK K
                skip
                refine wpAnyH_ready (rs := [10]) (by kernel_rfl) (by simp) ?_
                refine AllReadyH.cons (o := ?ox109) ?hx109 (fun K hK => ?_) AllReadyH.nil
                case hx109 => (simp only [List.getElem?_toArray, List.getElem?_cons_succ, List.getElem?_cons_zero]; rfl)
                go_simp
                refine (integerOf_any ⟨bn, true, bi, bz⟩ _).mono ?_
                rintro e w5 ⟨rfl, b5⟩
                have B5 := hide ((unhide B4).trans (b5.mono (unhide B4).size))
                clear b5
                refine ⟨rfl, ?_⟩
                rw [unhide HX]
                exact ⟨rfl, (unhide HBE).trans ((unhide B5).mono hgw)⟩
              | false =>
                have HX0 : Hid (evalX ⟨st, sl, gl, sa, sc, ga, gc, mp⟩ x = if inB (opZ 8 ai bi) then .ok ⟨[], false, opZ 8 ai bi, []⟩ else .error 135) := hide (by rw [(unhide HFS).1]; rfl)
                unfold togR at HTG
                have hin : inB (opZ 8 ai bi) = true → I64 (opZ 8 ai bi) := fun h => (by have := inB_iff.1 h; constructor <;> omega)
                have HIN := hide hin
                obtain ⟨z, hz⟩ : ∃ z, z = opZ 8 ai bi := ⟨_, rfl⟩
                rw [← hz] at HX0 HTG HIN
                obtain ⟨Z, hZ⟩ : ∃ Z, Z = inB z := ⟨_, rfl⟩
                rw [← hZ] at HX0 HTG HIN
                clear hz hin hZ
                go_upto_region 23 with fail
                refine wp_region_peel (n := 12) (L := ?Lx110) (S := fun w' => ((w'.cell? ⟨p, 0, none⟩ = some (sv st) ∧ w'.cell? ⟨p, 1, none⟩ = some (.slice sa sl.length sc) ∧ w'.cell? ⟨p, 2, none⟩ = some (.slice ga gl.length gc) ∧ w'.cell? ⟨p, 3, none⟩ = some (.map (some mp))) ∧ (w'.cell? ⟨q, 0, none⟩ = some (.int .i64 8) ∧ w'.cell? ⟨q, 1, none⟩ = some (.int .i64 x.n) ∧ w'.cell? ⟨q, 2, none⟩ = some (sv x.s) ∧ w'.cell? ⟨q, 3, none⟩ = some (.slice a x.args.length c))) ∧ ((w'.cell? ⟨g, 0, none⟩ = some (sv an) ∧ w'.cell? ⟨g, 1, none⟩ = some (.bool false) ∧ w'.cell? ⟨g, 2, none⟩ = some (.int .i64 ai) ∧ w'.cell? ⟨g, 3, none⟩ = some (sv az)) ∧ (w'.cell? ⟨g, 4, none⟩ = some (sv bn) ∧ w'.cell? ⟨g, 5, none⟩ = some (.bool false) ∧ w'.cell? ⟨g, 6, none⟩ = some (.int .i64 bi) ∧ w'.cell? ⟨g, 7, none⟩ = some (sv bz)))) (by kernel_rfl) (by rfl) ?hLx110 ?hpx110 (⟨unhide HSP wr.drew ((unhide R0).block p (unhide HPL).1) ((unhide R0).block q (unhide HPL).2), unhide HSG wr.drew (unhide R0)⟩) (fun hS => ?_)
                case hLx110 => (simp only [List.getElem?_toArray, List.getElem?_cons_succ, List.getElem?_cons_zero]; rfl)
                case hpx110 => kernel_rfl
                simp only [List.pop_toArray, List.dropLast_cons_cons, List.dropLast_singleton]
                refine wpAnyH_take (i := 0) (oi := ?ox111) (v := ?vx111) ?hx111 (by kernel_rfl) (by kernel_rfl) (by kernel_rfl) ?qx111 (Or.inl ⟨?wx111, ?yx111⟩) hS ?rx111
                case hx111 => (simp only [List.getElem?_toArray, List.getElem?_cons_zero]; rfl)
                case wx111 => rfl
                case qx111 => exact fun _ _ _ h => h
                case yx111 =>
                  intro w' hSw
                  try dsimp only at hSw
                  go_simp
                  with_reducible rfl
                try simp only [Act.put, List.setIfInBounds_toArray, List.set_cons_zero, List.set_cons_succ]
                refine wpAnyH_take (i := 1) (oi := ?ox112) (v := ?vx112) ?hx112 (by kernel_rfl) (by kernel_rfl) (by kernel_rfl) ?qx112 (Or.inl ⟨?wx112, ?yx112⟩) hS ?rx112
                case hx112 => (simp only [List.getElem?_toArray, List.getElem?_cons_succ, List.getElem?_cons_zero]; rfl)
                case wx112 => rfl
                case qx112 => exact fun _ _ _ h => h
                case yx112 =>
                  intro w' hSw
                  try dsimp only at hSw
                  go_simp
                  with_reducible rfl
                try simp only [Act.put, List.setIfInBounds_toArray, List.set_cons_zero, List.set_cons_succ]
                refine wpAnyH_take (i := 2) (oi := ?ox113) (v := ?vx113) ?hx113 (by kernel_rfl) (by kernel_rfl) (by kernel_rfl) ?qx113 (Or.inl ⟨?wx113, ?yx113⟩) hS ?rx113
                case hx113 => (simp only [List.getElem?_toArray, List.getElem?_cons_succ, List.getElem?_cons_zero]; rfl)
                case wx113 => rfl
                case qx113 => exact fun _ _ _ h => h
                case yx113 =>
                  intro w' hSw
                  try dsimp only at hSw
                  go_simp
                  with_reducible rfl
                try simp only [Act.put, List.setIfInBounds_toArray, List.set_cons_zero, List.set_cons_succ]
                refine wpAnyH_take (i := 3) (oi := ?ox114) (v := ?vx114) ?hx114 (by kernel_rfl) (by kernel_rfl) (by kernel_rfl) ?qx114 (Or.inl ⟨?wx114, ?yx114⟩) hS ?rx114
                case hx114 => (simp only [List.getElem?_toArray, List.getElem?_cons_succ, List.getElem?_cons_zero]; rfl)
                case wx114 => rfl
                case qx114 => exact fun _ _ _ h => h
                case yx114 =>
                  intro w' hSw
                  try dsimp only at hSw
                  go_simp
                  with_reducible rfl
                try simp only [Act.put, List.setIfInBounds_toArray, List.set_cons_zero, List.set_cons_succ]
                refine wpAnyH_take (i := 4) (oi := ?ox115) (v := ?vx115) ?hx115 (by kernel_rfl) (by kernel_rfl) (by kernel_rfl) ?qx115 (Or.inl ⟨?wx115, ?yx115⟩) hS ?rx115
                case hx115 => (simp only [List.getElem?_toArray, List.getElem?_cons_succ, List.getElem?_cons_zero]; rfl)
                case wx115 => rfl
                case qx115 => exact fun _ _ _ h => h
                case yx115 =>
                  intro w' hSw
                  try dsimp only at hSw
                  go_simp
                  with_reducible rfl
                try simp only [Act.put, List.setIfInBounds_toArray, List.set_cons_zero, List.set_cons_succ]
                refine wpAnyH_take (i := 5) (oi := ?ox116) (v := ?vx116) ?hx116 (by kernel_rfl) (by kernel_rfl) (by kernel_rfl) ?qx116 (Or.inl ⟨?wx116, ?yx116⟩) hS ?rx116
                case hx116 => (simp only [List.getElem?_toArray, List.getElem?_cons_succ, List.getElem?_cons_zero]; rfl)
                case wx116 => rfl
                case qx116 => exact fun _ _ _ h => h
                case yx116 =>
                  intro w' hSw
                  try dsimp only at hSw
                  go_simp
                  with_reducible rfl
                try simp only [Act.put, List.setIfInBounds_toArray, List.set_cons_zero, List.set_cons_succ]
                refine wpAnyH_take (i := 7) (oi := ?ox117) (v := ?vx117) ?hx117 (by kernel_rfl) (by kernel_rfl) (by kernel_rfl) ?qx117 (Or.inl ⟨?wx117, ?yx117⟩) hS ?rx117
                case hx117 => (simp only [List.getElem?_toArray, List.getElem?_cons_succ, List.getElem?_cons_zero]; rfl)
                case wx117 => rfl
                case qx117 => exact fun _ _ _ h => h
                case yx117 =>
                  intro w' hSw
                  try dsimp only at hSw
                  go_simp
                  with_reducible rfl
                try simp only [Act.put, List.setIfInBounds_toArray, List.set_cons_zero, List.set_cons_succ]
                refine wpAnyH_take (i := 8) (oi := ?ox118) (v := ?vx118) ?hx118 (by kernel_rfl) (by kernel_rfl) (by kernel_rfl) ?qx118 (Or.inl ⟨?wx118, ?yx118⟩) hS ?rx118
                case hx118 => (simp only [List.getElem?_toArray, List.getElem?_cons_succ, List.getElem?_cons_zero]; rfl)
                case wx118 => rfl
                case qx118 => exact fun _ _ _ h => h
                case yx118 =>
                  intro w' hSw
                  try dsimp only at hSw
                  go_simp
                  with_reducible rfl
                try simp only [Act.put, List.setIfInBounds_toArray, List.set_cons_zero, List.set_cons_succ]
                refine wpAnyH_take (i := 9) (oi := ?ox119) (v := ?vx119) ?hx119 (by kernel_rfl) (by kernel_rfl) (by kernel_rfl) ?qx119 (Or.inl ⟨?wx119, ?yx119⟩) hS ?rx119
                case hx119 => (simp only [List.getElem?_toArray, List.getElem?_cons_succ, List.getElem?_cons_zero]; rfl)
                case wx119 => rfl
                case qx119 => exact fun _ _ _ h => h
                case yx119 =>
                  intro w' hSw
                  try dsimp only at hSw
                  go_simp
                  with_reducible rfl
                try simp only [Act.put, List.setIfInBounds_toArray, List.set_cons_zero, List.set_cons_succ]
                refine wpAnyH_ready (rs := [6]) (by kernel_rfl) (by simp) ?_
                refine AllReadyH.cons (o := ?ox120) ?hx120 (fun K hK => ?_) AllReadyH.nil
                case hx120 => (simp only [List.getElem?_toArray, List.getElem?_cons_succ, List.getElem?_cons_zero]; rfl)
                go_simp
                refine (integerOf_any ⟨an, false, ai, az⟩ _).mono ?_
                rintro e w4 ⟨rfl, b4⟩
                have B4 := hide ((unhide R0).trans (b4.mono (unhide R0).size))
                clear b4
                refine hK.out _ _ (⟨unhide HSP w4 ((unhide B4).block p (unhide HPL).1) ((unhide B4).block q (unhide HPL).2), unhide HSG w4 (unhide B4)⟩) (fun hS => ?_)
                clear hK K
                skip
                refine wpAnyH_ready (rs := [10]) (by kernel_rfl) (by simp) ?_
                refine AllReadyH.cons (o := ?ox121) ?hx121 (fun K hK => ?_) AllReadyH.nil
                case hx121 => (simp only [List.getElem?_toArray, List.getElem?_cons_succ, List.getElem?_cons_zero]; rfl)
                go_simp
                refine (integerOf_any ⟨bn, false, bi, bz⟩ _).mono ?_
                rintro e w5 ⟨rfl, b5⟩
                have B5 := hide ((unhide B4).trans (b5.mono (unhide B4).size))
                clear b5
                refine hK.out _ _ (⟨unhide HSP w5 ((unhide B5).block p (unhide HPL).1) ((unhide B5).block q (unhide HPL).2), unhide HSG w5 (unhide B5)⟩) (fun hS => ?_)
                clear hK K
                skip
                refine wpAnyH_ready (rs := [11]) (by kernel_rfl) (by simp) ?_
                refine AllReadyH.cons (o := ?ox122) ?hx122 (fun K hK => ?_) AllReadyH.nil
                case hx122 => (simp only [List.getElem?_toArray, List.getElem?_cons_succ, List.getElem?_cons_zero]; rfl)
                go_simp
                cases Z with
                | false =>
                  have HX := HX0
                  refine (unhide HTG _ (unhide B5)).mono ?_
                  rintro e w6 ⟨rfl, b6⟩
                  have B6 := hide ((unhide B5).trans (b6.mono (unhide B5).size))
                  clear b6
                  refine ⟨rfl, ?_⟩
                  rw [unhide HX]
                  exact ⟨rfl, (unhide HBE).trans ((unhide B6).mono hgw)⟩
                | true =>
                  have HX := HX0
                  refine (unhide HTG _ (unhide B5)).mono ?_
                  rintro e w6 ⟨rfl, b6⟩
                  have B6 := hide ((unhide B5).trans (b6.mono (unhide B5).size))
                  clear b6
                  have HSF : Hid (small ⟨[], false, z, []⟩) := hide ⟨by simp, unhide HIN rfl⟩
                  have hf6 := (unhide HFB).below (unhide B6) (Nat.le_refl _)
                  obtain ⟨r0, r1, r2, r3, rf⟩ := hf6.cells
                  have HE2 := hide (hf6.put [] false z [])
                  have BE := hide (below_put ((unhide HBE).trans ((unhide B6).mono hgw)) (unhide HGE) [] false z [])
                  clear hf6
                  refine hK.out _ _ (⟨unhide HSP w6 ((unhide B6).block p (unhide HPL).1) ((unhide B6).block q (unhide HPL).2), unhide HSG w6 (unhide B6)⟩) (fun hS => ?_)
                  clear hK K
                  try simp only [Act.put, List.setIfInBounds_toArray, List.set_cons_zero, List.set_cons_succ]
                  refine wpAnyH_done (by kernel_rfl) ?_ _
                  clear hS
                  unfold peelQ
                  go_wp2
                  refine bodyPost_ret (results_cell_row rfl _ _ r 48 (fv ⟨[], false, z, []⟩) (0, 0) _ rfl (unhide HE2) Tryz.underlying48 rfl sizeField) rfl ?_
                  rw [unhide HX]
                  exact ⟨⟨rfl, unhide HSF⟩, unhide BE⟩
        · obtain ⟨A, A2, rfl⟩ : ∃ A A2, fs = [A, A2] := by
            have h1 := (unhide HFS).2.1
            have h2 := (unhide HFS).2.2
            rw [show argsN 9 = 2 from rfl] at h2
            exact len_two (by omega)
          have hsA := unhide HSM A (by simp)
          have hsB := unhide HSM A2 (by simp)
          obtain ⟨an, at_, ai, az⟩ := A
          obtain ⟨bn, bt, bi, bz⟩ := A2
          rcases (unhide HO).2 with ⟨_, h0⟩ | ⟨g, cap, cur, hu5, _, _, hcap, hcm, _⟩
          · simp at h0
          · have ho := unhide HO
            rw [hu5] at ho
            have HSG : Hid (∀ W, Below wr.heap.size wr W → (W.cell? ⟨g, 0, none⟩ = some (sv an) ∧ W.cell? ⟨g, 1, none⟩ = some (.bool at_) ∧ W.cell? ⟨g, 2, none⟩ = some (.int .i64 ai) ∧ W.cell? ⟨g, 3, none⟩ = some (sv az)) ∧ (W.cell? ⟨g, 4, none⟩ = some (sv bn) ∧ W.cell? ⟨g, 5, none⟩ = some (.bool bt) ∧ W.cell? ⟨g, 6, none⟩ = some (.int .i64 bi) ∧ W.cell? ⟨g, 7, none⟩ = some (sv bz))) := hide (fun W hW => by
              have h := ho.below hW (Nat.le_refl _)
              have h0 := (h.slots 0 (by simp)).1
              have h1 := (h.slots 1 (by simp)).1
              exact ⟨h0, h1⟩)
            subst hu5
            clear ho hcap hcm
            have HSA2 := hide hsA
            have HSB2 := hide hsB
            clear hsA hsB
            rw [show ([⟨an, at_, ai, az⟩, ⟨bn, bt, bi, bz⟩] : List Fld).length = 2 from rfl]
            have R0 : Hid (Below wr.heap.size wr wr.drew) := hide (Below.refl _ _).drew
            cases at_ with
            | false =>
              have HX : Hid (evalX ⟨st, sl, gl, sa, sc, ga, gc, mp⟩ x = .error 134) := hide (by rw [(unhide HFS).1]; rfl)
              go_upto_region 18 with fail
              refine wp_region_peel (n := 9) (L := ?Lx123) (S := fun w' => (w'.cell? ⟨g, 0, none⟩ = some (sv an) ∧ w'.cell? ⟨g, 1, none⟩ = some (.bool false) ∧ w'.cell? ⟨g, 2, none⟩ = some (.int .i64 ai) ∧ w'.cell? ⟨g, 3, none⟩ = some (sv az)) ∧ (w'.cell? ⟨g, 4, none⟩ = some (sv bn) ∧ w'.cell? ⟨g, 5, none⟩ = some (.bool bt) ∧ w'.cell? ⟨g, 6, none⟩ = some (.int .i64 bi) ∧ w'.cell? ⟨g, 7, none⟩ = some (sv bz))) (by kernel_rfl) (by rfl) ?hLx123 ?hpx123 (unhide HSG wr.drew (unhide R0)) (fun hS => ?_)
              case hLx123 => (simp only [List.getElem?_toArray, List.getElem?_cons_succ, List.getElem?_cons_zero]; rfl)
              case hpx123 => kernel_rfl
              simp only [List.pop_toArray, List.dropLast_cons_cons, List.dropLast_singleton]
              refine wpAnyH_take (i := 0) (oi := ?ox124) (v := ?vx124) ?hx124 (by kernel_rfl) (by kernel_rfl) (by kernel_rfl) ?qx124 (Or.inl ⟨?wx124, ?yx124⟩) hS ?rx124
              case hx124 => (simp only [List.getElem?_toArray, List.getElem?_cons_zero]; rfl)
              case wx124 => rfl
              case qx124 => exact fun _ _ _ h => h
              case yx124 =>
                intro w' hSw
                try dsimp only at hSw
                go_simp
                with_reducible rfl
              try simp only [Act.put, List.setIfInBounds_toArray, List.set_cons_zero, List.set_cons_succ]
              refine wpAnyH_take (i := 1) (oi := ?ox125) (v := ?vx125) ?hx125 (by kernel_rfl) (by kernel_rfl) (by kernel_rfl) ?qx125 (Or.inl ⟨?wx125, ?yx125⟩) hS ?rx125
              case hx125 => (simp only [List.getElem?_toArray, List.getElem?_cons_succ, List.getElem?_cons_zero]; rfl)
              case wx125 => rfl
              case qx125 => exact fun _ _ _ h => h
              case yx125 =>
                intro w' hSw
                try dsimp only at hSw
                go_simp
                with_reducible rfl
              try simp only [Act.put, List.setIfInBounds_toArray, List.set_cons_zero, List.set_cons_succ]
              refine wpAnyH_take (i := 2) (oi := ?ox126) (v := ?vx126) ?hx126 (by kernel_rfl) (by kernel_rfl) (by kernel_rfl) ?qx126 (Or.inl ⟨?wx126, ?yx126⟩) hS ?rx126
              case hx126 => (simp only [List.getElem?_toArray, List.getElem?_cons_succ, List.getElem?_cons_zero]; rfl)
              case wx126 => rfl
              case qx126 => exact fun _ _ _ h => h
              case yx126 =>
                intro w' hSw
                try dsimp only at hSw
                go_simp
                with_reducible rfl
              try simp only [Act.put, List.setIfInBounds_toArray, List.set_cons_zero, List.set_cons_succ]
              refine wpAnyH_take (i := 4) (oi := ?ox127) (v := ?vx127) ?hx127 (by kernel_rfl) (by kernel_rfl) (by kernel_rfl) ?qx127 (Or.inl ⟨?wx127, ?yx127⟩) hS ?rx127
              case hx127 => (simp only [List.getElem?_toArray, List.getElem?_cons_succ, List.getElem?_cons_zero]; rfl)
              case wx127 => rfl
              case qx127 => exact fun _ _ _ h => h
              case yx127 =>
                intro w' hSw
                try dsimp only at hSw
                go_simp
                with_reducible rfl
              try simp only [Act.put, List.setIfInBounds_toArray, List.set_cons_zero, List.set_cons_succ]
              refine wpAnyH_take (i := 5) (oi := ?ox128) (v := ?vx128) ?hx128 (by kernel_rfl) (by kernel_rfl) (by kernel_rfl) ?qx128 (Or.inl ⟨?wx128, ?yx128⟩) hS ?rx128
              case hx128 => (simp only [List.getElem?_toArray, List.getElem?_cons_succ, List.getElem?_cons_zero]; rfl)
              case wx128 => rfl
              case qx128 => exact fun _ _ _ h => h
              case yx128 =>
                intro w' hSw
                try dsimp only at hSw
                go_simp
                with_reducible rfl
              try simp only [Act.put, List.setIfInBounds_toArray, List.set_cons_zero, List.set_cons_succ]
              refine wpAnyH_take (i := 6) (oi := ?ox129) (v := ?vx129) ?hx129 (by kernel_rfl) (by kernel_rfl) (by kernel_rfl) ?qx129 (Or.inl ⟨?wx129, ?yx129⟩) hS ?rx129
              case hx129 => (simp only [List.getElem?_toArray, List.getElem?_cons_succ, List.getElem?_cons_zero]; rfl)
              case wx129 => rfl
              case qx129 => exact fun _ _ _ h => h
              case yx129 =>
                intro w' hSw
                try dsimp only at hSw
                go_simp
                with_reducible rfl
              try simp only [Act.put, List.setIfInBounds_toArray, List.set_cons_zero, List.set_cons_succ]
              refine wpAnyH_ready (rs := [3]) (by kernel_rfl) (by simp) ?_
              refine AllReadyH.cons (o := ?ox130) ?hx130 (fun K hK => ?_) AllReadyH.nil
              case hx130 => (simp only [List.getElem?_toArray, List.getElem?_cons_succ, List.getElem?_cons_zero]; rfl)
              go_simp
              refine (textOf_any ⟨an, false, ai, az⟩ _).mono ?_
              rintro e w4 ⟨rfl, b4⟩
              have B4 := hide ((unhide R0).trans (b4.mono (unhide R0).size))
              clear b4
              refine ⟨rfl, ?_⟩
              rw [unhide HX]
              exact ⟨rfl, (unhide HBE).trans ((unhide B4).mono hgw)⟩
            | true =>
              cases bt with
              | false =>
                have HX : Hid (evalX ⟨st, sl, gl, sa, sc, ga, gc, mp⟩ x = .error 134) := hide (by rw [(unhide HFS).1]; rfl)
                go_upto_region 18 with fail
                refine wp_region_peel (n := 9) (L := ?Lx131) (S := fun w' => (w'.cell? ⟨g, 0, none⟩ = some (sv an) ∧ w'.cell? ⟨g, 1, none⟩ = some (.bool true) ∧ w'.cell? ⟨g, 2, none⟩ = some (.int .i64 ai) ∧ w'.cell? ⟨g, 3, none⟩ = some (sv az)) ∧ (w'.cell? ⟨g, 4, none⟩ = some (sv bn) ∧ w'.cell? ⟨g, 5, none⟩ = some (.bool false) ∧ w'.cell? ⟨g, 6, none⟩ = some (.int .i64 bi) ∧ w'.cell? ⟨g, 7, none⟩ = some (sv bz))) (by kernel_rfl) (by rfl) ?hLx131 ?hpx131 (unhide HSG wr.drew (unhide R0)) (fun hS => ?_)
                case hLx131 => (simp only [List.getElem?_toArray, List.getElem?_cons_succ, List.getElem?_cons_zero]; rfl)
                case hpx131 => kernel_rfl
                simp only [List.pop_toArray, List.dropLast_cons_cons, List.dropLast_singleton]
                refine wpAnyH_take (i := 0) (oi := ?ox132) (v := ?vx132) ?hx132 (by kernel_rfl) (by kernel_rfl) (by kernel_rfl) ?qx132 (Or.inl ⟨?wx132, ?yx132⟩) hS ?rx132
                case hx132 => (simp only [List.getElem?_toArray, List.getElem?_cons_zero]; rfl)
                case wx132 => rfl
                case qx132 => exact fun _ _ _ h => h
                case yx132 =>
                  intro w' hSw
                  try dsimp only at hSw
                  go_simp
                  with_reducible rfl
                try simp only [Act.put, List.setIfInBounds_toArray, List.set_cons_zero, List.set_cons_succ]
                refine wpAnyH_take (i := 1) (oi := ?ox133) (v := ?vx133) ?hx133 (by kernel_rfl) (by kernel_rfl) (by kernel_rfl) ?qx133 (Or.inl ⟨?wx133, ?yx133⟩) hS ?rx133
                case hx133 => (simp only [List.getElem?_toArray, List.getElem?_cons_succ, List.getElem?_cons_zero]; rfl)
                case wx133 => rfl
                case qx133 => exact fun _ _ _ h => h
                case yx133 =>
                  intro w' hSw
                  try dsimp only at hSw
                  go_simp
                  with_reducible rfl
                try simp only [Act.put, List.setIfInBounds_toArray, List.set_cons_zero, List.set_cons_succ]
                refine wpAnyH_take (i := 2) (oi := ?ox134) (v := ?vx134) ?hx134 (by kernel_rfl) (by kernel_rfl) (by kernel_rfl) ?qx134 (Or.inl ⟨?wx134, ?yx134⟩) hS ?rx134
                case hx134 => (simp only [List.getElem?_toArray, List.getElem?_cons_succ, List.getElem?_cons_zero]; rfl)
                case wx134 => rfl
                case qx134 => exact fun _ _ _ h => h
                case yx134 =>
                  intro w' hSw
                  try dsimp only at hSw
                  go_simp
                  with_reducible rfl
                try simp only [Act.put, List.setIfInBounds_toArray, List.set_cons_zero, List.set_cons_succ]
                refine wpAnyH_take (i := 4) (oi := ?ox135) (v := ?vx135) ?hx135 (by kernel_rfl) (by kernel_rfl) (by kernel_rfl) ?qx135 (Or.inl ⟨?wx135, ?yx135⟩) hS ?rx135
                case hx135 => (simp only [List.getElem?_toArray, List.getElem?_cons_succ, List.getElem?_cons_zero]; rfl)
                case wx135 => rfl
                case qx135 => exact fun _ _ _ h => h
                case yx135 =>
                  intro w' hSw
                  try dsimp only at hSw
                  go_simp
                  with_reducible rfl
                try simp only [Act.put, List.setIfInBounds_toArray, List.set_cons_zero, List.set_cons_succ]
                refine wpAnyH_take (i := 5) (oi := ?ox136) (v := ?vx136) ?hx136 (by kernel_rfl) (by kernel_rfl) (by kernel_rfl) ?qx136 (Or.inl ⟨?wx136, ?yx136⟩) hS ?rx136
                case hx136 => (simp only [List.getElem?_toArray, List.getElem?_cons_succ, List.getElem?_cons_zero]; rfl)
                case wx136 => rfl
                case qx136 => exact fun _ _ _ h => h
                case yx136 =>
                  intro w' hSw
                  try dsimp only at hSw
                  go_simp
                  with_reducible rfl
                try simp only [Act.put, List.setIfInBounds_toArray, List.set_cons_zero, List.set_cons_succ]
                refine wpAnyH_take (i := 6) (oi := ?ox137) (v := ?vx137) ?hx137 (by kernel_rfl) (by kernel_rfl) (by kernel_rfl) ?qx137 (Or.inl ⟨?wx137, ?yx137⟩) hS ?rx137
                case hx137 => (simp only [List.getElem?_toArray, List.getElem?_cons_succ, List.getElem?_cons_zero]; rfl)
                case wx137 => rfl
                case qx137 => exact fun _ _ _ h => h
                case yx137 =>
                  intro w' hSw
                  try dsimp only at hSw
                  go_simp
                  with_reducible rfl
                try simp only [Act.put, List.setIfInBounds_toArray, List.set_cons_zero, List.set_cons_succ]
                refine wpAnyH_ready (rs := [3]) (by kernel_rfl) (by simp) ?_
                refine AllReadyH.cons (o := ?ox138) ?hx138 (fun K hK => ?_) AllReadyH.nil
                case hx138 => (simp only [List.getElem?_toArray, List.getElem?_cons_succ, List.getElem?_cons_zero]; rfl)
                go_simp
                refine (textOf_any ⟨an, true, ai, az⟩ _).mono ?_
                rintro e w4 ⟨rfl, b4⟩
                have B4 := hide ((unhide R0).trans (b4.mono (unhide R0).size))
                clear b4
                refine hK.out _ _ (unhide HSG w4 (unhide B4)) (fun hS => ?_)
                clear hK K
                skip
                refine wpAnyH_ready (rs := [7]) (by kernel_rfl) (by simp) ?_
                refine AllReadyH.cons (o := ?ox139) ?hx139 (fun K hK => ?_) AllReadyH.nil
                case hx139 => (simp only [List.getElem?_toArray, List.getElem?_cons_succ, List.getElem?_cons_zero]; rfl)
                go_simp
                refine (textOf_any ⟨bn, false, bi, bz⟩ _).mono ?_
                rintro e w5 ⟨rfl, b5⟩
                have B5 := hide ((unhide B4).trans (b5.mono (unhide B4).size))
                clear b5
                refine ⟨rfl, ?_⟩
                rw [unhide HX]
                exact ⟨rfl, (unhide HBE).trans ((unhide B5).mono hgw)⟩
              | true =>
                have HX0 : Hid (evalX ⟨st, sl, gl, sa, sc, ga, gc, mp⟩ x = if 200 < az.length + bz.length then .error 135 else .ok ⟨[], true, 0, az ++ bz⟩) := hide (by rw [(unhide HFS).1]; rfl)
                have HJ : Hid (∀ W, Calls Tryz.prog 107 #[sv az, sv bz] W (EndsV W (joinR az bz))) := hide (fun W => join_any az bz W (Nat.le_trans (unhide HSA2).1 (by decide)) (Nat.le_trans (unhide HSB2).1 (by decide)))
                unfold joinR at HJ
                go_upto_region 18 with fail
                refine wp_region_peel (n := 9) (L := ?Lx140) (S := fun w' => (w'.cell? ⟨g, 0, none⟩ = some (sv an) ∧ w'.cell? ⟨g, 1, none⟩ = some (.bool true) ∧ w'.cell? ⟨g, 2, none⟩ = some (.int .i64 ai) ∧ w'.cell? ⟨g, 3, none⟩ = some (sv az)) ∧ (w'.cell? ⟨g, 4, none⟩ = some (sv bn) ∧ w'.cell? ⟨g, 5, none⟩ = some (.bool true) ∧ w'.cell? ⟨g, 6, none⟩ = some (.int .i64 bi) ∧ w'.cell? ⟨g, 7, none⟩ = some (sv bz))) (by kernel_rfl) (by rfl) ?hLx140 ?hpx140 (unhide HSG wr.drew (unhide R0)) (fun hS => ?_)
                case hLx140 => (simp only [List.getElem?_toArray, List.getElem?_cons_succ, List.getElem?_cons_zero]; rfl)
                case hpx140 => kernel_rfl
                simp only [List.pop_toArray, List.dropLast_cons_cons, List.dropLast_singleton]
                refine wpAnyH_take (i := 0) (oi := ?ox141) (v := ?vx141) ?hx141 (by kernel_rfl) (by kernel_rfl) (by kernel_rfl) ?qx141 (Or.inl ⟨?wx141, ?yx141⟩) hS ?rx141
                case hx141 => (simp only [List.getElem?_toArray, List.getElem?_cons_zero]; rfl)
                case wx141 => rfl
                case qx141 => exact fun _ _ _ h => h
                case yx141 =>
                  intro w' hSw
                  try dsimp only at hSw
                  go_simp
                  with_reducible rfl
                try simp only [Act.put, List.setIfInBounds_toArray, List.set_cons_zero, List.set_cons_succ]
                refine wpAnyH_take (i := 1) (oi := ?ox142) (v := ?vx142) ?hx142 (by kernel_rfl) (by kernel_rfl) (by kernel_rfl) ?qx142 (Or.inl ⟨?wx142, ?yx142⟩) hS ?rx142
                case hx142 => (simp only [List.getElem?_toArray, List.getElem?_cons_succ, List.getElem?_cons_zero]; rfl)
                case wx142 => rfl
                case qx142 => exact fun _ _ _ h => h
                case yx142 =>
                  intro w' hSw
                  try dsimp only at hSw
                  go_simp
                  with_reducible rfl
                try simp only [Act.put, List.setIfInBounds_toArray, List.set_cons_zero, List.set_cons_succ]
                refine wpAnyH_take (i := 2) (oi := ?ox143) (v := ?vx143) ?hx143 (by kernel_rfl) (by kernel_rfl) (by kernel_rfl) ?qx143 (Or.inl ⟨?wx143, ?yx143⟩) hS ?rx143
                case hx143 => (simp only [List.getElem?_toArray, List.getElem?_cons_succ, List.getElem?_cons_zero]; rfl)
                case wx143 => rfl
                case qx143 => exact fun _ _ _ h => h
                case yx143 =>
                  intro w' hSw
                  try dsimp only at hSw
                  go_simp
                  with_reducible rfl
                try simp only [Act.put, List.setIfInBounds_toArray, List.set_cons_zero, List.set_cons_succ]
                refine wpAnyH_take (i := 4) (oi := ?ox144) (v := ?vx144) ?hx144 (by kernel_rfl) (by kernel_rfl) (by kernel_rfl) ?qx144 (Or.inl ⟨?wx144, ?yx144⟩) hS ?rx144
                case hx144 => (simp only [List.getElem?_toArray, List.getElem?_cons_succ, List.getElem?_cons_zero]; rfl)
                case wx144 => rfl
                case qx144 => exact fun _ _ _ h => h
                case yx144 =>
                  intro w' hSw
                  try dsimp only at hSw
                  go_simp
                  with_reducible rfl
                try simp only [Act.put, List.setIfInBounds_toArray, List.set_cons_zero, List.set_cons_succ]
                refine wpAnyH_take (i := 5) (oi := ?ox145) (v := ?vx145) ?hx145 (by kernel_rfl) (by kernel_rfl) (by kernel_rfl) ?qx145 (Or.inl ⟨?wx145, ?yx145⟩) hS ?rx145
                case hx145 => (simp only [List.getElem?_toArray, List.getElem?_cons_succ, List.getElem?_cons_zero]; rfl)
                case wx145 => rfl
                case qx145 => exact fun _ _ _ h => h
                case yx145 =>
                  intro w' hSw
                  try dsimp only at hSw
                  go_simp
                  with_reducible rfl
                try simp only [Act.put, List.setIfInBounds_toArray, List.set_cons_zero, List.set_cons_succ]
                refine wpAnyH_take (i := 6) (oi := ?ox146) (v := ?vx146) ?hx146 (by kernel_rfl) (by kernel_rfl) (by kernel_rfl) ?qx146 (Or.inl ⟨?wx146, ?yx146⟩) hS ?rx146
                case hx146 => (simp only [List.getElem?_toArray, List.getElem?_cons_succ, List.getElem?_cons_zero]; rfl)
                case wx146 => rfl
                case qx146 => exact fun _ _ _ h => h
                case yx146 =>
                  intro w' hSw
                  try dsimp only at hSw
                  go_simp
                  with_reducible rfl
                try simp only [Act.put, List.setIfInBounds_toArray, List.set_cons_zero, List.set_cons_succ]
                refine wpAnyH_ready (rs := [3]) (by kernel_rfl) (by simp) ?_
                refine AllReadyH.cons (o := ?ox147) ?hx147 (fun K hK => ?_) AllReadyH.nil
                case hx147 => (simp only [List.getElem?_toArray, List.getElem?_cons_succ, List.getElem?_cons_zero]; rfl)
                go_simp
                refine (textOf_any ⟨an, true, ai, az⟩ _).mono ?_
                rintro e w4 ⟨rfl, b4⟩
                have B4 := hide ((unhide R0).trans (b4.mono (unhide R0).size))
                clear b4
                refine hK.out _ _ (unhide HSG w4 (unhide B4)) (fun hS => ?_)
                clear hK K
                skip
                refine wpAnyH_ready (rs := [7]) (by kernel_rfl) (by simp) ?_
                refine AllReadyH.cons (o := ?ox148) ?hx148 (fun K hK => ?_) AllReadyH.nil
                case hx148 => (simp only [List.getElem?_toArray, List.getElem?_cons_succ, List.getElem?_cons_zero]; rfl)
                go_simp
                refine (textOf_any ⟨bn, true, bi, bz⟩ _).mono ?_
                rintro e w5 ⟨rfl, b5⟩
                have B5 := hide ((unhide B4).trans (b5.mono (unhide B4).size))
                clear b5
                refine hK.out _ _ (unhide HSG w5 (unhide B5)) (fun hS => ?_)
                clear hK K
                skip
                refine wpAnyH_ready (rs := [8]) (by kernel_rfl) (by simp) ?_
                refine AllReadyH.cons (o := ?ox149) ?hx149 (fun K hK => ?_) AllReadyH.nil
                case hx149 => (simp only [List.getElem?_toArray, List.getElem?_cons_succ, List.getElem?_cons_zero]; rfl)
                go_simp
                by_cases hl : 200 < az.length + bz.length
                · have HX := hide (unhide HX0)
                  rw [if_pos hl] at HX HJ
                  refine (unhide HJ _).mono ?_
                  rintro e w6 ⟨rfl, b6⟩
                  have B6 := hide ((unhide B5).trans (b6.mono (unhide B5).size))
                  clear b6
                  refine ⟨rfl, ?_⟩
                  rw [unhide HX]
                  exact ⟨rfl, (unhide HBE).trans ((unhide B6).mono hgw)⟩
                · have HX := hide (unhide HX0)
                  rw [if_neg hl] at HX HJ
                  refine (unhide HJ _).mono ?_
                  rintro e w6 ⟨rfl, b6⟩
                  have B6 := hide ((unhide B5).trans (b6.mono (unhide B5).size))
                  clear b6
                  have HSF : Hid (small ⟨[], true, 0, az ++ bz⟩) := hide ⟨(by simp only [List.length_append]; omega), zero64⟩
                  obtain ⟨jz, hjz⟩ : ∃ jz, jz = az ++ bz := ⟨_, rfl⟩
                  rw [← hjz] at HX HSF ⊢
                  clear hjz
                  have hf6 := (unhide HFB).below (unhide B6) (Nat.le_refl _)
                  obtain ⟨r0, r1, r2, r3, rf⟩ := hf6.cells
                  have HE2 := hide (hf6.put [] true 0 jz)
                  have BE := hide (below_put ((unhide HBE).trans ((unhide B6).mono hgw)) (unhide HGE) [] true 0 jz)
                  clear hf6
                  refine hK.out _ _ (unhide HSG w6 (unhide B6)) (fun hS => ?_)
                  clear hK K
                  try simp only [Act.put, List.setIfInBounds_toArray, List.set_cons_zero, List.set_cons_succ]
                  refine wpAnyH_done (by kernel_rfl) ?_ _
                  clear hS
                  unfold peelQ
                  go_wp2
                  refine bodyPost_ret (results_cell_row rfl _ _ r 48 (fv ⟨[], true, 0, jz⟩) (0, 0) _ rfl (unhide HE2) Tryz.underlying48 rfl sizeField) rfl ?_
                  rw [unhide HX]
                  exact ⟨⟨rfl, unhide HSF⟩, unhide BE⟩
        · obtain ⟨A, rfl⟩ : ∃ A, fs = [A] := by
            have h1 := (unhide HFS).2.1
            have h2 := (unhide HFS).2.2
            rw [show argsN 10 = 1 from rfl] at h2
            exact List.length_eq_one_iff.1 (by omega)
          have hsA := unhide HSM A (by simp)
          obtain ⟨an, at_, ai, az⟩ := A
          rcases (unhide HO).2 with ⟨_, h0⟩ | ⟨g, cap, cur, hu5, _, _, hcap, hcm, _⟩
          · simp at h0
          · have ho := unhide HO
            rw [hu5] at ho
            obtain ⟨⟨y0, y1, y2, y3⟩, yf⟩ := ho.slots 0 (by simp)
            simp only [List.getElem_cons_zero, Nat.zero_mul, Nat.zero_add] at y0 y1 y2 y3
            subst hu5
            clear ho hcap hcm
            have HSA2 := hide hsA
            clear hsA
            rw [show ([⟨an, at_, ai, az⟩] : List Fld).length = 1 from rfl]
            cases at_ with
            | false =>
              have HX : Hid (evalX ⟨st, sl, gl, sa, sc, ga, gc, mp⟩ x = .error 134) := hide (by rw [(unhide HFS).1]; rfl)
              go_wp2_with (go_at_call 108; refine (textOf_any ⟨an, false, ai, az⟩ _).mono ?_; rintro e w6 ⟨rfl, b6⟩; have BE := hide ((unhide HBE).trans (b6.mono hgw)); clear b6)
              refine ⟨rfl, ?_⟩
              rw [unhide HX]
              exact ⟨rfl, unhide BE⟩
            | true =>
              have HX : Hid (evalX ⟨st, sl, gl, sa, sc, ga, gc, mp⟩ x = .ok ⟨[], false, az.length, []⟩) := hide (by rw [(unhide HFS).1]; rfl)
              have HSF : Hid (small ⟨[], false, az.length, []⟩) := hide ⟨by simp, by have := (unhide HSA2).1; constructor <;> (simp only at this ⊢; omega)⟩
              go_wp2_with (first | (go_at_call 108; refine (textOf_any ⟨an, true, ai, az⟩ _).mono ?_; rintro e w5 ⟨rfl, b5⟩; have B5 := hide b5; clear b5) | (go_at_call 103; refine (integer_any (az.length : Int) _).mono ?_; rintro e w6 ⟨rfl, b6⟩; have B6 := (unhide B5).trans (b6.mono (unhide B5).size); have hf6 := (unhide HFB).below B6 (Nat.le_refl _); obtain ⟨r0, r1, r2, r3, rf⟩ := hf6.cells; have HE2 := hide (hf6.put [] false az.length []); have BE := hide (below_put ((unhide HBE).trans (B6.mono hgw)) (unhide HGE) [] false az.length []); clear b6 B6 hf6))
              refine bodyPost_ret (results_cell_row rfl _ _ r 48 (fv ⟨[], false, az.length, []⟩) (0, 0) _ rfl (unhide HE2) Tryz.underlying48 rfl sizeField) rfl ?_
              rw [unhide HX]
              exact ⟨⟨rfl, unhide HSF⟩, unhide BE⟩
        · obtain ⟨A, rfl⟩ : ∃ A, fs = [A] := by
            have h1 := (unhide HFS).2.1
            have h2 := (unhide HFS).2.2
            rw [show argsN 11 = 1 from rfl] at h2
            exact List.length_eq_one_iff.1 (by omega)
          have hsA := unhide HSM A (by simp)
          obtain ⟨an, at_, ai, az⟩ := A
          rcases (unhide HO).2 with ⟨_, h0⟩ | ⟨g, cap, cur, hu5, _, _, hcap, hcm, _⟩
          · simp at h0
          · have ho := unhide HO
            rw [hu5] at ho
            obtain ⟨⟨y0, y1, y2, y3⟩, yf⟩ := ho.slots 0 (by simp)
            simp only [List.getElem_cons_zero, Nat.zero_mul, Nat.zero_add] at y0 y1 y2 y3
            subst hu5
            clear ho hcap hcm
            have HSA2 := hide hsA
            clear hsA
            rw [show ([⟨an, at_, ai, az⟩] : List Fld).length = 1 from rfl]
            cases at_ with
            | true =>
              have HX : Hid (evalX ⟨st, sl, gl, sa, sc, ga, gc, mp⟩ x = .error 134) := hide (by rw [(unhide HFS).1]; rfl)
              go_wp2_with (go_at_call 110; refine (integerOf_any ⟨an, true, ai, az⟩ _).mono ?_; rintro e w6 ⟨rfl, b6⟩; have BE := hide ((unhide HBE).trans (b6.mono hgw)); clear b6)
              refine ⟨rfl, ?_⟩
              rw [unhide HX]
              exact ⟨rfl, unhide BE⟩
            | false =>
              have HX : Hid (evalX ⟨st, sl, gl, sa, sc, ga, gc, mp⟩ x = .ok ⟨[], true, 0, Lib.itoa ai⟩) := hide (by rw [(unhide HFS).1]; rfl)
              have hit : I64 ai := (unhide HSA2).2
              have HSF : Hid (small ⟨[], true, 0, Lib.itoa ai⟩) := hide ⟨by have := itoa_short hit; simp only; omega, zero64⟩
              have HIT : Hid (∀ W, Below w3.heap.size w3 W → Calls Tryz.prog 109 #[.int .i64 ai] W fun e w' => e = .returned (sv (Lib.itoa ai)) ∧ Below W.heap.size W w') := hide (fun W hW => Itoa_go ai hit.1 hit.2 W ((unhide HVA).below hW (Nat.le_refl _)))
              obtain ⟨iz, hiz⟩ : ∃ iz, iz = Lib.itoa ai := ⟨_, rfl⟩
              rw [← hiz] at HX HSF HIT
              clear hiz hit
              go_wp2_with (first | (go_at_call 110; refine (integerOf_any ⟨an, false, ai, az⟩ _).mono ?_; rintro e w5 ⟨rfl, b5⟩; have B5 := hide b5; clear b5) | (go_at_call 109; refine (unhide HIT _ ((unhide HBW).trans ((unhide B5).mono (unhide HBW).size))).mono ?_; rintro e w55 ⟨rfl, b5⟩; have B55 := hide ((unhide B5).trans (b5.mono (unhide B5).size)); clear b5) | (go_at_call 104; refine (text_any iz _).mono ?_; rintro e w6 ⟨rfl, b6⟩; have B6 := (unhide B55).trans (b6.mono (unhide B55).size); have hf6 := (unhide HFB).below B6 (Nat.le_refl _); obtain ⟨r0, r1, r2, r3, rf⟩ := hf6.cells; have HE2 := hide (hf6.put [] true 0 iz); have BE := hide (below_put ((unhide HBE).trans (B6.mono hgw)) (unhide HGE) [] true 0 iz); clear b6 B6 hf6))
              refine bodyPost_ret (results_cell_row rfl _ _ r 48 (fv ⟨[], true, 0, iz⟩) (0, 0) _ rfl (unhide HE2) Tryz.underlying48 rfl sizeField) rfl ?_
              rw [unhide HX]
              exact ⟨⟨rfl, unhide HSF⟩, unhide BE⟩
end Go.Proofs.YtingpmgpjmlioaaGreatDoor
