/-
  DERIVED. The document's map: Give.
-/
import Derived.Test.YtmnmciajldoabaaAref4
import Derived.Test.YtmnmciajldoabaaAgive
namespace Go.Proofs.Ytmnmciajldoabaa
open Go.RowKit
set_option linter.unusedVariables false

/-- Where the giving back of one run stands behind c blocks. -/
def DG (B p q : Nat) (Uk : Nat → Bool) (c : Nat) (Uc : Nat → Bool) : Prop := dropGo q p Uk = dropGo (q - c) (p + c) Uc ∧ (c = 0 ∨ p + c ≤ B)
theorem DG.start (B p q : Nat) (Uk : Nat → Bool) : DG B p q Uk 0 Uk := ⟨rfl, .inl rfl⟩
theorem DG.step {B p q c : Nat} {Uk Uc : Nat → Bool} (h : DG B p q Uk c Uc) (hc : c < q) (hb : p + c < B) (hu : Uc (p + c) = true) : DG B p q Uk (c + 1) (fun j => if j = p + c then false else Uc j) := by
  refine ⟨?_, .inr (by omega)⟩
  rw [h.1, show q - c = (q - (c + 1)) + 1 by omega, dropGo, if_pos hu]
  rfl
theorem DG.bad {B c : Nat} {x1 x2 : Int} {Uk Uc : Nat → Bool} (h : DG B x1.toNat x2.toNat Uk c Uc) (hc : c < x2.toNat) (hu : B ≤ x1.toNat + c ∨ Uc (x1.toNat + c) = false) : dropR B Uk (x1, x2) = none := by
  unfold dropR
  split
  · rfl
  · rename_i hn
    simp only [not_or] at hn
    have h2 : Uc (x1.toNat + c) = false := hu.resolve_left (by omega)
    show dropGo x2.toNat x1.toNat Uk = none
    rw [h.1, show x2.toNat - c = (x2.toNat - (c + 1)) + 1 by omega, dropGo, if_neg (by simp [h2])]
theorem DG.full {B c : Nat} {x1 x2 : Int} {Uk Uc : Nat → Bool} (h : DG B x1.toNat x2.toNat Uk c Uc) (hc : c = x2.toNat) (h1 : 0 ≤ x1) (h2 : 1 ≤ x2) : dropR B Uk (x1, x2) = some Uc := by
  have h3 := h.2
  unfold dropR
  rw [if_neg (by simp only [not_or]; omega)]
  show dropGo x2.toNat x1.toNat Uk = _
  rw [h.1, hc, Nat.sub_self]
  rfl
theorem dropR_bad {B : Nat} {x1 x2 : Int} {Uk : Nat → Bool} (hB : B ≤ 512) (h : ¬ (1 ≤ x2 ∧ x2 ≤ 512 ∧ 0 ≤ x1 ∧ x1 ≤ 512)) : dropR B Uk (x1, x2) = none := by
  unfold dropR
  rw [if_pos (by simp only; omega)]

theorem rm_storeGive {w w0 : World} {N b B : Nat} {v1 v2 v' : Value} {U V W : Nat → Bool} (h0 : RmAt w0 N b B v1 v2 U V) (h : RmAt w N b B v1 v2 U V) (ho : BOwn w w0.heap.size v' W B) (hN : N ≤ w0.heap.size) :
    RmAt (w.setCell ⟨b, 0, none⟩ v') N b B v' v2 W V ∧ w.grownBy (w.setCell ⟨b, 0, none⟩ v') (some b) := by
  have hg := setCell_grown w b 0 v'
  refine ⟨⟨?_, ((BOwn.low ho hN).kept hg (fun q hq e => by cases e; obtain ⟨_, cur, hc⟩ := ho.row hq; rw [h.blk] at hc; cases hc)), (h.last.kept hg (fun q hq e => by cases e; obtain ⟨_, cur, hc⟩ := h.last.row hq; rw [h.blk] at hc; cases hc)), h.le, h.base, fun q hq e => by
    obtain ⟨_, cur, hc⟩ := h0.last.row e
    have h1 := lt_of_block hc
    have h2 := (ho.row hq).1
    omega⟩, hg⟩
  rw [heap_setCell_same w b 0 _ _ _ h.blk]
  rfl

def RGv (w : World) (N b B : Nat) (v1 v2 : Value) (U V : Nat → Bool) (l : List (Int × Int)) (e : Ending) (w' : World) : Prop :=
  ((∃ U' v3, giveL B U l = some U' ∧ e = .returned (.int .i64 0) ∧ RmAt w' N b B v3 v2 U' V) ∨ (giveL B U l = none ∧ e = .returned (.int .i64 51) ∧ RmAt w' N b B v1 v2 U V)) ∧ w.grownBy w' (some b)

set_option maxHeartbeats 4000000 in
theorem rGive_any (w : World) (N b B : Nat) (v1 v2 v : Value) (l : List (Int × Int)) (U V : Nat → Bool) (h : RmAt w N b B v1 v2 U V) (hN : N ≤ w.heap.size) (hv : Rn w v l) :
    Calls Try.prog 14 #[.pointer (some ⟨b, 0, none⟩), v] w (RGv w N b B v1 v2 U V l) := by
  have HM := hide h
  have hle := h.le
  have hBI : (B : Int) ≤ 512 := by omega
  obtain ⟨o1, p1, hv1', _⟩ := h.now.form
  subst hv1'
  have c0 : (w.alloc (.cells #[] 4)).cell? ⟨b, 0, none⟩ = some (.slice o1 B p1) := (World.grownBy_alloc _ _ none).cell h.c0 (by simp)
  have HV := hide hv
  obtain ⟨ao, cap, rfl, hv1, hv2, hv3, hv4⟩ := hv
  have hlen : (l.length : Int) ≤ 9223372036854775807 := by omega
  clear hv4 h
  obtain ⟨n, hn⟩ : ∃ n, n = l.length := ⟨_, rfl⟩
  rw [← hn] at hv1 hlen HV ⊢
  have HNl := hide hn
  have HF3 := hide hv3
  clear hn hv3
  go_enter Try.func14, Try.ntmps14
  go_wp2_with (at_builtin; refine wpList_append_bools rfl (.tmp 9) (.tmp 13) rfl w.heap.size _ rfl (bools_empty w) _ N B U rfl ?hy hle ?hbase ?_)
  case hy => exact (unhide HM).now.kept (World.grownBy_alloc _ _ none) (fun _ _ e => by cases e)
  case hbase => simp
  intro v' w' ho hg
  have HG0 : Hid (w.grownBy w' none) := hide ((World.grownBy_alloc w (.cells #[] 4) none).andThen hg (fun z e => .inl (by cases e; exact Nat.le_refl _)))
  have HO0 := hide ho
  obtain ⟨o5, p5, hv5, r1, r2, _⟩ := ho.form
  subst hv5
  clear ho hg c0
  go_wp2
  go_loopw [6] (fun i wr => ∃ (k : Nat) (Uk : Nat → Bool), i = .int .i64 (k : Int) ∧ k ≤ n ∧ BOwn wr w.heap.size (.slice o5 B p5) Uk B ∧ Hid (giveL B U l = giveL B Uk (l.drop k)) ∧ w.grownBy wr none) (fun i _ => n - (intOf i).toNat)
  case atStart => exact ⟨0, U, rfl, by omega, unhide HO0, hide (by simp), unhide HG0⟩
  case round =>
    obtain ⟨k, Uk, rfl, hk, hm, HE, hg⟩ := hrel
    clear HO0 HG0
    by_cases hlt : k < n
    · have hlt' : (k : Int) < (n : Int) := by omega
      have hkl : k < l.length := by rw [← unhide HNl]; exact hlt
      obtain ⟨pb, off, hao, hpb, hc⟩ : ∃ pb off, ao = some ⟨pb, off, none⟩ ∧ pb < wr.heap.size ∧ ∀ i, (h : i < l.length) → wr.cell? ⟨pb, off + i * 2, none⟩ = some (.int .i64 l[i].1) ∧ wr.cell? ⟨pb, off + i * 2 + 1, none⟩ = some (.int .i64 l[i].2) := by
        obtain ⟨ao', cap', e, _, _, _, h4⟩ := (unhide HV).kept hg
        cases e
        exact h4 (by omega)
      subst hao
      obtain ⟨c0, c1⟩ := hc k hkl
      have hfit := unhide HF3 l[k] (List.getElem_mem hkl)
      have HST := hide (giveL_step (B := B) (U := Uk) hkl)
      obtain ⟨x, hx⟩ : ∃ x, x = l[k] := ⟨_, rfl⟩
      rw [← hx] at c0 c1 hfit HST
      have HX := hide hx
      clear hc hx
      obtain ⟨x1, x2⟩ := x
      obtain ⟨f1, f2, f3, f4⟩ := hfit
      simp only at c0 c1 f1 f2 f3 f4
      have HO := hide (hm.kept (World.grownBy_alloc wr (.cells #[.int .i64 x1, .int .i64 x2] 36) none) (fun _ _ e => by cases e))
      have HG2 : Hid (w.grownBy (wr.alloc (.cells #[.int .i64 x1, .int .i64 x2] 36)) none) := hide (hg.trans (World.grownBy_alloc _ _ _))
      have hwr := hg.size
      clear hm hg
      by_cases hgood : 1 ≤ x2 ∧ x2 ≤ 512 ∧ 0 ≤ x1 ∧ x1 ≤ 512
      · obtain ⟨g1, g2, g3, g4⟩ := hgood
        obtain ⟨p, rfl⟩ : ∃ p : Nat, x1 = (p : Int) := ⟨x1.toNat, by omega⟩
        obtain ⟨q, rfl⟩ : ∃ q : Nat, x2 = (q : Int) := ⟨x2.toNat, by omega⟩
        obtain ⟨R, hR⟩ : ∃ R, R = wr.heap.size := ⟨_, rfl⟩
        have HB0 : Hid ((wr.alloc (.cells #[.int .i64 (p : Int), .int .i64 (q : Int)] 36)).heap[R]? = some (.cells #[.int .i64 (p : Int), .int .i64 (q : Int)] 36 (0, 0))) := hide (by rw [hR]; exact heap_alloc_new _ _)
        have HRg : Hid (R = wr.heap.size) := hide hR
        clear hR
        rename World => W0
        go_wp2_with fail
        go_loopw [8] (fun j wq => ∃ (c : Nat) (Uc : Nat → Bool), j = .int .i64 (c : Int) ∧ c ≤ q ∧ BOwn wq w.heap.size (.slice o5 B p5) Uc B ∧ DG B p q Uk c Uc ∧ wq.heap[W0.heap.size]? = some (.cells #[.int .i64 (p : Int), .int .i64 (q : Int)] 36 (0, 0)) ∧ w.grownBy wq none) (fun j _ => q - (intOf j).toNat)
        case atStart => exact ⟨0, Uk, rfl, by omega, unhide HO, DG.start _ _ _ _, by have := unhide HB0; rwa [unhide HRg] at this, unhide HG2⟩
        case round =>
          obtain ⟨c, Uc, rfl, hcq, hO, hD, hBx, hG⟩ := hrel
          clear HO HG2 HB0
          have bc0 : wr.cell? ⟨W0.heap.size, 0, none⟩ = some (.int .i64 (p : Int)) := (cell_of_row _ _ _ _ _ _ hBx).trans rfl
          have bc1 : wr.cell? ⟨W0.heap.size, 1, none⟩ = some (.int .i64 (q : Int)) := (cell_of_row _ _ _ _ _ _ hBx).trans rfl
          have HOc := hide hO
          have HD := hide hD
          have HBx := hide hBx
          have HGc := hide hG
          obtain ⟨oo, pp, ee, -, -, hh⟩ := hO.form
          injection ee with ee1 _ ee2
          subst ee1 ee2
          clear hO hD hBx hG
          by_cases hc : c < q
          · have hc' : (c : Int) < (q : Int) := by omega
            by_cases hb : p + c < B
            · obtain ⟨g, eg, hwg, -, fz, cz⟩ := hh (by omega)
              subst eg
              have z5 := cz (p + c) hb
              have f5 := fz (p + c)
              have hb' : (p : Int) + (c : Int) < (B : Int) := by omega
              have hpc : ((p : Int) + (c : Int)).toNat = p + c := by omega
              clear cz fz hh
              cases hu : Uc (p + c) with
              | true =>
                rw [hu] at z5
                have HD2 := hide ((unhide HD).step hc hb hu)
                have HO2 := hide ((unhide HOc).set (p + c) false)
                have hSg := setCell_grown wr g (p + c) (.bool false)
                have HB2 := hide ((hSg.block W0.heap.size (lt_of_block (unhide HBx)) (fun e => by
                  obtain ⟨_, cur, hcc⟩ := (unhide HOc).row (q := g) rfl
                  rw [← Option.some.inj e, unhide HBx] at hcc
                  cases hcc)).trans (unhide HBx))
                have HG3 := hide ((unhide HGc).andThen hSg (fun z e => .inl (by cases e; exact hwg)))
                clear hu hSg HD HOc HBx HGc
                go_wp2
                go_roundw
                case rel => exact ⟨c + 1, _, rfl, by omega, unhide HO2, unhide HD2, unhide HB2, unhide HG3⟩
                case measure => simp [intOf]; omega
              | false =>
                rw [hu] at z5
                have HR : Hid (giveL B U l = none) := hide (by rw [unhide HE, unhide HST, DG.bad (x1 := (p : Int)) (x2 := (q : Int)) (unhide HD) hc (.inr hu)])
                have HEnd : Hid (RGv w N b B (.slice o1 B p1) v2 U V l (.returned (.int .i64 51)) wr) := hide ⟨.inr ⟨unhide HR, rfl, (unhide HM).grown (unhide HGc)⟩, gr_weak0 (unhide HGc)⟩
                clear hu HD HOc HBx HGc HR HE HST
                go_wp2
                go_ret
                exact unhide HEnd
            · have hb' : ¬ (p : Int) + (c : Int) < (B : Int) := by omega
              have HR : Hid (giveL B U l = none) := hide (by rw [unhide HE, unhide HST, DG.bad (x1 := (p : Int)) (x2 := (q : Int)) (unhide HD) hc (.inl (by show B ≤ p + c; omega))])
              have HEnd : Hid (RGv w N b B (.slice o1 B p1) v2 U V l (.returned (.int .i64 51)) wr) := hide ⟨.inr ⟨unhide HR, rfl, (unhide HM).grown (unhide HGc)⟩, gr_weak0 (unhide HGc)⟩
              clear HD HOc HBx HGc HR HE HST hh
              go_wp2
              go_ret
              exact unhide HEnd
          · have hc' : ¬ (c : Int) < (q : Int) := by omega
            have HR : Hid (giveL B U l = giveL B Uc (l.drop (k + 1))) := hide (by rw [unhide HE, unhide HST, DG.full (x1 := (p : Int)) (x2 := (q : Int)) (unhide HD) (by show c = q; omega) (by omega) (by omega)])
            clear HD HBx HE HST hh
            go_wp2
            go_roundw
            case rel => exact ⟨k + 1, Uc, rfl, by omega, unhide HOc, HR, unhide HGc⟩
            case measure => simp [intOf]; omega
      · have HR : Hid (giveL B U l = none) := hide (by rw [unhide HE, unhide HST, dropR_bad hle hgood])
        have HEnd : Hid (RGv w N b B (.slice o1 B p1) v2 U V l (.returned (.int .i64 51)) (wr.alloc (.cells #[.int .i64 x1, .int .i64 x2] 36))) := hide ⟨.inr ⟨unhide HR, rfl, (unhide HM).grown (unhide HG2)⟩, gr_weak0 (unhide HG2)⟩
        clear HE HST HR HO HG2 HX
        by_cases b1 : x2 < 1
        · clear hgood
          go_wp2
          go_ret
          exact unhide HEnd
        · by_cases b2 : 512 < x2
          · clear hgood
            go_wp2
            go_ret
            exact unhide HEnd
          · by_cases b3 : x1 < 0
            · clear hgood
              go_wp2
              go_ret
              exact unhide HEnd
            · have b4 : 512 < x1 := by omega
              clear hgood
              go_wp2
              go_ret
              exact unhide HEnd
    · have hlt' : ¬ (k : Int) < (n : Int) := by omega
      have HR : Hid (giveL B U l = some Uk) := hide (by rw [unhide HE, List.drop_eq_nil_of_le (by have := unhide HNl; omega)]; rfl)
      have M2 := (unhide HM).grown hg
      have d1 := M2.c0
      have f1 : wr.frozen? ⟨b, 0, none⟩ = false := by simp [World.frozen?, M2.blk]
      have HS := hide (rm_storeGive (unhide HM) M2 hm hN)
      have HG2 := hide hg
      clear HE hm hg M2
      go_wp2
      go_ret
      exact ⟨.inl ⟨Uk, _, unhide HR, rfl, (unhide HS).1⟩, (gr_weak0 (unhide HG2)).trans (unhide HS).2⟩
end Go.Proofs.Ytmnmciajldoabaa
