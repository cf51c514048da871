/-
  DERIVED. The walks of integer, text, integerOf, textOf, join: some give up.
-/
import Derived.Test.YtingpmgpjmlioaaGreatDoorRuW
import Derived.Test.YtingpmgpjmlioaaGreatDoorShst
import Derived.WalkLawsBesides
namespace Go.Proofs.YtingpmgpjmlioaaGreatDoor
open Go.RowKit
set_option linter.unusedVariables false

/-- A call gives up with that error. -/
abbrev pan (n : Int) : Ending := .panicked [{ v := .iface 27 (.int .i64 n), recovered := false }]
/-- What a call comes to: a value, or it gives up. -/
def EndsV (w : World) (r : Except Int Value) (e : Ending) (w' : World) : Prop :=
  (match r with
    | .ok v => e = .returned v
    | .error n => e = pan n) ∧ Below w.heap.size w w'

theorem integer_any (n : Int) (w : World) : Calls Tryz.prog 103 #[.int .i64 n] w fun e w' => e = .returned (.agg (fv ⟨[], false, n, []⟩)) ∧ Below w.heap.size w w' := by
  have hb1 : Below w.heap.size w (w.alloc (.cells (fv fld0) 48)) := (Below.refl _ _).alloc (Nat.le_refl _) _
  have hf1 := FBox.new w fld0
  obtain ⟨w1, hw1⟩ : ∃ w1, w1 = w.alloc (.cells (fv fld0) 48) := ⟨_, rfl⟩
  rw [← hw1] at hb1 hf1
  have HW := hide hw1
  obtain ⟨c0, c1, c2, c3, cf⟩ := hf1.cells
  have HE := hide (hf1.put [] false n [])
  have BE := hide (below_put hb1 (Nat.le_refl _) [] false n [])
  clear hw1 hb1 hf1
  go_enter Tryz.func103, Tryz.ntmps103
  go_upto_region 1 with fail
  rw [show w.alloc (.cells #[Value.string ⟨#[]⟩, .bool false, .int .i64 0, Value.string ⟨#[]⟩] 48) = w1 from (unhide HW).symm]
  go_wp2
  exact bodyPost_ret (results_cell_row rfl _ _ w.heap.size 48 (fv ⟨[], false, n, []⟩) (0, 0) _ rfl (unhide HE) Tryz.underlying48 rfl sizeField) rfl ⟨rfl, unhide BE⟩

theorem text_any (s : List UInt8) (w : World) : Calls Tryz.prog 104 #[sv s] w fun e w' => e = .returned (.agg (fv ⟨[], true, 0, s⟩)) ∧ Below w.heap.size w w' := by
  have hb1 : Below w.heap.size w (w.alloc (.cells (fv fld0) 48)) := (Below.refl _ _).alloc (Nat.le_refl _) _
  have hf1 := FBox.new w fld0
  obtain ⟨w1, hw1⟩ : ∃ w1, w1 = w.alloc (.cells (fv fld0) 48) := ⟨_, rfl⟩
  rw [← hw1] at hb1 hf1
  have HW := hide hw1
  obtain ⟨c0, c1, c2, c3, cf⟩ := hf1.cells
  have HE := hide (hf1.put [] true 0 s)
  have BE := hide (below_put hb1 (Nat.le_refl _) [] true 0 s)
  clear hw1 hb1 hf1
  go_enter Tryz.func104, Tryz.ntmps104
  go_upto_region 1 with fail
  rw [show w.alloc (.cells #[Value.string ⟨#[]⟩, .bool false, .int .i64 0, Value.string ⟨#[]⟩] 48) = w1 from (unhide HW).symm]
  go_wp2
  exact bodyPost_ret (results_cell_row rfl _ _ w.heap.size 48 (fv ⟨[], true, 0, s⟩) (0, 0) _ rfl (unhide HE) Tryz.underlying48 rfl sizeField) rfl ⟨rfl, unhide BE⟩

def intR (f : Fld) : Except Int Value := if f.text then .error 134 else .ok (.int .i64 f.n)
def txtR (f : Fld) : Except Int Value := if f.text then .ok (sv f.s) else .error 134

theorem integerOf_any (f : Fld) (w : World) : Calls Tryz.prog 110 #[.agg (fv f)] w (EndsV w (intR f)) := by
  obtain ⟨nm, t, n, s⟩ := f
  have HB := hide ((Below.refl w.heap.size w).alloc (Nat.le_refl _) (.cells (fv ⟨nm, t, n, s⟩) 48))
  cases t with
  | true =>
    go_enter Tryz.func110, Tryz.ntmps110
    go_wp2_with fail
    exact ⟨rfl, rfl, unhide HB⟩
  | false =>
    go_enter Tryz.func110, Tryz.ntmps110
    go_wp2_with fail
    go_ret
    exact ⟨rfl, unhide HB⟩

theorem textOf_any (f : Fld) (w : World) : Calls Tryz.prog 108 #[.agg (fv f)] w (EndsV w (txtR f)) := by
  obtain ⟨nm, t, n, s⟩ := f
  have HB := hide ((Below.refl w.heap.size w).alloc (Nat.le_refl _) (.cells (fv ⟨nm, t, n, s⟩) 48))
  cases t with
  | false =>
    go_enter Tryz.func108, Tryz.ntmps108
    go_wp2_with fail
    exact ⟨rfl, rfl, unhide HB⟩
  | true =>
    go_enter Tryz.func108, Tryz.ntmps108
    go_wp2_with fail
    go_ret
    exact ⟨rfl, unhide HB⟩

def joinR (a b : List UInt8) : Except Int Value := if 200 < a.length + b.length then .error 135 else .ok (.agg (fv ⟨[], true, 0, a ++ b⟩))
set_option maxHeartbeats 1000000 in
theorem join_any (a b : List UInt8) (w : World) (ha : a.length ≤ 281474976710656) (hb : b.length ≤ 281474976710656) : Calls Tryz.prog 107 #[sv a, sv b] w (EndsV w (joinR a b)) := by
  have hb1 : Below w.heap.size w (w.alloc (.cells (fv fld0) 48)) := (Below.refl _ _).alloc (Nat.le_refl _) _
  have hf1 := FBox.new w fld0
  obtain ⟨w1, hw1⟩ : ∃ w1, w1 = w.alloc (.cells (fv fld0) 48) := ⟨_, rfl⟩
  rw [← hw1] at hb1 hf1
  have HW := hide hw1
  have HB1 := hide hb1
  have HF1 := hide hf1
  have wr1 : IntKind.i64.wrap ((a.length : Int) + (b.length : Int)) = ((a.length + b.length : Nat) : Int) := by rw [IntKind.wrap_i64]; omega
  have hcat : (9223372036854775807 < a.length + b.length) = False := by rw [eq_iff_iff, iff_false]; omega
  clear hw1 hb1 hf1
  by_cases h : 200 < a.length + b.length
  · have HE : Hid (joinR a b = .error 135) := hide (by unfold joinR; rw [if_pos h])
    have d1 : (200 : Int) < ((a.length + b.length : Nat) : Int) := by omega
    rw [unhide HE]
    go_enter Tryz.func107, Tryz.ntmps107
    go_upto_region 1 with fail
    rw [show w.alloc (.cells #[Value.string ⟨#[]⟩, .bool false, .int .i64 0, Value.string ⟨#[]⟩] 48) = w1 from (unhide HW).symm]
    go_wp2_with fail
    exact ⟨rfl, rfl, unhide HB1⟩
  · have HE : Hid (joinR a b = .ok (.agg (fv ⟨[], true, 0, a ++ b⟩))) := hide (by unfold joinR; rw [if_neg h])
    have d1 : ¬ (200 : Int) < ((a.length + b.length : Nat) : Int) := by omega
    rw [unhide HE]
    have HT : Hid (∀ W, Calls Tryz.prog 104 #[.string ((⟨a.toArray⟩ : ByteArray) ++ ⟨b.toArray⟩)] W fun e w' => e = .returned (.agg (fv ⟨[], true, 0, a ++ b⟩)) ∧ Below W.heap.size W w') := hide (fun W => by rw [str_cat]; exact text_any (a ++ b) W)
    obtain ⟨ab, hab⟩ : ∃ ab, ab = a ++ b := ⟨_, rfl⟩
    rw [← hab] at HT ⊢
    clear hab
    go_enter Tryz.func107, Tryz.ntmps107
    go_upto_region 1 with fail
    rw [show w.alloc (.cells #[Value.string ⟨#[]⟩, .bool false, .int .i64 0, Value.string ⟨#[]⟩] 48) = w1 from (unhide HW).symm]
    go_wp2_with (go_at_call 104; refine (unhide HT _).mono ?_; rintro e w2 ⟨rfl, b2⟩; obtain ⟨c0, c1, c2, c3, cf⟩ := ((unhide HF1).below b2 (Nat.le_refl _)).cells; have HE2 := hide (((unhide HF1).below b2 (Nat.le_refl _)).put [] true 0 ab); have BE := hide (below_put ((unhide HB1).trans (b2.mono (unhide HB1).size)) (Nat.le_refl _) [] true 0 ab); clear b2)
    exact bodyPost_ret (results_cell_row rfl _ _ w.heap.size 48 (fv ⟨[], true, 0, ab⟩) (0, 0) _ rfl (unhide HE2) Tryz.underlying48 rfl sizeField) rfl ⟨rfl, unhide BE⟩

def valR (l : List Fld) (nm : List UInt8) : Except Int Value := if hasF l nm then .ok (.agg (fv ⟨[], (getA l nm).text, (getA l nm).n, (getA l nm).s⟩)) else .error 133
set_option maxHeartbeats 2000000 in
theorem valueOf_any (a : Option Addr) (n c : Nat) (l : List Fld) (nm : List UInt8) (w : World) (hv : FdL w (.slice a n c) l) : Calls Tryz.prog 105 #[.slice a n c, sv nm] w (EndsV w (valR l nm)) := by
  have hb1 : Below w.heap.size w (w.alloc (.cells (fv fld0) 48)) := (Below.refl _ _).alloc (Nat.le_refl _) _
  have hf1 := FBox.new w fld0
  have HG := hide (Get_any a n c l nm (w.alloc (.cells (fv fld0) 48)) (hv.below hb1 (Nat.le_refl _)))
  obtain ⟨w1, hw1⟩ : ∃ w1, w1 = w.alloc (.cells (fv fld0) 48) := ⟨_, rfl⟩
  rw [← hw1] at hb1 hf1 HG
  have HW := hide hw1
  have HB1 := hide hb1
  have HF1 := hide hf1
  unfold valR
  obtain ⟨H, hH⟩ : ∃ H, H = hasF l nm := ⟨_, rfl⟩
  obtain ⟨⟨gn, gt, gi, gs⟩, hG⟩ : ∃ G, G = getA l nm := ⟨_, rfl⟩
  rw [← hG, ← hH] at HG ⊢
  simp only
  clear hw1 hb1 hf1 hH hG hv
  cases H with
  | false =>
    go_enter Tryz.func105, Tryz.ntmps105
    go_upto_region 1 with fail
    rw [show w.alloc (.cells #[Value.string ⟨#[]⟩, .bool false, .int .i64 0, Value.string ⟨#[]⟩] 48) = w1 from (unhide HW).symm]
    go_wp2_with (go_at_call 78; refine (unhide HG).mono ?_; rintro e w2 ⟨rfl, b2⟩; have HB2 := hide (((unhide HB1).trans (b2.mono (unhide HB1).size)).alloc (Nat.le_trans (unhide HB1).size b2.size) (.cells (fv ⟨gn, gt, gi, gs⟩) 48)); clear b2)
    exact ⟨rfl, rfl, unhide HB2⟩
  | true =>
    go_enter Tryz.func105, Tryz.ntmps105
    go_upto_region 1 with fail
    rw [show w.alloc (.cells #[Value.string ⟨#[]⟩, .bool false, .int .i64 0, Value.string ⟨#[]⟩] 48) = w1 from (unhide HW).symm]
    go_upto_region 2 with (go_at_call 78; refine (unhide HG).mono ?_; rintro e w2 ⟨rfl, b2⟩; have HB2 := hide ((unhide HB1).trans (b2.mono (unhide HB1).size)); have HF2 := hide ((unhide HF1).below b2 (Nat.le_refl _)); clear b2)
    have hb4 := (unhide HB2).alloc (unhide HB2).size (.cells (fv ⟨gn, gt, gi, gs⟩) 48)
    have hf4 := (unhide HF2).below ((Below.refl _ _).alloc (Nat.le_refl _) (.cells (fv ⟨gn, gt, gi, gs⟩) 48)) (Nat.le_refl _)
    have hg4 := FBox.new w2 ⟨gn, gt, gi, gs⟩
    have hq : w.heap.size < w2.heap.size := (unhide HF2).lt
    obtain ⟨w4, hw4⟩ : ∃ w4, w4 = w2.alloc (.cells (fv ⟨gn, gt, gi, gs⟩) 48) := ⟨_, rfl⟩
    rw [← hw4] at hb4 hf4 hg4
    rw [show w2.alloc (.cells #[Value.string ⟨gn.toArray⟩, .bool gt, .int .i64 gi, Value.string ⟨gs.toArray⟩] 48) = w4 from hw4.symm]
    obtain ⟨q, hqe⟩ : ∃ q, q = w2.heap.size := ⟨_, rfl⟩
    rw [← hqe] at hg4 hq ⊢
    obtain ⟨g0, g1, g2, g3, gf⟩ := hg4.cells
    have hb6 := hb4.setCell (p := ⟨q, 0, none⟩) (Nat.le_of_lt hq) (sv [])
    have hf6 := hf4.set0 q (Nat.ne_of_gt hq) (sv [])
    have hg6 := hg4.put0 []
    have HB6 := hide hb6
    have HF6 := hide hf6
    have HG6 := hide hg6
    clear hb4 hf4 hg4 hb6 hf6 hg6 hw4 hqe HB2 HF2
    go_upto_region 5 with fail
    obtain ⟨w6, hw6⟩ : ∃ w6, w6 = w4.setCell ⟨q, 0, none⟩ (sv []) := ⟨_, rfl⟩
    rw [show w4.setCell ⟨q, 0, none⟩ (Value.string ⟨#[]⟩) = w6 from hw6.symm]
    rw [← hw6] at HB6 HF6 HG6
    clear g0 g1 g2 g3 gf hw6
    obtain ⟨d0, d1, d2, d3, df⟩ := (unhide HG6).cells
    obtain ⟨c0, c1, c2, c3, cf⟩ := (unhide HF6).cells
    simp only at d0 d1 d2 d3
    have HE := hide ((unhide HF6).put [] gt gi gs)
    have BE := hide (below_put (unhide HB6) (Nat.le_refl _) [] gt gi gs)
    go_wp2
    exact bodyPost_ret (results_cell_row rfl _ _ w.heap.size 48 (fv ⟨[], gt, gi, gs⟩) (0, 0) _ rfl (unhide HE) Tryz.underlying48 rfl sizeField) rfl ⟨rfl, unhide BE⟩
end Go.Proofs.YtingpmgpjmlioaaGreatDoor

namespace Go.Proofs.YtingpmgpjmlioaaGreatDoor
open Go.RowKit
set_option linter.unusedVariables false

/-- Within the bounds. -/
def inB (n : Int) : Bool := decide (-1000000000000000 ≤ n) && decide (n ≤ 1000000000000000)
theorem inB_iff {n : Int} : inB n = true ↔ -1000000000000000 ≤ n ∧ n ≤ 1000000000000000 := by unfold inB; simp
theorem inB_no {n : Int} (h : ¬ (-1000000000000000 ≤ n ∧ n ≤ 1000000000000000)) : inB n = false := by
  cases e : inB n with
  | false => rfl
  | true => exact absurd (inB_iff.1 e) h

theorem inBounds_any (n : Int) (w : World) : Calls Tryz.prog 99 #[.int .i64 n] w fun e w' => e = .returned (.bool (inB n)) ∧ w = w' := by
  unfold inB
  by_cases h1 : -1000000000000000 ≤ n
  · have d1 : decide (-1000000000000000 ≤ n) = true := decide_eq_true h1
    rw [d1, Bool.true_and]
    go_enter Tryz.func99, Tryz.ntmps99
    go_wp2_with fail
    go_ret
    exact ⟨rfl, rfl⟩
  · have d1 : decide (-1000000000000000 ≤ n) = false := decide_eq_false h1
    rw [d1, Bool.false_and]
    go_enter Tryz.func99, Tryz.ntmps99
    go_wp2_with fail
    go_ret
    exact ⟨rfl, rfl⟩

theorem wrap_near {z : Int} (h1 : -18446744073709551616 ≤ z) (h2 : z ≤ 18446744073709551615) : IntKind.i64.wrap z = if z < -9223372036854775808 then z + 18446744073709551616 else if 9223372036854775807 < z then z - 18446744073709551616 else z := by
  rw [IntKind.wrap_i64]
  split
  · omega
  · split <;> omega

theorem beq_dec {p q : Prop} [Decidable p] [Decidable q] (h : p ↔ q) : (decide p == decide q) = true := by
  by_cases hp : p
  · rw [decide_eq_true hp, decide_eq_true (h.1 hp)]; rfl
  · rw [decide_eq_false hp, decide_eq_false (fun hq => hp (h.2 hq))]; rfl
theorem bne_dec {p q : Prop} [Decidable p] [Decidable q] (h : p ↔ ¬ q) : (decide p == decide q) = false := by
  by_cases hp : p
  · rw [decide_eq_true hp, decide_eq_false (h.1 hp)]; rfl
  · have hq : q := by
      by_cases hq : q
      · exact hq
      · exact absurd (h.2 hq) hp
    rw [decide_eq_false hp, decide_eq_true hq]; rfl

set_option maxHeartbeats 2000000 in
theorem add_any (a b : Int) (w : World) (ha : I64 a) (hb : I64 b) : Calls Tryz.prog 98 #[.int .i64 a, .int .i64 b] w fun e w' => e = .returned (.tuple #[.int .i64 (IntKind.i64.wrap (a + b)), .bool (inB (a + b))]) ∧ w = w' := by
  obtain ⟨a1, a2⟩ := ha
  obtain ⟨b1, b2⟩ := hb
  obtain ⟨N, hN⟩ : ∃ N, N = IntKind.i64.wrap (a + b) := ⟨_, rfl⟩
  have hN2 := hN.trans (wrap_near (by omega) (by omega))
  have hw : IntKind.i64.wrap (a + b) = N := hN.symm
  rw [hw]
  by_cases hin : -9223372036854775808 ≤ a + b ∧ a + b ≤ 9223372036854775807
  · have hNe : N = a + b := by rw [hN2, if_neg (by omega), if_neg (by omega)]
    have hpq : (decide (N < a) == decide (b < 0)) = true := beq_dec (by omega)
    rw [← hNe]
    have HI : Hid (∀ W, Calls Tryz.prog 99 #[.int .i64 N] W fun e w' => e = .returned (.bool (inB N)) ∧ W = w') := hide (inBounds_any N)
    obtain ⟨k, hk⟩ : ∃ k, k = inB N := ⟨_, rfl⟩
    rw [← hk] at HI ⊢
    clear hN hN2 hNe hin hk a1 a2 b1 b2
    go_enter Tryz.func98, Tryz.ntmps98
    go_wp2_with (go_at_call 99; refine (unhide HI _).mono ?_; rintro e w' ⟨rfl, rfl⟩)
    go_ret2
    exact ⟨rfl, rfl⟩
  · have hNo : inB (a + b) = false := inB_no (by omega)
    have hpq : (decide (N < a) == decide (b < 0)) = false := bne_dec (by
      rw [hN2]
      split
      · omega
      · split <;> omega)
    rw [hNo]
    clear hN hN2 hNo hin a1 a2 b1 b2
    go_enter Tryz.func98, Tryz.ntmps98
    go_wp2_with fail
    go_ret2
    exact ⟨rfl, rfl⟩

set_option maxHeartbeats 2000000 in
theorem sub_any (a b : Int) (w : World) (ha : I64 a) (hb : I64 b) : Calls Tryz.prog 100 #[.int .i64 a, .int .i64 b] w fun e w' => e = .returned (.tuple #[.int .i64 (IntKind.i64.wrap (a - b)), .bool (inB (a - b))]) ∧ w = w' := by
  obtain ⟨a1, a2⟩ := ha
  obtain ⟨b1, b2⟩ := hb
  obtain ⟨N, hN⟩ : ∃ N, N = IntKind.i64.wrap (a - b) := ⟨_, rfl⟩
  have hN2 := hN.trans (wrap_near (by omega) (by omega))
  have hw : IntKind.i64.wrap (a - b) = N := hN.symm
  rw [hw]
  by_cases hin : -9223372036854775808 ≤ a - b ∧ a - b ≤ 9223372036854775807
  · have hNe : N = a - b := by rw [hN2, if_neg (by omega), if_neg (by omega)]
    have hpq : (decide (a < N) == decide (b < 0)) = true := beq_dec (by omega)
    rw [← hNe]
    have HI : Hid (∀ W, Calls Tryz.prog 99 #[.int .i64 N] W fun e w' => e = .returned (.bool (inB N)) ∧ W = w') := hide (inBounds_any N)
    obtain ⟨k, hk⟩ : ∃ k, k = inB N := ⟨_, rfl⟩
    rw [← hk] at HI ⊢
    clear hN hN2 hNe hin hk a1 a2 b1 b2
    go_enter Tryz.func100, Tryz.ntmps100
    go_wp2_with (go_at_call 99; refine (unhide HI _).mono ?_; rintro e w' ⟨rfl, rfl⟩)
    go_ret2
    exact ⟨rfl, rfl⟩
  · have hNo : inB (a - b) = false := inB_no (by omega)
    have hpq : (decide (a < N) == decide (b < 0)) = false := bne_dec (by
      rw [hN2]
      split
      · omega
      · split <;> omega)
    rw [hNo]
    clear hN hN2 hNo hin a1 a2 b1 b2
    go_enter Tryz.func100, Tryz.ntmps100
    go_wp2_with fail
    go_ret2
    exact ⟨rfl, rfl⟩

theorem mul_abs {a b : Int} : inB (a * b) = decide (a.natAbs * b.natAbs ≤ 1000000000000000) := by
  have e : (a * b).natAbs = a.natAbs * b.natAbs := Int.natAbs_mul a b
  cases h : inB (a * b) with
  | true =>
    have := inB_iff.1 h
    rw [eq_comm, decide_eq_true_eq, ← e]; omega
  | false =>
    rw [eq_comm, decide_eq_false_iff_not, ← e]
    intro h2
    rw [inB_iff.2 (by omega)] at h; cases h
theorem max_abs (a : Int) : max a (-a) = (a.natAbs : Int) := by omega

def mulV (a b : Int) : Int := if inB (a * b) then a * b else 0
set_option maxHeartbeats 4000000 in
theorem times_any (a b : Int) (w : World) : Calls Tryz.prog 101 #[.int .i64 a, .int .i64 b] w fun e w' => e = .returned (.tuple #[.int .i64 (mulV a b), .bool (inB (a * b))]) ∧ w = w' := by
  by_cases ha0 : a = 0
  · subst ha0
    rw [show mulV 0 b = 0 by unfold mulV; rw [Int.zero_mul]; rfl, show inB (0 * b) = true by rw [Int.zero_mul]; rfl]
    go_enter Tryz.func101, Tryz.ntmps101
    go_wp2_with fail
    go_ret2
    exact ⟨rfl, rfl⟩
  · have a0 : (a == 0) = false := beq_eq_false_iff_ne.2 ha0
    by_cases hb0 : b = 0
    · subst hb0
      rw [show mulV a 0 = 0 by unfold mulV; rw [Int.mul_zero]; rfl, show inB (a * 0) = true by rw [Int.mul_zero]; rfl]
      clear ha0
      go_enter Tryz.func101, Tryz.ntmps101
      go_wp2_with fail
      go_ret2
      exact ⟨rfl, rfl⟩
    · have b0 : (b == 0) = false := beq_eq_false_iff_ne.2 hb0
      have hpa : 1 ≤ a.natAbs := by omega
      have hpb : 1 ≤ b.natAbs := by omega
      have HIa : Hid (∀ W, Calls Tryz.prog 99 #[.int .i64 a] W fun e w' => e = .returned (.bool (inB a)) ∧ W = w') := hide (inBounds_any a)
      have HIb : Hid (∀ W, Calls Tryz.prog 99 #[.int .i64 b] W fun e w' => e = .returned (.bool (inB b)) ∧ W = w') := hide (inBounds_any b)
      cases hia : inB a with
      | false =>
        have hno : inB (a * b) = false := by
          rw [mul_abs, decide_eq_false_iff_not]
          intro h
          have : a.natAbs ≤ a.natAbs * b.natAbs := Nat.le_mul_of_pos_right _ hpb
          rw [inB_iff.2 (by omega)] at hia; cases hia
        rw [show mulV a b = 0 by unfold mulV; rw [hno]; rfl, hno]
        rw [hia] at HIa
        clear ha0 hb0 hia hno hpa hpb HIb
        go_enter Tryz.func101, Tryz.ntmps101
        go_wp2_with (go_at_call 99; refine (unhide HIa _).mono ?_; rintro e w' ⟨rfl, rfl⟩)
        go_ret2
        exact ⟨rfl, rfl⟩
      | true =>
        rw [hia] at HIa
        cases hib : inB b with
        | false =>
          have hno : inB (a * b) = false := by
            rw [mul_abs, decide_eq_false_iff_not]
            intro h
            have : b.natAbs ≤ a.natAbs * b.natAbs := Nat.le_mul_of_pos_left _ hpa
            rw [inB_iff.2 (by omega)] at hib; cases hib
          rw [show mulV a b = 0 by unfold mulV; rw [hno]; rfl, hno]
          rw [hib] at HIb
          clear ha0 hb0 hia hib hno hpa hpb
          go_enter Tryz.func101, Tryz.ntmps101
          go_wp2_with (go_at_call 99; first | ((with_reducible refine (unhide HIa _).mono ?_); rintro e w' ⟨rfl, rfl⟩) | ((with_reducible refine (unhide HIb _).mono ?_); rintro e w' ⟨rfl, rfl⟩))
          go_ret2
          exact ⟨rfl, rfl⟩
        | true =>
          rw [hib] at HIb
          have ia := inB_iff.1 hia
          have ib := inB_iff.1 hib
          obtain ⟨A, hA⟩ : ∃ A, A = a.natAbs := ⟨_, rfl⟩
          obtain ⟨B, hB⟩ : ∃ B, B = b.natAbs := ⟨_, rfl⟩
          have na : IntKind.i64.wrap (-a) = -a := by rw [IntKind.wrap_i64]; omega
          have nb : IntKind.i64.wrap (-b) = -b := by rw [IntKind.wrap_i64]; omega
          have ma : max a (-a) = (A : Int) := by rw [hA]; exact max_abs a
          have mb : max b (-b) = (B : Int) := by rw [hB]; exact max_abs b
          obtain ⟨Q, hQ⟩ : ∃ Q, Q = 1000000000000000 / B := ⟨_, rfl⟩
          have hBp : 0 < B := by omega
          have dv : (1000000000000000 : Int).tdiv (B : Int) = (Q : Int) := by rw [hQ, Int.tdiv_eq_ediv_of_nonneg (by omega)]; rfl
          have hQl : Q ≤ 1000000000000000 := by rw [hQ]; exact Nat.div_le_self _ _
          have wq : IntKind.i64.wrap (Q : Int) = (Q : Int) := by rw [IntKind.wrap_i64]; omega
          have nz : ((B : Int) == 0) = false := by rw [beq_eq_false_iff_ne]; omega
          have hle : A ≤ Q ↔ A * B ≤ 1000000000000000 := by rw [hQ]; exact Nat.le_div_iff_mul_le hBp
          by_cases hAQ : A ≤ Q
          · have hyes : inB (a * b) = true := by rw [mul_abs, decide_eq_true_eq, ← hA, ← hB]; exact hle.1 hAQ
            have d1 : decide ((Q : Int) < (A : Int)) = false := decide_eq_false (by omega)
            have d1' : decide (Q < A) = false := decide_eq_false (by omega)
            have hz := inB_iff.1 hyes
            obtain ⟨z, hz1⟩ : ∃ z, z = a * b := ⟨_, rfl⟩
            have wz : IntKind.i64.wrap (a * b) = z := by rw [IntKind.wrap_i64, ← hz1]; omega
            rw [show mulV a b = z by unfold mulV; rw [hyes, hz1]; rfl, hyes]
            clear ha0 hb0 hia hib hyes hpa hpb hA hB hQ hle hAQ hz hz1 ia ib hQl
            go_enter Tryz.func101, Tryz.ntmps101
            go_wp2_with (go_at_call 99; first | ((with_reducible refine (unhide HIa _).mono ?_); rintro e w' ⟨rfl, rfl⟩) | ((with_reducible refine (unhide HIb _).mono ?_); rintro e w' ⟨rfl, rfl⟩))
            go_ret2
            exact ⟨rfl, rfl⟩
          · have hno : inB (a * b) = false := by rw [mul_abs, decide_eq_false_iff_not, ← hA, ← hB]; exact fun h => hAQ (hle.2 h)
            have d1 : decide ((Q : Int) < (A : Int)) = true := decide_eq_true (by omega)
            have d1' : decide (Q < A) = true := decide_eq_true (by omega)
            rw [show mulV a b = 0 by unfold mulV; rw [hno]; rfl, hno]
            clear ha0 hb0 hia hib hno hpa hpb hA hB hQ hle hAQ ia ib hQl
            go_enter Tryz.func101, Tryz.ntmps101
            go_wp2_with (go_at_call 99; first | ((with_reducible refine (unhide HIa _).mono ?_); rintro e w' ⟨rfl, rfl⟩) | ((with_reducible refine (unhide HIb _).mono ?_); rintro e w' ⟨rfl, rfl⟩))
            go_ret2
            exact ⟨rfl, rfl⟩
end Go.Proofs.YtingpmgpjmlioaaGreatDoor
