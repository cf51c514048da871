/-
  DERIVED. The document's numbers: args, size, sum, difference, product.
-/
import Derived.Test.YtclllkbljaomoaaGreatDoorRuO
namespace Go.Proofs.YtclllkbljaomoaaGreatDoor
open Go.RowKit
set_option linter.unusedVariables false

set_option maxHeartbeats 4000000 in
theorem rargs_any (k : Int) (w : World) : Calls Tryz.prog 88 #[.int .i64 k] w fun e w' => e = .returned (.int .i64 (argsN k)) ∧ w = w' := by
  by_cases hin : 1 ≤ k ∧ k ≤ 11
  · have hk : k = 1 ∨ k = 2 ∨ k = 3 ∨ k = 4 ∨ k = 5 ∨ k = 6 ∨ k = 7 ∨ k = 8 ∨ k = 9 ∨ k = 10 ∨ k = 11 := by omega
    clear hin
    rcases hk with rfl | rfl | rfl | rfl | rfl | rfl | rfl | rfl | rfl | rfl | rfl
    all_goals
      go_enter Tryz.func88, Tryz.ntmps88
      go_wp2_with fail
      go_ret
      exact ⟨rfl, rfl⟩
  · have hne : ∀ z : Int, 1 ≤ z → z ≤ 11 → (k == z) = false := fun z h1 h2 => by
      rw [beq_eq_false_iff_ne]; intro e; subst e; exact hin ⟨h1, h2⟩
    have e1 := hne 1 (by omega) (by omega)
    have e2 := hne 2 (by omega) (by omega)
    have e3 := hne 3 (by omega) (by omega)
    have e4 := hne 4 (by omega) (by omega)
    have e5 := hne 5 (by omega) (by omega)
    have e6 := hne 6 (by omega) (by omega)
    have e7 := hne 7 (by omega) (by omega)
    have e8 := hne 8 (by omega) (by omega)
    have e9 := hne 9 (by omega) (by omega)
    have e10 := hne 10 (by omega) (by omega)
    have e11 := hne 11 (by omega) (by omega)
    have ha : argsN k = -1 := by
      unfold argsN
      rw [if_neg (by omega), if_neg (by omega), if_neg (by omega)]
    rw [ha]
    clear hin hne ha
    go_enter Tryz.func88, Tryz.ntmps88
    go_wp2_with fail
    go_ret
    exact ⟨rfl, rfl⟩

theorem half (a : Int) : (0 ≤ a → a - 1 ≤ 2 * a.tdiv 2 ∧ 2 * a.tdiv 2 ≤ a) ∧ (a < 0 → a ≤ 2 * a.tdiv 2 ∧ 2 * a.tdiv 2 ≤ a + 1) := by
  constructor
  · intro h
    rw [Int.tdiv_eq_ediv_of_nonneg h]
    omega
  · intro h
    have e := Int.neg_tdiv (-a) 2
    rw [Int.neg_neg] at e
    rw [e, Int.tdiv_eq_ediv_of_nonneg (by omega)]
    omega
/-- What two numbers come to, and whether that is in range. -/
def NumPost (w : World) (n : Int) (e : Ending) (w' : World) : Prop := ∃ z, e = .returned (.tuple #[.int .i64 z, .bool (inB n)]) ∧ (inB n = true → z = n) ∧ w = w'

set_option maxHeartbeats 2000000 in
theorem rsum_any (a b : Int) (ha : I64 a) (hb : I64 b) (w : World) : Calls Tryz.prog 130 #[.int .i64 a, .int .i64 b] w (NumPost w (a + b)) := by
  obtain ⟨a1, a2⟩ := ha
  obtain ⟨b1, b2⟩ := hb
  obtain ⟨ha1, ha2⟩ := half a
  obtain ⟨hb1, hb2⟩ := half b
  obtain ⟨p, hp⟩ : ∃ p, p = a.tdiv 2 := ⟨_, rfl⟩
  obtain ⟨q, hq⟩ : ∃ q, q = b.tdiv 2 := ⟨_, rfl⟩
  rw [← hp] at ha1 ha2
  rw [← hq] at hb1 hb2
  have dp := hp.symm
  have dq := hq.symm
  have wp : IntKind.i64.wrap p = p := by rw [IntKind.wrap_i64]; omega
  have wq : IntKind.i64.wrap q = q := by rw [IntKind.wrap_i64]; omega
  have ws : IntKind.i64.wrap (p + q) = p + q := by rw [IntKind.wrap_i64]; omega
  obtain ⟨s, hs⟩ : ∃ s, s = p + q := ⟨_, rfl⟩
  rw [← hs] at ws
  have hs' := hs.symm
  clear hp hq hs
  by_cases h1 : 1000000000000000 < s
  · have hno : inB (a + b) = false := inB_no (by omega)
    clear ha1 ha2 hb1 hb2 a1 a2 b1 b2
    go_enter Tryz.func130, Tryz.ntmps130
    go_wp2_with fail
    go_ret2
    exact ⟨0, by rw [hno]; rfl, fun h => (by rw [hno] at h; cases h), rfl⟩
  · by_cases h2 : s < -1000000000000000
    · have hno : inB (a + b) = false := inB_no (by omega)
      have h1' : decide (1000000000000000 < s) = false := by simp; omega
      clear ha1 ha2 hb1 hb2 a1 a2 b1 b2
      go_enter Tryz.func130, Tryz.ntmps130
      go_wp2_with fail
      go_ret2
      exact ⟨0, by rw [hno]; rfl, fun h => (by rw [hno] at h; cases h), rfl⟩
    · have h1' : decide (1000000000000000 < s) = false := by simp; omega
      have h2' : decide (s < -1000000000000000) = false := by simp; omega
      have wn : IntKind.i64.wrap (a + b) = a + b := by rw [IntKind.wrap_i64]; omega
      obtain ⟨t, ht⟩ : ∃ t, t = a + b := ⟨_, rfl⟩
      rw [← ht] at wn ⊢
      have ht' := ht.symm
      have HIn : Hid (inB t = (decide (t ≤ 1000000000000000) && decide (-1000000000000000 ≤ t))) := hide (by unfold inB; rw [Bool.and_comm])
      clear ha1 ha2 hb1 hb2 a1 a2 b1 b2 ht h1 h2
      by_cases h3 : t ≤ 1000000000000000
      · by_cases h4 : -1000000000000000 ≤ t
        · have HX := hide (show inB t = true by rw [unhide HIn]; simp [h3, h4])
          go_enter Tryz.func130, Tryz.ntmps130
          go_wp2_with fail
          go_ret2
          exact ⟨t, by rw [unhide HX]; rfl, fun _ => rfl, rfl⟩
        · have h4' : decide (-1000000000000000 ≤ t) = false := by simp; omega
          have HX := hide (show inB t = false by rw [unhide HIn, h4']; simp)
          clear h4
          go_enter Tryz.func130, Tryz.ntmps130
          go_wp2_with fail
          go_ret2
          exact ⟨t, by rw [unhide HX]; rfl, fun _ => rfl, rfl⟩
      · have h3' : decide (t ≤ 1000000000000000) = false := by simp; omega
        have HX := hide (show inB t = false by rw [unhide HIn, h3']; rfl)
        clear h3
        go_enter Tryz.func130, Tryz.ntmps130
        go_wp2_with fail
        go_ret2
        exact ⟨t, by rw [unhide HX]; rfl, fun _ => rfl, rfl⟩
set_option maxHeartbeats 2000000 in
theorem rdifference_any (a b : Int) (ha : I64 a) (hb : I64 b) (w : World) : Calls Tryz.prog 131 #[.int .i64 a, .int .i64 b] w (NumPost w (a - b)) := by
  obtain ⟨a1, a2⟩ := ha
  obtain ⟨b1, b2⟩ := hb
  obtain ⟨ha1, ha2⟩ := half a
  obtain ⟨hb1, hb2⟩ := half b
  obtain ⟨p, hp⟩ : ∃ p, p = a.tdiv 2 := ⟨_, rfl⟩
  obtain ⟨q, hq⟩ : ∃ q, q = b.tdiv 2 := ⟨_, rfl⟩
  rw [← hp] at ha1 ha2
  rw [← hq] at hb1 hb2
  have dp := hp.symm
  have dq := hq.symm
  have wp : IntKind.i64.wrap p = p := by rw [IntKind.wrap_i64]; omega
  have wq : IntKind.i64.wrap q = q := by rw [IntKind.wrap_i64]; omega
  have ws : IntKind.i64.wrap (p - q) = p - q := by rw [IntKind.wrap_i64]; omega
  obtain ⟨s, hs⟩ : ∃ s, s = p - q := ⟨_, rfl⟩
  rw [← hs] at ws
  have hs' := hs.symm
  clear hp hq hs
  by_cases h1 : 1000000000000000 < s
  · have hno : inB (a - b) = false := inB_no (by omega)
    clear ha1 ha2 hb1 hb2 a1 a2 b1 b2
    go_enter Tryz.func131, Tryz.ntmps131
    go_wp2_with fail
    go_ret2
    exact ⟨0, by rw [hno]; rfl, fun h => (by rw [hno] at h; cases h), rfl⟩
  · by_cases h2 : s < -1000000000000000
    · have hno : inB (a - b) = false := inB_no (by omega)
      have h1' : decide (1000000000000000 < s) = false := by simp; omega
      clear ha1 ha2 hb1 hb2 a1 a2 b1 b2
      go_enter Tryz.func131, Tryz.ntmps131
      go_wp2_with fail
      go_ret2
      exact ⟨0, by rw [hno]; rfl, fun h => (by rw [hno] at h; cases h), rfl⟩
    · have h1' : decide (1000000000000000 < s) = false := by simp; omega
      have h2' : decide (s < -1000000000000000) = false := by simp; omega
      have wn : IntKind.i64.wrap (a - b) = a - b := by rw [IntKind.wrap_i64]; omega
      obtain ⟨t, ht⟩ : ∃ t, t = a - b := ⟨_, rfl⟩
      rw [← ht] at wn ⊢
      have ht' := ht.symm
      have HIn : Hid (inB t = (decide (t ≤ 1000000000000000) && decide (-1000000000000000 ≤ t))) := hide (by unfold inB; rw [Bool.and_comm])
      clear ha1 ha2 hb1 hb2 a1 a2 b1 b2 ht h1 h2
      by_cases h3 : t ≤ 1000000000000000
      · by_cases h4 : -1000000000000000 ≤ t
        · have HX := hide (show inB t = true by rw [unhide HIn]; simp [h3, h4])
          go_enter Tryz.func131, Tryz.ntmps131
          go_wp2_with fail
          go_ret2
          exact ⟨t, by rw [unhide HX]; rfl, fun _ => rfl, rfl⟩
        · have h4' : decide (-1000000000000000 ≤ t) = false := by simp; omega
          have HX := hide (show inB t = false by rw [unhide HIn, h4']; simp)
          clear h4
          go_enter Tryz.func131, Tryz.ntmps131
          go_wp2_with fail
          go_ret2
          exact ⟨t, by rw [unhide HX]; rfl, fun _ => rfl, rfl⟩
      · have h3' : decide (t ≤ 1000000000000000) = false := by simp; omega
        have HX := hide (show inB t = false by rw [unhide HIn, h3']; rfl)
        clear h3
        go_enter Tryz.func131, Tryz.ntmps131
        go_wp2_with fail
        go_ret2
        exact ⟨t, by rw [unhide HX]; rfl, fun _ => rfl, rfl⟩
end Go.Proofs.YtclllkbljaomoaaGreatDoor

namespace Go.Proofs.YtclllkbljaomoaaGreatDoor
open Go.RowKit
set_option linter.unusedVariables false

theorem rsize_any (n : Int) (hn : I64 n) (w : World) : Calls Tryz.prog 139 #[.int .i64 n] w fun e w' => e = .returned (.int .u64 (n.natAbs : Int)) ∧ w = w' := by
  obtain ⟨h1, h2⟩ := hn
  by_cases h : n < 0
  · have w1 : IntKind.i64.wrap (n + 1) = n + 1 := by rw [IntKind.wrap_i64]; omega
    have w2 : IntKind.i64.wrap (-(n + 1)) = -(n + 1) := by rw [IntKind.wrap_i64]; omega
    have w3 : IntKind.u64.wrap (-(n + 1)) = -(n + 1) := by rw [IntKind.wrap_u64]; omega
    have w4 : IntKind.u64.wrap (-(n + 1) + 1) = (n.natAbs : Int) := by rw [IntKind.wrap_u64]; omega
    go_enter Tryz.func139, Tryz.ntmps139
    go_wp2_with fail
    go_ret
    exact ⟨rfl, rfl⟩
  · have h' : decide (n < 0) = false := by simp; omega
    have w3 : IntKind.u64.wrap n = (n.natAbs : Int) := by rw [IntKind.wrap_u64]; omega
    go_enter Tryz.func139, Tryz.ntmps139
    go_wp2_with fail
    go_ret
    exact ⟨rfl, rfl⟩

set_option maxHeartbeats 4000000 in
theorem rproduct_any (a b : Int) (ha : I64 a) (hb : I64 b) (w : World) : Calls Tryz.prog 132 #[.int .i64 a, .int .i64 b] w (NumPost w (a * b)) := by
  have HSa : Hid (∀ W, Calls Tryz.prog 139 #[.int .i64 a] W fun e w' => e = .returned (.int .u64 (a.natAbs : Int)) ∧ W = w') := hide (fun W => rsize_any a ha W)
  have HSb : Hid (∀ W, Calls Tryz.prog 139 #[.int .i64 b] W fun e w' => e = .returned (.int .u64 (b.natAbs : Int)) ∧ W = w') := hide (fun W => rsize_any b hb W)
  obtain ⟨a1, a2⟩ := ha
  obtain ⟨b1, b2⟩ := hb
  by_cases ha0 : a = 0
  · subst ha0
    have HX := hide (show inB (0 * b) = true by rw [Int.zero_mul]; rfl)
    have HZ := hide (Int.zero_mul b)
    go_enter Tryz.func132, Tryz.ntmps132
    go_wp2_with fail
    go_ret2
    exact ⟨0, by rw [unhide HX]; rfl, fun _ => (unhide HZ).symm, rfl⟩
  · have a0 : (a == 0) = false := beq_eq_false_iff_ne.2 ha0
    by_cases hb0 : b = 0
    · subst hb0
      have HX := hide (show inB (a * 0) = true by rw [Int.mul_zero]; rfl)
      have HZ := hide (Int.mul_zero a)
      clear ha0
      go_enter Tryz.func132, Tryz.ntmps132
      go_wp2_with fail
      go_ret2
      exact ⟨0, by rw [unhide HX]; rfl, fun _ => (unhide HZ).symm, rfl⟩
    · have b0 : (b == 0) = false := beq_eq_false_iff_ne.2 hb0
      have hpa : 1 ≤ a.natAbs := by omega
      have hpb : 1 ≤ b.natAbs := by omega
      obtain ⟨A, hA⟩ : ∃ A, A = a.natAbs := ⟨_, rfl⟩
      obtain ⟨B, hB⟩ : ∃ B, B = b.natAbs := ⟨_, rfl⟩
      have HAb := hide (mul_abs (a := a) (b := b))
      rw [← hA, ← hB] at HAb
      rw [← hA] at HSa hpa
      rw [← hB] at HSb hpb
      have HAw : Hid ((a * b).natAbs = A * B) := hide (by rw [hA, hB, Int.natAbs_mul])
      have hA63 : A ≤ 9223372036854775808 := by omega
      have hB63 : B ≤ 9223372036854775808 := by omega
      clear ha0 hb0 hA hB a1 a2 b1 b2
      cases h1 : decide ((1000000000000000 : Int) < (A : Int)) with
      | true =>
        have HX := hide (show inB (a * b) = false by
          rw [unhide HAb, decide_eq_false_iff_not]
          intro h
          have h3 : A ≤ A * B := Nat.le_mul_of_pos_right _ hpb
          have h4 := of_decide_eq_true h1
          omega)
        go_enter Tryz.func132, Tryz.ntmps132
        go_wp2_with (go_at_call 139; refine (unhide HSa _).mono ?_; rintro e w' ⟨rfl, rfl⟩)
        go_ret2
        exact ⟨0, by rw [unhide HX]; rfl, fun h => (by rw [unhide HX] at h; cases h), rfl⟩
      | false =>
        cases h2 : decide ((1000000000000000 : Int) < (B : Int)) with
        | true =>
          have HX := hide (show inB (a * b) = false by
            rw [unhide HAb, decide_eq_false_iff_not]
            intro h
            have h3 : B ≤ A * B := Nat.le_mul_of_pos_left _ hpa
            have h4 := of_decide_eq_true h2
            omega)
          go_enter Tryz.func132, Tryz.ntmps132
          go_wp2_with (go_at_call 139; first | ((with_reducible refine (unhide HSa _).mono ?_); rintro e w' ⟨rfl, rfl⟩) | ((with_reducible refine (unhide HSb _).mono ?_); rintro e w' ⟨rfl, rfl⟩))
          go_ret2
          exact ⟨0, by rw [unhide HX]; rfl, fun h => (by rw [unhide HX] at h; cases h), rfl⟩
        | false =>
          have h1n := of_decide_eq_false h1
          have h2n := of_decide_eq_false h2
          obtain ⟨Q, hQ⟩ : ∃ Q, Q = 1000000000000000 / B := ⟨_, rfl⟩
          have dv : (1000000000000000 : Int).tdiv (B : Int) = (Q : Int) := by rw [hQ, Int.tdiv_eq_ediv_of_nonneg (by omega)]; rfl
          have hQ1 : Q ≤ 1000000000000000 := by rw [hQ]; exact Nat.div_le_self _ _
          have wq : IntKind.u64.wrap (Q : Int) = (Q : Int) := by rw [IntKind.wrap_u64]; omega
          have HB0 : Hid ((B : Int) ≠ 0) := hide (by omega)
          have hB0 : ((B : Int) == 0) = false := by simp; omega
          have hB1 : ¬ ((B : Int) = 0) := by omega
          have HLe : Hid (A * B ≤ 1000000000000000 ↔ A ≤ Q) := hide (by rw [hQ, Nat.le_div_iff_mul_le (by omega)])
          clear hQ
          cases h3 : decide ((Q : Int) < (A : Int)) with
          | true =>
            have HX := hide (show inB (a * b) = false by
              rw [unhide HAb, decide_eq_false_iff_not, unhide HLe]
              have := of_decide_eq_true h3
              omega)
            have h3n : decide (Q < A) = true := by have := of_decide_eq_true h3; simp; omega
            have h3p : Q < A := of_decide_eq_true h3n
            clear h1n h2n
            go_enter Tryz.func132, Tryz.ntmps132
            go_wp2_with (go_at_call 139; first | ((with_reducible refine (unhide HSa _).mono ?_); rintro e w' ⟨rfl, rfl⟩) | ((with_reducible refine (unhide HSb _).mono ?_); rintro e w' ⟨rfl, rfl⟩))
            go_ret2
            exact ⟨0, by rw [unhide HX]; rfl, fun h => (by rw [unhide HX] at h; cases h), rfl⟩
          | false =>
            have HX := hide (show inB (a * b) = true by
              rw [unhide HAb, decide_eq_true_eq, unhide HLe]
              have := of_decide_eq_false h3
              omega)
            have hin := inB_iff.1 (unhide HX)
            have wm : IntKind.i64.wrap (a * b) = a * b := by rw [IntKind.wrap_i64]; omega
            obtain ⟨Z, hZ⟩ : ∃ Z, Z = a * b := ⟨_, rfl⟩
            rw [← hZ] at wm HX ⊢
            have hZ' := hZ.symm
            have h3n : decide (Q < A) = false := by have := of_decide_eq_false h3; simp; omega
            clear h1n h2n hin hZ
            go_enter Tryz.func132, Tryz.ntmps132
            go_wp2_with (go_at_call 139; first | ((with_reducible refine (unhide HSa _).mono ?_); rintro e w' ⟨rfl, rfl⟩) | ((with_reducible refine (unhide HSb _).mono ?_); rintro e w' ⟨rfl, rfl⟩))
            go_ret2
            exact ⟨Z, by rw [unhide HX]; rfl, fun _ => rfl, rfl⟩
end Go.Proofs.YtclllkbljaomoaaGreatDoor

namespace Go.Proofs.YtclllkbljaomoaaGreatDoor
open Go.RowKit
set_option linter.unusedVariables false

theorem rtext_any (s : List UInt8) (w : World) : Calls Tryz.prog 93 #[sv s] w fun e w' => e = .returned (.agg (fv ⟨[], true, 0, s⟩)) ∧ Below w.heap.size w w' := by
  have hb1 : Below w.heap.size w (w.alloc (.cells (fv fld0) 37)) := (Below.refl _ _).alloc (Nat.le_refl _) _
  have hf1 := FBox.new w fld0
  obtain ⟨w1, hw1⟩ : ∃ w1, w1 = w.alloc (.cells (fv fld0) 37) := ⟨_, rfl⟩
  rw [← hw1] at hb1 hf1
  have HW := hide hw1
  obtain ⟨c0, c1, c2, c3, cf⟩ := hf1.cells
  have HE := hide (hf1.put [] true 0 s)
  have BE := hide (below_put hb1 (Nat.le_refl _) [] true 0 s)
  clear hw1 hb1 hf1
  go_enter Tryz.func93, Tryz.ntmps93
  go_upto_region 1 with fail
  rw [show w.alloc (.cells #[Value.string ⟨#[]⟩, .bool false, .int .i64 0, Value.string ⟨#[]⟩] 37) = w1 from (unhide HW).symm]
  go_wp2
  exact bodyPost_ret (results_cell_row rfl _ _ w.heap.size 37 (fv ⟨[], true, 0, s⟩) (0, 0) _ rfl (unhide HE) Tryz.underlying37 rfl sizeField) rfl ⟨rfl, unhide BE⟩

/-- What two values come to, by the document. -/
def twoP (k : Int) (f g : Fld) : Except Int Fld :=
  if k = 9 then (if f.text && g.text then (if 200 < f.s.length + g.s.length then .error 135 else .ok ⟨[], true, 0, f.s ++ g.s⟩) else .error 134)
  else if f.text || g.text then .error 134 else (if inB (opZ k f.n g.n) then .ok ⟨[], false, opZ k f.n g.n, []⟩ else .error 135)

set_option maxRecDepth 20000 in
set_option maxHeartbeats 8000000 in
theorem rtwo_any (k : Int) (hk : 6 ≤ k ∧ k ≤ 9) (f g : Fld) (hf : small f) (hg : small g) (w : World) :
    Calls Tryz.prog 95 #[.int .i64 k, .agg (fv f), .agg (fv g)] w fun e w' => CaughtF (twoP k f g) e ∧ Below w.heap.size w w' := by
  have hb3 : Below w.heap.size w (((w.alloc (.cells (fv f) 37)).alloc (.cells (fv g) 37)).alloc (.cells (fv fld0) 37)) := (((Below.refl _ w).alloc (Nat.le_refl _) _).alloc (by simp) _).alloc (by simp; omega) _
  have hf3 : FBox (((w.alloc (.cells (fv f) 37)).alloc (.cells (fv g) 37)).alloc (.cells (fv fld0) 37)) w.heap.size f := ((FBox.new w f).below ((Below.refl _ _).alloc (Nat.le_refl _) _) (Nat.le_refl _)).below ((Below.refl _ _).alloc (Nat.le_refl _) _) (Nat.le_refl _)
  have hg3 : FBox (((w.alloc (.cells (fv f) 37)).alloc (.cells (fv g) 37)).alloc (.cells (fv fld0) 37)) (w.heap.size + 1) g := by
    have := (FBox.new (w.alloc (.cells (fv f) 37)) g).below ((Below.refl _ _).alloc (Nat.le_refl _) (.cells (fv fld0) 37)) (Nat.le_refl _)
    rwa [World.size_alloc] at this
  have hr3 : FBox (((w.alloc (.cells (fv f) 37)).alloc (.cells (fv g) 37)).alloc (.cells (fv fld0) 37)) (w.heap.size + 2) fld0 := by
    have := FBox.new ((w.alloc (.cells (fv f) 37)).alloc (.cells (fv g) 37)) fld0
    rwa [World.size_alloc, World.size_alloc] at this
  obtain ⟨w3, hw3⟩ : ∃ w3, w3 = ((w.alloc (.cells (fv f) 37)).alloc (.cells (fv g) 37)).alloc (.cells (fv fld0) 37) := ⟨_, rfl⟩
  rw [← hw3] at hb3 hf3 hg3 hr3
  have HW := hide hw3
  have HB := hide hb3
  have HR3 := hide hr3
  obtain ⟨f0, f1, f2, f3, -⟩ := hf3.cells
  obtain ⟨g0, g1, g2, g3, -⟩ := hg3.cells
  obtain ⟨r0, r1, r2, r3, rf⟩ := hr3.cells
  obtain ⟨fn, ft, fi, fz⟩ := f
  obtain ⟨gn, gt, gi, gz⟩ := g
  obtain ⟨hfz, hfi⟩ := hf
  obtain ⟨hgz, hgi⟩ := hg
  simp only at f0 f1 f2 f3 g0 g1 g2 g3 hfz hfi hgz hgi
  obtain ⟨B, hB⟩ : ∃ B, B = w.heap.size := ⟨_, rfl⟩
  have HBe := hide hB
  have hB2 : w.heap.size ≤ B + 2 := by omega
  rw [← hB] at f0 f1 f2 f3 g0 g1 g2 g3 r0 r1 r2 r3 HR3
  have rf' : ∀ i, w3.frozen? ⟨B + 2, i, none⟩ = false := by rw [hB]; exact rf
  have HEr : Hid (∀ W x t n s, Below w3.heap.size w3 W → FBox (put4 W (B + 2) (sv x) (.bool t) (.int .i64 n) (sv s)) (B + 2) ⟨x, t, n, s⟩ ∧ Below w.heap.size w (put4 W (B + 2) (sv x) (.bool t) (.int .i64 n) (sv s))) := hide (fun W x t n s hW =>
    ⟨((unhide HR3).below hW (Nat.le_refl _)).put x t n s, below_put ((unhide HB).trans (hW.mono (unhide HB).size)) hB2 x t n s⟩)
  have HRs : Hid (∀ W, Below w3.heap.size w3 W → (W.cell? ⟨B + 2, 0, none⟩ = some (sv []) ∧ W.cell? ⟨B + 2, 1, none⟩ = some (.bool false) ∧ W.cell? ⟨B + 2, 2, none⟩ = some (.int .i64 0) ∧ W.cell? ⟨B + 2, 3, none⟩ = some (sv [])) ∧ ∀ i, W.frozen? ⟨B + 2, i, none⟩ = false) := hide (fun W hW => by
    obtain ⟨a0, a1, a2, a3, af⟩ := ((unhide HR3).below hW (Nat.le_refl _)).cells
    exact ⟨⟨a0, a1, a2, a3⟩, af⟩)
  clear hw3 hb3 hf3 hg3 hr3 hB rf
  have hE0 := hide (unhide HEr w3 [] false 0 [] (Below.refl _ _))
  by_cases h9 : k = 9
  · subst h9
    cases ft with
    | false =>
      have HX : Hid (∀ gt, twoP 9 ⟨fn, false, fi, fz⟩ ⟨gn, gt, gi, gz⟩ = .error 134) := hide (fun gt => by simp [twoP])
      rw [unhide HX gt]
      go_enter Tryz.func95, Tryz.ntmps95
      go_upto_region 1 with fail
      rw [show ((w.alloc (.cells #[Value.string ⟨fn.toArray⟩, .bool false, .int .i64 fi, .string ⟨fz.toArray⟩] 37)).alloc (.cells #[Value.string ⟨gn.toArray⟩, .bool gt, .int .i64 gi, .string ⟨gz.toArray⟩] 37)).alloc (.cells #[Value.string ⟨#[]⟩, .bool false, .int .i64 0, Value.string ⟨#[]⟩] 37) = w3 from (unhide HW).symm]
      rw [← unhide HBe]
      go_wp2_with fail
      exact bodyPost_ret (results_ct rfl _ _ (B + 2) 37 (fv fld0) (0, 0) _ (.int .i64 134) rfl rfl (unhide hE0).1 Tryz.underlying37 rfl sizeField) rfl ⟨rfl, (unhide hE0).2⟩
    | true =>
      cases gt with
      | false =>
        have HX : Hid (twoP 9 ⟨fn, true, fi, fz⟩ ⟨gn, false, gi, gz⟩ = .error 134) := hide (by simp [twoP])
        rw [unhide HX]
        go_enter Tryz.func95, Tryz.ntmps95
        go_upto_region 1 with fail
        rw [show ((w.alloc (.cells #[Value.string ⟨fn.toArray⟩, .bool true, .int .i64 fi, .string ⟨fz.toArray⟩] 37)).alloc (.cells #[Value.string ⟨gn.toArray⟩, .bool false, .int .i64 gi, .string ⟨gz.toArray⟩] 37)).alloc (.cells #[Value.string ⟨#[]⟩, .bool false, .int .i64 0, Value.string ⟨#[]⟩] 37) = w3 from (unhide HW).symm]
        rw [← unhide HBe]
        go_wp2_with fail
        exact bodyPost_ret (results_ct rfl _ _ (B + 2) 37 (fv fld0) (0, 0) _ (.int .i64 134) rfl rfl (unhide hE0).1 Tryz.underlying37 rfl sizeField) rfl ⟨rfl, (unhide hE0).2⟩
      | true =>
        have wr1 : IntKind.i64.wrap ((fz.length : Int) + (gz.length : Int)) = ((fz.length + gz.length : Nat) : Int) := by rw [IntKind.wrap_i64]; omega
        have hcat : (9223372036854775807 < fz.length + gz.length) = False := by rw [eq_iff_iff, iff_false]; omega
        by_cases h : 200 < fz.length + gz.length
        · have d1 : (200 : Int) < ((fz.length + gz.length : Nat) : Int) := by omega
          have HX : Hid (twoP 9 ⟨fn, true, fi, fz⟩ ⟨gn, true, gi, gz⟩ = .error 135) := hide (by simp [twoP, h])
          rw [unhide HX]
          go_enter Tryz.func95, Tryz.ntmps95
          go_upto_region 1 with fail
          rw [show ((w.alloc (.cells #[Value.string ⟨fn.toArray⟩, .bool true, .int .i64 fi, .string ⟨fz.toArray⟩] 37)).alloc (.cells #[Value.string ⟨gn.toArray⟩, .bool true, .int .i64 gi, .string ⟨gz.toArray⟩] 37)).alloc (.cells #[Value.string ⟨#[]⟩, .bool false, .int .i64 0, Value.string ⟨#[]⟩] 37) = w3 from (unhide HW).symm]
          rw [← unhide HBe]
          go_wp2_with fail
          exact bodyPost_ret (results_ct rfl _ _ (B + 2) 37 (fv fld0) (0, 0) _ (.int .i64 135) rfl rfl (unhide hE0).1 Tryz.underlying37 rfl sizeField) rfl ⟨rfl, (unhide hE0).2⟩
        · have d1 : ¬ (200 : Int) < ((fz.length + gz.length : Nat) : Int) := by omega
          have HX : Hid (twoP 9 ⟨fn, true, fi, fz⟩ ⟨gn, true, gi, gz⟩ = .ok ⟨[], true, 0, fz ++ gz⟩) := hide (by simp [twoP, h])
          rw [unhide HX]
          have HT : Hid (∀ W, Calls Tryz.prog 93 #[.string ((⟨fz.toArray⟩ : ByteArray) ++ ⟨gz.toArray⟩)] W fun e w' => e = .returned (.agg (fv ⟨[], true, 0, fz ++ gz⟩)) ∧ Below W.heap.size W w') := hide (fun W => by rw [str_cat]; exact rtext_any (fz ++ gz) W)
          have HSm : Hid (small ⟨[], true, 0, fz ++ gz⟩) := hide ⟨by show (fz ++ gz).length ≤ _; rw [List.length_append]; omega, by show _ ≤ (0 : Int); omega, by show (0 : Int) ≤ _; omega⟩
          obtain ⟨ab, hab⟩ : ∃ ab, ab = fz ++ gz := ⟨_, rfl⟩
          rw [← hab] at HT HSm ⊢
          clear hab
          go_enter Tryz.func95, Tryz.ntmps95
          go_upto_region 1 with fail
          rw [show ((w.alloc (.cells #[Value.string ⟨fn.toArray⟩, .bool true, .int .i64 fi, .string ⟨fz.toArray⟩] 37)).alloc (.cells #[Value.string ⟨gn.toArray⟩, .bool true, .int .i64 gi, .string ⟨gz.toArray⟩] 37)).alloc (.cells #[Value.string ⟨#[]⟩, .bool false, .int .i64 0, Value.string ⟨#[]⟩] 37) = w3 from (unhide HW).symm]
          rw [← unhide HBe]
          go_wp2_with (go_at_call 93; refine (unhide HT _).mono ?_; rintro e w4 ⟨rfl, b4⟩; have HE4 := hide (unhide HEr w4 [] true 0 ab b4); obtain ⟨⟨c0, c1, c2, c3⟩, cf⟩ := unhide HRs w4 b4; clear b4)
          exact bodyPost_ret (results_ct rfl _ _ (B + 2) 37 (fv ⟨[], true, 0, ab⟩) (0, 0) _ (.int .i64 0) rfl rfl (unhide HE4).1 Tryz.underlying37 rfl sizeField) rfl ⟨⟨rfl, unhide HSm⟩, (unhide HE4).2⟩
  · have k9 : (k == 9) = false := beq_eq_false_iff_ne.2 h9
    cases ft with
    | true =>
      have HX : Hid (∀ gt, twoP k ⟨fn, true, fi, fz⟩ ⟨gn, gt, gi, gz⟩ = .error 134) := hide (fun gt => by simp [twoP, h9])
      rw [unhide HX gt]
      clear h9
      go_enter Tryz.func95, Tryz.ntmps95
      go_upto_region 1 with fail
      rw [show ((w.alloc (.cells #[Value.string ⟨fn.toArray⟩, .bool true, .int .i64 fi, .string ⟨fz.toArray⟩] 37)).alloc (.cells #[Value.string ⟨gn.toArray⟩, .bool gt, .int .i64 gi, .string ⟨gz.toArray⟩] 37)).alloc (.cells #[Value.string ⟨#[]⟩, .bool false, .int .i64 0, Value.string ⟨#[]⟩] 37) = w3 from (unhide HW).symm]
      rw [← unhide HBe]
      go_wp2_with fail
      exact bodyPost_ret (results_ct rfl _ _ (B + 2) 37 (fv fld0) (0, 0) _ (.int .i64 134) rfl rfl (unhide hE0).1 Tryz.underlying37 rfl sizeField) rfl ⟨rfl, (unhide hE0).2⟩
    | false =>
      cases gt with
      | true =>
        have HX : Hid (twoP k ⟨fn, false, fi, fz⟩ ⟨gn, true, gi, gz⟩ = .error 134) := hide (by simp [twoP, h9])
        rw [unhide HX]
        clear h9
        go_enter Tryz.func95, Tryz.ntmps95
        go_upto_region 1 with fail
        rw [show ((w.alloc (.cells #[Value.string ⟨fn.toArray⟩, .bool false, .int .i64 fi, .string ⟨fz.toArray⟩] 37)).alloc (.cells #[Value.string ⟨gn.toArray⟩, .bool true, .int .i64 gi, .string ⟨gz.toArray⟩] 37)).alloc (.cells #[Value.string ⟨#[]⟩, .bool false, .int .i64 0, Value.string ⟨#[]⟩] 37) = w3 from (unhide HW).symm]
        rw [← unhide HBe]
        go_wp2_with fail
        exact bodyPost_ret (results_ct rfl _ _ (B + 2) 37 (fv fld0) (0, 0) _ (.int .i64 134) rfl rfl (unhide hE0).1 Tryz.underlying37 rfl sizeField) rfl ⟨rfl, (unhide hE0).2⟩
      | false =>
        have HX : Hid (twoP k ⟨fn, false, fi, fz⟩ ⟨gn, false, gi, gz⟩ = if inB (opZ k fi gi) then .ok ⟨[], false, opZ k fi gi, []⟩ else .error 135) := hide (by simp [twoP, h9])
        rw [unhide HX]
        have hk3 : k = 6 ∨ k = 7 ∨ k = 8 := by omega
        have HSu := hide (rsum_any fi gi hfi hgi w3)
        have HDi := hide (rdifference_any fi gi hfi hgi w3)
        have HPr := hide (rproduct_any fi gi hfi hgi w3)
        have HSm : Hid (∀ z, inB z = true → small ⟨[], false, z, []⟩) := hide (fun z hz => by
          have := inB_iff.1 hz
          exact ⟨by show 0 ≤ _; omega, by show _ ≤ z; omega, by show z ≤ _; omega⟩)
        rcases hk3 with rfl | rfl | rfl
        · rw [show opZ 6 fi gi = fi + gi from rfl]
          obtain ⟨Z, hZ⟩ : ∃ Z, Z = fi + gi := ⟨_, rfl⟩
          rw [← hZ] at HSu ⊢
          cases hi : inB Z with
          | true =>
            rw [if_pos rfl]
            have HSz := hide (unhide HSm Z hi)
            have HI := hide hi
            clear h9 hi hZ
            go_enter Tryz.func95, Tryz.ntmps95
            go_upto_region 1 with fail
            rw [show ((w.alloc (.cells #[Value.string ⟨fn.toArray⟩, .bool false, .int .i64 fi, .string ⟨fz.toArray⟩] 37)).alloc (.cells #[Value.string ⟨gn.toArray⟩, .bool false, .int .i64 gi, .string ⟨gz.toArray⟩] 37)).alloc (.cells #[Value.string ⟨#[]⟩, .bool false, .int .i64 0, Value.string ⟨#[]⟩] 37) = w3 from (unhide HW).symm]
            rw [← unhide HBe]
            go_wp2_with (go_at_call 130; refine (unhide HSu).mono ?_; rintro e w4 ⟨z, rfl, hz, rfl⟩; rw [hz (unhide HI), unhide HI]; have HE4 := hide (unhide HEr w3 [] false Z [] (Below.refl _ _)); clear hz)
            exact bodyPost_ret (results_ct rfl _ _ (B + 2) 37 (fv ⟨[], false, Z, []⟩) (0, 0) _ (.int .i64 0) rfl rfl (unhide HE4).1 Tryz.underlying37 rfl sizeField) rfl ⟨⟨rfl, unhide HSz⟩, (unhide HE4).2⟩
          | false =>
            rw [if_neg (by simp)]
            have HI := hide hi
            clear h9 hi hZ
            go_enter Tryz.func95, Tryz.ntmps95
            go_upto_region 1 with fail
            rw [show ((w.alloc (.cells #[Value.string ⟨fn.toArray⟩, .bool false, .int .i64 fi, .string ⟨fz.toArray⟩] 37)).alloc (.cells #[Value.string ⟨gn.toArray⟩, .bool false, .int .i64 gi, .string ⟨gz.toArray⟩] 37)).alloc (.cells #[Value.string ⟨#[]⟩, .bool false, .int .i64 0, Value.string ⟨#[]⟩] 37) = w3 from (unhide HW).symm]
            rw [← unhide HBe]
            go_wp2_with (go_at_call 130; refine (unhide HSu).mono ?_; rintro e w4 ⟨z, rfl, hz, rfl⟩; rw [unhide HI]; clear hz)
            exact bodyPost_ret (results_ct rfl _ _ (B + 2) 37 (fv fld0) (0, 0) _ (.int .i64 135) rfl rfl (unhide hE0).1 Tryz.underlying37 rfl sizeField) rfl ⟨rfl, (unhide hE0).2⟩
        · rw [show opZ 7 fi gi = fi - gi from rfl]
          obtain ⟨Z, hZ⟩ : ∃ Z, Z = fi - gi := ⟨_, rfl⟩
          rw [← hZ] at HDi ⊢
          cases hi : inB Z with
          | true =>
            rw [if_pos rfl]
            have HSz := hide (unhide HSm Z hi)
            have HI := hide hi
            clear h9 hi hZ
            go_enter Tryz.func95, Tryz.ntmps95
            go_upto_region 1 with fail
            rw [show ((w.alloc (.cells #[Value.string ⟨fn.toArray⟩, .bool false, .int .i64 fi, .string ⟨fz.toArray⟩] 37)).alloc (.cells #[Value.string ⟨gn.toArray⟩, .bool false, .int .i64 gi, .string ⟨gz.toArray⟩] 37)).alloc (.cells #[Value.string ⟨#[]⟩, .bool false, .int .i64 0, Value.string ⟨#[]⟩] 37) = w3 from (unhide HW).symm]
            rw [← unhide HBe]
            go_wp2_with (go_at_call 131; refine (unhide HDi).mono ?_; rintro e w4 ⟨z, rfl, hz, rfl⟩; rw [hz (unhide HI), unhide HI]; have HE4 := hide (unhide HEr w3 [] false Z [] (Below.refl _ _)); clear hz)
            exact bodyPost_ret (results_ct rfl _ _ (B + 2) 37 (fv ⟨[], false, Z, []⟩) (0, 0) _ (.int .i64 0) rfl rfl (unhide HE4).1 Tryz.underlying37 rfl sizeField) rfl ⟨⟨rfl, unhide HSz⟩, (unhide HE4).2⟩
          | false =>
            rw [if_neg (by simp)]
            have HI := hide hi
            clear h9 hi hZ
            go_enter Tryz.func95, Tryz.ntmps95
            go_upto_region 1 with fail
            rw [show ((w.alloc (.cells #[Value.string ⟨fn.toArray⟩, .bool false, .int .i64 fi, .string ⟨fz.toArray⟩] 37)).alloc (.cells #[Value.string ⟨gn.toArray⟩, .bool false, .int .i64 gi, .string ⟨gz.toArray⟩] 37)).alloc (.cells #[Value.string ⟨#[]⟩, .bool false, .int .i64 0, Value.string ⟨#[]⟩] 37) = w3 from (unhide HW).symm]
            rw [← unhide HBe]
            go_wp2_with (go_at_call 131; refine (unhide HDi).mono ?_; rintro e w4 ⟨z, rfl, hz, rfl⟩; rw [unhide HI]; clear hz)
            exact bodyPost_ret (results_ct rfl _ _ (B + 2) 37 (fv fld0) (0, 0) _ (.int .i64 135) rfl rfl (unhide hE0).1 Tryz.underlying37 rfl sizeField) rfl ⟨rfl, (unhide hE0).2⟩
        · rw [show opZ 8 fi gi = fi * gi from rfl]
          obtain ⟨Z, hZ⟩ : ∃ Z, Z = fi * gi := ⟨_, rfl⟩
          rw [← hZ] at HPr ⊢
          cases hi : inB Z with
          | true =>
            rw [if_pos rfl]
            have HSz := hide (unhide HSm Z hi)
            have HI := hide hi
            clear h9 hi hZ
            go_enter Tryz.func95, Tryz.ntmps95
            go_upto_region 1 with fail
            rw [show ((w.alloc (.cells #[Value.string ⟨fn.toArray⟩, .bool false, .int .i64 fi, .string ⟨fz.toArray⟩] 37)).alloc (.cells #[Value.string ⟨gn.toArray⟩, .bool false, .int .i64 gi, .string ⟨gz.toArray⟩] 37)).alloc (.cells #[Value.string ⟨#[]⟩, .bool false, .int .i64 0, Value.string ⟨#[]⟩] 37) = w3 from (unhide HW).symm]
            rw [← unhide HBe]
            go_wp2_with (go_at_call 132; refine (unhide HPr).mono ?_; rintro e w4 ⟨z, rfl, hz, rfl⟩; rw [hz (unhide HI), unhide HI]; have HE4 := hide (unhide HEr w3 [] false Z [] (Below.refl _ _)); clear hz)
            exact bodyPost_ret (results_ct rfl _ _ (B + 2) 37 (fv ⟨[], false, Z, []⟩) (0, 0) _ (.int .i64 0) rfl rfl (unhide HE4).1 Tryz.underlying37 rfl sizeField) rfl ⟨⟨rfl, unhide HSz⟩, (unhide HE4).2⟩
          | false =>
            rw [if_neg (by simp)]
            have HI := hide hi
            clear h9 hi hZ
            go_enter Tryz.func95, Tryz.ntmps95
            go_upto_region 1 with fail
            rw [show ((w.alloc (.cells #[Value.string ⟨fn.toArray⟩, .bool false, .int .i64 fi, .string ⟨fz.toArray⟩] 37)).alloc (.cells #[Value.string ⟨gn.toArray⟩, .bool false, .int .i64 gi, .string ⟨gz.toArray⟩] 37)).alloc (.cells #[Value.string ⟨#[]⟩, .bool false, .int .i64 0, Value.string ⟨#[]⟩] 37) = w3 from (unhide HW).symm]
            rw [← unhide HBe]
            go_wp2_with (go_at_call 132; refine (unhide HPr).mono ?_; rintro e w4 ⟨z, rfl, hz, rfl⟩; rw [unhide HI]; clear hz)
            exact bodyPost_ret (results_ct rfl _ _ (B + 2) 37 (fv fld0) (0, 0) _ (.int .i64 135) rfl rfl (unhide hE0).1 Tryz.underlying37 rfl sizeField) rfl ⟨rfl, (unhide hE0).2⟩
end Go.Proofs.YtclllkbljaomoaaGreatDoor
