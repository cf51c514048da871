/-
  DERIVED. The walks of what changes do: show, scale.
-/
import Derived.Test.YtfgjbmpbailebaaDoorUpX
namespace Go.Proofs.YtfgjbmpbailebaaDoor
open Go.RowKit Go.Maps
set_option linter.unusedVariables false

theorem shoC_no {fs : List Fld} {c : Chg} (h : (hasF fs c.name && !(getA fs c.name).text) = false) : shoC fs c = fs := by unfold shoC; rw [if_neg]; rintro ⟨h1, h2⟩; simp [h1, h2] at h
theorem shoC_yes {fs : List Fld} {c : Chg} (h : (hasF fs c.name && !(getA fs c.name).text) = true) : shoC fs c = setF fs ⟨c.name, true, 0, Lib.itoa (getA fs c.name).n⟩ := by unfold shoC; simp at h; rw [if_pos h]

theorem getA_fits {fs : List Fld} (h : ∀ f ∈ fs, fits f) (nm : List UInt8) : fits (getA fs nm) := by
  unfold getA
  cases hf : fs.find? (fun f => f.name == nm) with
  | none => exact ⟨by simp [fld0], by simp [fld0], by simp [fld0], by simp [fld0]⟩
  | some g => exact h g (List.mem_of_find?_eq_some hf)

set_option maxHeartbeats 4000000 in
theorem vshow_any (c : Chg) (fs : List Fld) (v : Value) (base : Nat) (w : World) (ho : FOwn w base v fs) (hb : base ≤ w.heap.size) (hlen : (fs.length + 1) * 48 ≤ 140737488355328) (hfit : ∀ f ∈ fs, fits f) (hva : Vars w) :
    Calls Tryd.prog 34 #[v, .agg (cgv c)] w (DoPost w base (shoC fs c)) := by
  obtain ⟨a, cp, rfl, hfd⟩ := ho.fdn
  have hcl := fdn_len hfd
  obtain ⟨kd, nm, tn, ⟨fn, ft, fi, fss⟩⟩ := c
  have hb1 : Below w.heap.size w (w.alloc (.cells (cgv ⟨kd, nm, tn, ⟨fn, ft, fi, fss⟩⟩) 49)) := (Below.refl _ _).alloc (Nat.le_refl _) _
  have hx1 := CBx.new w ⟨kd, nm, tn, ⟨fn, ft, fi, fss⟩⟩
  have HI : Hid (∀ W, Below w.heap.size w W → Calls Tryd.prog 51 #[.slice a fs.length cp, sv nm] W fun e w' => e = .returned (.tuple #[.int .i64 (getA fs nm).n, .bool (hasF fs nm && !(getA fs nm).text)]) ∧ Below W.heap.size W w') := hide (fun W hW => vinteger_any a fs.length cp fs nm W (hfd.below hW (Nat.le_refl _)).1)
  have HO := hide ho
  have HVa := hide hva
  have HGf := hide (getA_fits hfit nm)
  obtain ⟨w1, hw1⟩ : ∃ w1, w1 = w.alloc (.cells (cgv ⟨kd, nm, tn, ⟨fn, ft, fi, fss⟩⟩) 49) := ⟨_, rfl⟩
  have HW1 := hide hw1
  rw [← hw1] at hb1 hx1
  obtain ⟨B, hB⟩ : ∃ B, B = w.heap.size := ⟨_, rfl⟩
  rw [← hB] at hx1
  have HX1 := hide hx1
  have HB1 := hide hb1
  obtain ⟨x0, x1, x2, x3, x4, x5, x6⟩ := hx1.cells
  simp only at x0 x1 x2 x3 x4 x5 x6
  have HBB := hide hB
  clear hw1 hx1 hb1 hB ho hva hfit
  obtain ⟨n, hn⟩ : ∃ n, n = (getA fs nm).n := ⟨_, rfl⟩
  rw [← hn] at HI
  cases hk : (hasF fs nm && !(getA fs nm).text) with
  | false =>
    have HA := hide (shoC_no (c := ⟨kd, nm, tn, ⟨fn, ft, fi, fss⟩⟩) hk)
    rw [hk] at HI
    clear hk hfd hn
    go_enter Tryd.func34, Tryd.ntmps34
    go_upto_region 1 with fail
    rw [← unhide HW1, ← unhide HBB]
    go_wp2_with (go_at_call 51; refine (unhide HI _ (unhide HB1)).mono ?_; rintro e w2 ⟨rfl, b2⟩; have HB2 := hide ((unhide HB1).trans (b2.mono (unhide HB1).size)); clear b2)
    go_ret
    rw [unhide HA]
    exact DoPost.same (unhide HO) (unhide HB2)
  | true =>
    have HA := hide (shoC_yes (c := ⟨kd, nm, tn, ⟨fn, ft, fi, fss⟩⟩) hk)
    simp only at HA
    rw [← hn] at HA
    rw [hk] at HI
    have hn0 := (unhide HGf).2.2
    rw [← hn] at hn0
    have HIt : Hid (∀ W, Below w.heap.size w W → Calls Tryd.prog 39 #[.int .i64 n] W fun e w' => e = .returned (sv (Lib.itoa n)) ∧ Below W.heap.size W w') := hide (fun W hW => Itoa_go n hn0.1 hn0.2 W ((unhide HVa).below hW (Nat.le_refl _)))
    obtain ⟨t, ht⟩ : ∃ t, t = Lib.itoa n := ⟨_, rfl⟩
    rw [← ht] at HIt HA
    have HS : Hid (∀ W, Below w.heap.size w W → Calls Tryd.prog 47 #[.slice a fs.length cp, .agg (fv ⟨nm, true, 0, t⟩)] W fun e w' => ∃ v, e = .returned v ∧ FOwn w' W.heap.size v (setF fs ⟨nm, true, 0, t⟩) ∧ Below W.heap.size W w') := hide (fun W hW => Set_any a cp fs _ W (hfd.below hW (Nat.le_refl _)) hlen)
    clear hk hfd hn ht hn0
    go_enter Tryd.func34, Tryd.ntmps34
    go_upto_region 1 with fail
    rw [← unhide HW1, ← unhide HBB]
    go_upto_region 4 with (go_at_call 51; refine (unhide HI _ (unhide HB1)).mono ?_; rintro e w2 ⟨rfl, b2⟩; have HB2 := hide ((unhide HB1).trans (b2.mono (unhide HB1).size)); have HX2 := hide ((unhide HX1).below b2 (Nat.le_refl _)); clear b2)
    clear x0 x1 x2 x3 x4 x5 x6
    obtain ⟨x0, x1, x2, x3, x4, x5, x6⟩ := (unhide HX2).cells
    simp only at x0 x1 x2 x3 x4 x5 x6
    have HX2' := hide ((unhide HX2).below (Below.refl _ _).drew (Nat.le_refl _))
    go_region_law (first | (go_simp; go_at_call 39; refine (unhide HIt _ (unhide HB2).drew).mono ?_; rintro e w6 ⟨rfl, b6⟩; have HB6 := hide ((unhide HB2).drew.trans (b6.mono (unhide HB2).drew.size)); obtain ⟨z0, z1, z2, z3, z4, z5, z6⟩ := ((unhide HX2').below b6 (Nat.le_refl _)).cells; simp only at z0 z1 z2 z3 z4 z5 z6; clear b6) | (go_simp; go_at_call 47; refine (unhide HS _ (unhide HB6)).mono ?_; rintro e w7 ⟨v7, rfl, o7, b7⟩; have HO7 := hide (o7.mono (Nat.le_trans hb (unhide HB6).size)); have HB7 := hide ((unhide HB6).trans (b7.mono (unhide HB6).size)); clear o7 b7))
    all_goals
      go_wp2
      go_ret
      rw [unhide HA]
      exact ⟨v7, rfl, unhide HO7, unhide HB7⟩

/-! ### Products -/
def inB (n : Int) : Bool := decide (-1000000000000000 ≤ n) && decide (n ≤ 1000000000000000)
theorem inB_iff {n : Int} : inB n = true ↔ -1000000000000000 ≤ n ∧ n ≤ 1000000000000000 := by unfold inB; simp
theorem inB_no {n : Int} (h : ¬ (-1000000000000000 ≤ n ∧ n ≤ 1000000000000000)) : inB n = false := by
  cases e : inB n with
  | false => rfl
  | true => exact absurd (inB_iff.1 e) h
theorem vinBounds_any (n : Int) (w : World) : Calls Tryd.prog 60 #[.int .i64 n] w fun e w' => e = .returned (.bool (inB n)) ∧ w = w' := by
  unfold inB
  by_cases h1 : -1000000000000000 ≤ n
  · have d1 : decide (-1000000000000000 ≤ n) = true := decide_eq_true h1
    rw [d1, Bool.true_and]
    go_enter Tryd.func60, Tryd.ntmps60
    go_wp2_with fail
    go_ret
    exact ⟨rfl, rfl⟩
  · have d1 : decide (-1000000000000000 ≤ n) = false := decide_eq_false h1
    rw [d1, Bool.false_and]
    go_enter Tryd.func60, Tryd.ntmps60
    go_wp2_with fail
    go_ret
    exact ⟨rfl, rfl⟩
theorem mul_abs {a b : Int} : inB (a * b) = decide (a.natAbs * b.natAbs ≤ 1000000000000000) := by
  have e : (a * b).natAbs = a.natAbs * b.natAbs := Int.natAbs_mul a b
  cases h : inB (a * b) with
  | true =>
    have := inB_iff.1 h
    rw [eq_comm, decide_eq_true_eq, ← e]; omega
  | false =>
    rw [eq_comm, decide_eq_false_iff_not, ← e]
    intro h2
    rw [inB_iff.2 (by omega)] at h; cases h
theorem max_abs (a : Int) : max a (-a) = (a.natAbs : Int) := by omega
theorem timesZ_no {a b : Int} (h : inB a = false ∨ inB b = false ∨ inB (a * b) = false) : timesZ a b = none := by
  unfold timesZ
  rw [if_neg]
  rintro ⟨h1, h2, h3, h4, h5, h6⟩
  rw [inB_iff.2 ⟨h1, h2⟩, inB_iff.2 ⟨h3, h4⟩, inB_iff.2 ⟨h5, h6⟩] at h
  simp at h
theorem timesZ_yes {a b : Int} (h1 : inB a = true) (h2 : inB b = true) (h3 : inB (a * b) = true) : timesZ a b = some (a * b) := by
  unfold timesZ
  obtain ⟨a1, a2⟩ := inB_iff.1 h1
  obtain ⟨b1, b2⟩ := inB_iff.1 h2
  obtain ⟨c1, c2⟩ := inB_iff.1 h3
  rw [if_pos ⟨a1, a2, b1, b2, c1, c2⟩]

abbrev timV (r : Option Int) : Value := .tuple #[.int .i64 (r.getD 0), .bool r.isSome]
set_option maxHeartbeats 4000000 in
theorem vtimes_any (a b : Int) (w : World) : Calls Tryd.prog 52 #[.int .i64 a, .int .i64 b] w fun e w' => e = .returned (timV (timesZ a b)) ∧ w = w' := by
  have HIa : Hid (∀ W, Calls Tryd.prog 60 #[.int .i64 a] W fun e w' => e = .returned (.bool (inB a)) ∧ W = w') := hide (vinBounds_any a)
  have HIb : Hid (∀ W, Calls Tryd.prog 60 #[.int .i64 b] W fun e w' => e = .returned (.bool (inB b)) ∧ W = w') := hide (vinBounds_any b)
  cases hia : inB a with
  | false =>
    rw [timesZ_no (.inl hia)]
    rw [hia] at HIa
    clear hia HIb
    go_enter Tryd.func52, Tryd.ntmps52
    go_wp2_with (go_at_call 60; refine (unhide HIa _).mono ?_; rintro e w' ⟨rfl, rfl⟩)
    go_ret2
    exact ⟨rfl, rfl⟩
  | true =>
    rw [hia] at HIa
    cases hib : inB b with
    | false =>
      rw [timesZ_no (.inr (.inl hib))]
      rw [hib] at HIb
      clear hia hib
      go_enter Tryd.func52, Tryd.ntmps52
      go_wp2_with (go_at_call 60; first | ((with_reducible refine (unhide HIa _).mono ?_); rintro e w' ⟨rfl, rfl⟩) | ((with_reducible refine (unhide HIb _).mono ?_); rintro e w' ⟨rfl, rfl⟩))
      go_ret2
      exact ⟨rfl, rfl⟩
    | true =>
      rw [hib] at HIb
      have ia := inB_iff.1 hia
      have ib := inB_iff.1 hib
      by_cases hb0 : b = 0
      · subst hb0
        have hz : inB (a * 0) = true := by rw [Int.mul_zero]; rfl
        rw [timesZ_yes hia hib hz, Int.mul_zero]
        clear hia hib ia ib hz
        go_enter Tryd.func52, Tryd.ntmps52
        go_wp2_with (go_at_call 60; first | ((with_reducible refine (unhide HIa _).mono ?_); rintro e w' ⟨rfl, rfl⟩) | ((with_reducible refine (unhide HIb _).mono ?_); rintro e w' ⟨rfl, rfl⟩))
        go_ret2
        exact ⟨rfl, rfl⟩
      · have b0 : (b != 0) = true := by simp [hb0]
        have hpb : 1 ≤ b.natAbs := by omega
        obtain ⟨A, hA⟩ : ∃ A, A = a.natAbs := ⟨_, rfl⟩
        obtain ⟨B, hB⟩ : ∃ B, B = b.natAbs := ⟨_, rfl⟩
        have na : IntKind.i64.wrap (-a) = -a := by rw [IntKind.wrap_i64]; omega
        have nb : IntKind.i64.wrap (-b) = -b := by rw [IntKind.wrap_i64]; omega
        have ma : max a (-a) = (A : Int) := by rw [hA]; exact max_abs a
        have mb : max b (-b) = (B : Int) := by rw [hB]; exact max_abs b
        obtain ⟨Q, hQ⟩ : ∃ Q, Q = 1000000000000000 / B := ⟨_, rfl⟩
        have hBp : 0 < B := by omega
        have dv : (1000000000000000 : Int).tdiv (B : Int) = (Q : Int) := by rw [hQ, Int.tdiv_eq_ediv_of_nonneg (by omega)]; rfl
        have hQl : Q ≤ 1000000000000000 := by rw [hQ]; exact Nat.div_le_self _ _
        have wq : IntKind.i64.wrap (Q : Int) = (Q : Int) := by rw [IntKind.wrap_i64]; omega
        have nz : ((B : Int) == 0) = false := by rw [beq_eq_false_iff_ne]; omega
        have hle : A ≤ Q ↔ A * B ≤ 1000000000000000 := by rw [hQ]; exact Nat.le_div_iff_mul_le hBp
        by_cases hAQ : A ≤ Q
        · have hyes : inB (a * b) = true := by rw [mul_abs, decide_eq_true_eq, ← hA, ← hB]; exact hle.1 hAQ
          have d1 : decide ((Q : Int) < (A : Int)) = false := decide_eq_false (by omega)
          have d1' : decide (Q < A) = false := decide_eq_false (by omega)
          have hz := inB_iff.1 hyes
          rw [timesZ_yes hia hib hyes]
          obtain ⟨z, hz1⟩ : ∃ z, z = a * b := ⟨_, rfl⟩
          have wz : IntKind.i64.wrap (a * b) = z := by rw [IntKind.wrap_i64, ← hz1]; omega
          rw [← hz1]
          clear hb0 hia hib hyes hpb hA hB hQ hle hAQ hz hz1 ia ib hQl
          go_enter Tryd.func52, Tryd.ntmps52
          go_wp2_with (go_at_call 60; first | ((with_reducible refine (unhide HIa _).mono ?_); rintro e w' ⟨rfl, rfl⟩) | ((with_reducible refine (unhide HIb _).mono ?_); rintro e w' ⟨rfl, rfl⟩))
          go_ret2
          exact ⟨rfl, rfl⟩
        · have hno : inB (a * b) = false := by rw [mul_abs, decide_eq_false_iff_not, ← hA, ← hB]; exact fun h => hAQ (hle.2 h)
          have d1 : decide ((Q : Int) < (A : Int)) = true := decide_eq_true (by omega)
          have d1' : decide (Q < A) = true := decide_eq_true (by omega)
          rw [timesZ_no (.inr (.inr hno))]
          clear hb0 hia hib hno hpb hA hB hQ hle hAQ ia ib hQl
          go_enter Tryd.func52, Tryd.ntmps52
          go_wp2_with (go_at_call 60; first | ((with_reducible refine (unhide HIa _).mono ?_); rintro e w' ⟨rfl, rfl⟩) | ((with_reducible refine (unhide HIb _).mono ?_); rintro e w' ⟨rfl, rfl⟩))
          go_ret2
          exact ⟨rfl, rfl⟩

theorem scaC_no {fs : List Fld} {c : Chg} (h : (hasF fs c.name && !(getA fs c.name).text) = false) : scaC fs c = fs := by unfold scaC; rw [if_neg]; rintro ⟨h1, h2⟩; simp [h1, h2] at h
theorem scaC_out {fs : List Fld} {c : Chg} (h : timesZ (getA fs c.name).n c.f.n = none) : scaC fs c = fs := by unfold scaC; rw [h]; simp
theorem scaC_yes {fs : List Fld} {c : Chg} {p : Int} (h : (hasF fs c.name && !(getA fs c.name).text) = true) (h2 : timesZ (getA fs c.name).n c.f.n = some p) : scaC fs c = setF fs ⟨c.name, false, p, []⟩ := by unfold scaC; simp at h; rw [if_pos h, h2]

set_option maxHeartbeats 4000000 in
theorem vscale_any (c : Chg) (fs : List Fld) (v : Value) (base : Nat) (w : World) (ho : FOwn w base v fs) (hb : base ≤ w.heap.size) (hlen : (fs.length + 1) * 48 ≤ 140737488355328) :
    Calls Tryd.prog 35 #[v, .agg (cgv c)] w (DoPost w base (scaC fs c)) := by
  obtain ⟨a, cp, rfl, hfd⟩ := ho.fdn
  have hcl := fdn_len hfd
  obtain ⟨kd, nm, tn, ⟨fn, ft, fi, fss⟩⟩ := c
  have hb1 : Below w.heap.size w (w.alloc (.cells (cgv ⟨kd, nm, tn, ⟨fn, ft, fi, fss⟩⟩) 49)) := (Below.refl _ _).alloc (Nat.le_refl _) _
  have hx1 := CBx.new w ⟨kd, nm, tn, ⟨fn, ft, fi, fss⟩⟩
  have HI : Hid (∀ W, Below w.heap.size w W → Calls Tryd.prog 51 #[.slice a fs.length cp, sv nm] W fun e w' => e = .returned (.tuple #[.int .i64 (getA fs nm).n, .bool (hasF fs nm && !(getA fs nm).text)]) ∧ Below W.heap.size W w') := hide (fun W hW => vinteger_any a fs.length cp fs nm W (hfd.below hW (Nat.le_refl _)).1)
  have HO := hide ho
  obtain ⟨w1, hw1⟩ : ∃ w1, w1 = w.alloc (.cells (cgv ⟨kd, nm, tn, ⟨fn, ft, fi, fss⟩⟩) 49) := ⟨_, rfl⟩
  have HW1 := hide hw1
  rw [← hw1] at hb1 hx1
  obtain ⟨B, hB⟩ : ∃ B, B = w.heap.size := ⟨_, rfl⟩
  rw [← hB] at hx1
  have HX1 := hide hx1
  have HB1 := hide hb1
  obtain ⟨x0, x1, x2, x3, x4, x5, x6⟩ := hx1.cells
  simp only at x0 x1 x2 x3 x4 x5 x6
  have HBB := hide hB
  clear hw1 hx1 hb1 hB ho
  obtain ⟨n, hn⟩ : ∃ n, n = (getA fs nm).n := ⟨_, rfl⟩
  rw [← hn] at HI
  cases hk : (hasF fs nm && !(getA fs nm).text) with
  | false =>
    have HA := hide (scaC_no (c := ⟨kd, nm, tn, ⟨fn, ft, fi, fss⟩⟩) hk)
    rw [hk] at HI
    clear hk hfd hn
    go_enter Tryd.func35, Tryd.ntmps35
    go_upto_region 1 with fail
    rw [← unhide HW1, ← unhide HBB]
    go_wp2_with (go_at_call 51; refine (unhide HI _ (unhide HB1)).mono ?_; rintro e w2 ⟨rfl, b2⟩; have HB2 := hide ((unhide HB1).trans (b2.mono (unhide HB1).size)); clear b2)
    go_ret
    rw [unhide HA]
    exact DoPost.same (unhide HO) (unhide HB2)
  | true =>
    rw [hk] at HI
    have HT : Hid (∀ W, Calls Tryd.prog 52 #[.int .i64 n, .int .i64 fi] W fun e w' => e = .returned (timV (timesZ n fi)) ∧ W = w') := hide (vtimes_any n fi)
    cases ht : timesZ n fi with
    | none =>
      have HA := hide (scaC_out (fs := fs) (c := ⟨kd, nm, tn, ⟨fn, ft, fi, fss⟩⟩) (by rw [← hn]; exact ht))
      rw [ht] at HT
      clear hk hfd hn ht
      go_enter Tryd.func35, Tryd.ntmps35
      go_upto_region 1 with fail
      rw [← unhide HW1, ← unhide HBB]
      go_upto_region 4 with (go_at_call 51; refine (unhide HI _ (unhide HB1)).mono ?_; rintro e w2 ⟨rfl, b2⟩; have HB2 := hide ((unhide HB1).trans (b2.mono (unhide HB1).size)); have HX2 := hide ((unhide HX1).below b2 (Nat.le_refl _)); clear b2)
      clear x0 x1 x2 x3 x4 x5 x6
      obtain ⟨x0, x1, x2, x3, x4, x5, x6⟩ := (unhide HX2).cells
      simp only at x0 x1 x2 x3 x4 x5 x6
      go_wp2_with (go_at_call 52; refine (unhide HT _).mono ?_; rintro e w' ⟨rfl, rfl⟩)
      go_ret
      rw [unhide HA]
      exact DoPost.same (unhide HO) (unhide HB2)
    | some p =>
      have HA := hide (scaC_yes (fs := fs) (c := ⟨kd, nm, tn, ⟨fn, ft, fi, fss⟩⟩) (p := p) hk (by rw [← hn]; exact ht))
      simp only at HA
      rw [ht] at HT
      have HS : Hid (∀ W, Below w.heap.size w W → Calls Tryd.prog 47 #[.slice a fs.length cp, .agg (fv ⟨nm, false, p, []⟩)] W fun e w' => ∃ v, e = .returned v ∧ FOwn w' W.heap.size v (setF fs ⟨nm, false, p, []⟩) ∧ Below W.heap.size W w') := hide (fun W hW => Set_any a cp fs _ W (hfd.below hW (Nat.le_refl _)) hlen)
      clear hk hfd hn ht
      go_enter Tryd.func35, Tryd.ntmps35
      go_upto_region 1 with fail
      rw [← unhide HW1, ← unhide HBB]
      go_upto_region 4 with (go_at_call 51; refine (unhide HI _ (unhide HB1)).mono ?_; rintro e w2 ⟨rfl, b2⟩; have HB2 := hide ((unhide HB1).trans (b2.mono (unhide HB1).size)); have HX2 := hide ((unhide HX1).below b2 (Nat.le_refl _)); clear b2)
      clear x0 x1 x2 x3 x4 x5 x6
      obtain ⟨x0, x1, x2, x3, x4, x5, x6⟩ := (unhide HX2).cells
      simp only at x0 x1 x2 x3 x4 x5 x6
      go_wp2_with (first | (go_at_call 52; refine (unhide HT _).mono ?_; rintro e w' ⟨rfl, rfl⟩) | (go_at_call 47; refine (unhide HS _ (unhide HB2)).mono ?_; rintro e w7 ⟨v7, rfl, o7, b7⟩; have HO7 := hide (o7.mono (Nat.le_trans hb (unhide HB2).size)); have HB7 := hide ((unhide HB2).trans (b7.mono (unhide HB2).size)); clear o7 b7))
      go_ret
      rw [unhide HA]
      exact ⟨v7, rfl, unhide HO7, unhide HB7⟩
end Go.Proofs.YtfgjbmpbailebaaDoor
