/-
  DERIVED. The document's numbers: args, size, sum, difference, product.
-/
import Derived.Test.YtingpmgpjmlioaaGreatDoorRuO
import Derived.Test.YtingpmgpjmlioaaGreatDoorShR7
import Derived.Test.YtingpmgpjmlioaaGreatDoorRuT
import Derived.Test.YtingpmgpjmlioaaGreatDoorRuE
import Derived.Test.YtingpmgpjmlioaaGreatDoorRuW
namespace Go.Proofs.YtingpmgpjmlioaaGreatDoor
open Go.RowKit
set_option linter.unusedVariables false

set_option maxHeartbeats 4000000 in
theorem rargs_any (k : Int) (w : World) : Calls Tryz.prog 73 #[.int .i64 k] w fun e w' => e = .returned (.int .i64 (argsN k)) ∧ w = w' := by
  by_cases hin : 1 ≤ k ∧ k ≤ 11
  · have hk : k = 1 ∨ k = 2 ∨ k = 3 ∨ k = 4 ∨ k = 5 ∨ k = 6 ∨ k = 7 ∨ k = 8 ∨ k = 9 ∨ k = 10 ∨ k = 11 := by omega
    clear hin
    rcases hk with rfl | rfl | rfl | rfl | rfl | rfl | rfl | rfl | rfl | rfl | rfl
    all_goals
      go_enter Tryz.func73, Tryz.ntmps73
      go_wp2_with fail
      go_ret
      exact ⟨rfl, rfl⟩
  · have hne : ∀ z : Int, 1 ≤ z → z ≤ 11 → (k == z) = false := fun z h1 h2 => by
      rw [beq_eq_false_iff_ne]; intro e; subst e; exact hin ⟨h1, h2⟩
    have e1 := hne 1 (by omega) (by omega)
    have e2 := hne 2 (by omega) (by omega)
    have e3 := hne 3 (by omega) (by omega)
    have e4 := hne 4 (by omega) (by omega)
    have e5 := hne 5 (by omega) (by omega)
    have e6 := hne 6 (by omega) (by omega)
    have e7 := hne 7 (by omega) (by omega)
    have e8 := hne 8 (by omega) (by omega)
    have e9 := hne 9 (by omega) (by omega)
    have e10 := hne 10 (by omega) (by omega)
    have e11 := hne 11 (by omega) (by omega)
    have ha : argsN k = -1 := by
      unfold argsN
      rw [if_neg (by omega), if_neg (by omega), if_neg (by omega)]
    rw [ha]
    clear hin hne ha
    go_enter Tryz.func73, Tryz.ntmps73
    go_wp2_with fail
    go_ret
    exact ⟨rfl, rfl⟩

theorem half (a : Int) : (0 ≤ a → a - 1 ≤ 2 * a.tdiv 2 ∧ 2 * a.tdiv 2 ≤ a) ∧ (a < 0 → a ≤ 2 * a.tdiv 2 ∧ 2 * a.tdiv 2 ≤ a + 1) := by
  constructor
  · intro h
    rw [Int.tdiv_eq_ediv_of_nonneg h]
    omega
  · intro h
    have e := Int.neg_tdiv (-a) 2
    rw [Int.neg_neg] at e
    rw [e, Int.tdiv_eq_ediv_of_nonneg (by omega)]
    omega
/-- What two numbers come to, and whether that is in range. -/
def NumPost (w : World) (n : Int) (e : Ending) (w' : World) : Prop := ∃ z, e = .returned (.tuple #[.int .i64 z, .bool (inB n)]) ∧ (inB n = true → z = n) ∧ w = w'

end Go.Proofs.YtingpmgpjmlioaaGreatDoor

namespace Go.Proofs.YtingpmgpjmlioaaGreatDoor
open Go.RowKit
set_option linter.unusedVariables false

end Go.Proofs.YtingpmgpjmlioaaGreatDoor

namespace Go.Proofs.YtingpmgpjmlioaaGreatDoor
open Go.RowKit
set_option linter.unusedVariables false

/-- What two values come to, by the document. -/
def twoP (k : Int) (f g : Fld) : Except Int Fld :=
  if k = 9 then (if f.text && g.text then (if 200 < f.s.length + g.s.length then .error 135 else .ok ⟨[], true, 0, f.s ++ g.s⟩) else .error 134)
  else if f.text || g.text then .error 134 else (if inB (opZ k f.n g.n) then .ok ⟨[], false, opZ k f.n g.n, []⟩ else .error 135)

end Go.Proofs.YtingpmgpjmlioaaGreatDoor

namespace Go.Proofs.YtingpmgpjmlioaaGreatDoor
open Go.RowKit
set_option linter.unusedVariables false

/-- The value of a field, by the document. -/
def fieldP (l : List Fld) (nm : List UInt8) : Except Int Fld := if hasF l nm then .ok ⟨[], (getA l nm).text, (getA l nm).n, (getA l nm).s⟩ else .error 133

/-- Is a condition's form right? -/
def hasP (d : Cd) : Bool := if d.kind = 4 then (decide (d.A.kind = 3) || decide (d.A.kind = 4)) else (decide (d.kind = 1) || decide (d.kind = 2) || decide (d.kind = 3))

set_option maxHeartbeats 4000000 in
theorem rhas_any (d : Cd) (a : Option Addr) (c : Nat) (a' : Option Addr) (c' : Nat) (w : World) : Calls Tryz.prog 25 #[.agg (cdV d a c a' c')] w fun e w' => e = .returned (.bool (hasP d)) ∧ Below w.heap.size w w' := by
  have hb1 : Below w.heap.size w (w.alloc (.cells (cdV d a c a' c') 46)) := (Below.refl _ _).alloc (Nat.le_refl _) _
  have hx1 : CBox (w.alloc (.cells (cdV d a c a' c') 46)) w.heap.size d a c a' c' := heap_alloc_new _ _
  obtain ⟨w1, hw1⟩ : ∃ w1, w1 = w.alloc (.cells (cdV d a c a' c') 46) := ⟨_, rfl⟩
  rw [← hw1] at hb1 hx1
  have HW := hide hw1
  have HB := hide hb1
  obtain ⟨⟨k0, -⟩, ⟨x0, -, -, -⟩, -⟩ := hx1.cells
  obtain ⟨K, hK⟩ : ∃ K, K = d.kind := ⟨_, rfl⟩
  obtain ⟨J, hJ⟩ : ∃ J, J = d.A.kind := ⟨_, rfl⟩
  have HP : Hid (hasP d = if K = 4 then (decide (J = 3) || decide (J = 4)) else (decide (K = 1) || decide (K = 2) || decide (K = 3))) := hide (by unfold hasP; rw [hK, hJ])
  rw [← hK] at k0
  rw [← hJ] at x0
  clear hw1 hb1 hx1 hK hJ
  obtain ⟨kd, ng, A, B⟩ := d
  go_enter Tryz.func25, Tryz.ntmps25
  go_upto_region 1 with fail
  rw [show w.alloc (.cells #[Value.int IntKind.i64 kd, .bool ng, .int .i64 A.kind, .int .i64 A.n, sv A.s, .slice a A.args.length c, .int .i64 B.kind, .int .i64 B.n, sv B.s, .slice a' B.args.length c'] 46) = w1 from (unhide HW).symm]
  by_cases h4 : K = 4
  · subst h4
    by_cases j3 : J = 3
    · subst j3
      go_wp2_with fail
      go_ret
      exact ⟨by rw [unhide HP]; rfl, unhide HB⟩
    · by_cases j4 : J = 4
      · subst j4
        go_wp2_with fail
        go_ret
        exact ⟨by rw [unhide HP]; rfl, unhide HB⟩
      · have e3 : (J == 3) = false := beq_eq_false_iff_ne.2 j3
        have e4 : (J == 4) = false := beq_eq_false_iff_ne.2 j4
        have HX := hide (show hasP ⟨kd, ng, A, B⟩ = false by rw [unhide HP]; simp [j3, j4])
        clear j3 j4
        go_wp2_with fail
        go_ret
        exact ⟨by rw [unhide HX]; rfl, unhide HB⟩
  · have e4 : (K == 4) = false := beq_eq_false_iff_ne.2 h4
    by_cases k1 : K = 1
    · subst k1
      clear h4 e4
      go_wp2_with fail
      go_ret
      exact ⟨by rw [unhide HP]; rfl, unhide HB⟩
    · by_cases k2 : K = 2
      · subst k2
        clear h4 e4 k1
        go_wp2_with fail
        go_ret
        exact ⟨by rw [unhide HP]; rfl, unhide HB⟩
      · by_cases k3 : K = 3
        · subst k3
          clear h4 e4 k1 k2
          go_wp2_with fail
          go_ret
          exact ⟨by rw [unhide HP]; rfl, unhide HB⟩
        · have e1 : (K == 1) = false := beq_eq_false_iff_ne.2 k1
          have e2 : (K == 2) = false := beq_eq_false_iff_ne.2 k2
          have e3 : (K == 3) = false := beq_eq_false_iff_ne.2 k3
          have HX := hide (show hasP ⟨kd, ng, A, B⟩ = false by rw [unhide HP]; simp [h4, k1, k2, k3])
          clear h4 k1 k2 k3
          go_wp2_with fail
          go_ret
          exact ⟨by rw [unhide HX]; rfl, unhide HB⟩

end Go.Proofs.YtingpmgpjmlioaaGreatDoor

namespace Go.Proofs.YtingpmgpjmlioaaGreatDoor
open Go.RowKit
set_option linter.unusedVariables false

mutual
/-- Nodes, added to some; it ends behind 64. -/
def cntX : Ex → Nat → Nat
  | .mk _ _ _ args, n => cntL args (n + 1)
def cntL : List Ex → Nat → Nat
  | [], n => n
  | y :: r, n => if n ≤ 64 then cntL r (cntX y n) else n
end
theorem cntX_eq (x : Ex) (n : Nat) : cntX x n = cntL x.args (n + 1) := by cases x; rw [cntX]; rfl
theorem cntL_go {y : Ex} {r : List Ex} {n : Nat} (h : n ≤ 64) : cntL (y :: r) n = cntL r (cntX y n) := by rw [cntL, if_pos h]
theorem cntL_stop {l : List Ex} {n : Nat} (h : ¬ n ≤ 64) : cntL l n = n := by
  cases l with
  | nil => rw [cntL]
  | cons y r => rw [cntL, if_neg h]
theorem cnt_le : ∀ (k : Nat) (x : Ex), SizeOf.sizeOf x ≤ k → ∀ n, n ≤ 64 → cntX x n ≤ 65 := by
  intro k
  induction k with
  | zero => intro x hx; cases x; simp only [Ex.mk.sizeOf_spec] at hx; omega
  | succ k ih =>
    intro x hx n hn
    have hl : ∀ l : List Ex, (∀ y ∈ l, SizeOf.sizeOf y ≤ k) → ∀ m, m ≤ 65 → cntL l m ≤ 65 := by
      intro l
      induction l with
      | nil => intro _ m hm; rw [cntL]; exact hm
      | cons y r ih2 =>
        intro h m hm
        by_cases h64 : m ≤ 64
        · rw [cntL_go h64]
          exact ih2 (fun z hz => h z (by simp [hz])) _ (ih y (h y (by simp)) m h64)
        · rw [cntL_stop h64]; exact hm
    rw [cntX_eq]
    exact hl x.args (fun y hy => by have := args_lt hy; omega) (n + 1) (by omega)

set_option maxRecDepth 20000 in
set_option maxHeartbeats 4000000 in
theorem rnodes_any {w0 : World} {x : Ex} {a : Option Addr} {c : Nat} (hat : ExAt w0 x a c) : ∀ (n : Nat), n ≤ 64 → ∀ w, Below w0.heap.size w0 w → Calls Tryz.prog 96 #[.agg (exV x a c), .int .i64 (n : Int)] w fun e w' => e = .returned (.int .i64 (cntX x n : Nat)) ∧ Below w.heap.size w w' := by
  induction hat with
  | mk x a c b off A C h1 h2 h3 hk hn hs hc hr ih =>
    intro n hn64 w hw
    have hb1 : Below w.heap.size w (w.alloc (.cells (exV x a c) 44)) := (Below.refl _ _).alloc (Nat.le_refl _) _
    have hx1 : XBox (w.alloc (.cells (exV x a c) 44)) w.heap.size x a c := heap_alloc_new _ _
    obtain ⟨w1, hw1⟩ : ∃ w1, w1 = w.alloc (.cells (exV x a c) 44) := ⟨_, rfl⟩
    rw [← hw1] at hb1 hx1
    have HW := hide hw1
    have HB1 := hide hb1
    have HX1 : Hid (∀ W, Below w1.heap.size w1 W → W.cell? ⟨w.heap.size, 3, none⟩ = some (.slice a x.args.length c)) := hide (fun W hW => ((hx1.below hW (Nat.le_refl _)).cells).2.2.2.1)
    have HC : Hid (∀ i, (h : i < x.args.length) → a = some ⟨b, off, none⟩ ∧ ∀ W, Below w1.heap.size w1 W → W.cell? ⟨b, off + i * 4, none⟩ = some (.int .i64 x.args[i].kind) ∧ W.cell? ⟨b, off + i * 4 + 1, none⟩ = some (.int .i64 x.args[i].n) ∧ W.cell? ⟨b, off + i * 4 + 2, none⟩ = some (sv x.args[i].s) ∧ W.cell? ⟨b, off + i * 4 + 3, none⟩ = some (.slice (A i) x.args[i].args.length (C i))) := hide (fun i h => by
      refine ⟨(h3 (by omega)).1, fun W hW => ?_⟩
      have hb0 := hw.trans ((hb1.trans (hW.mono hb1.size)).mono hw.size)
      obtain ⟨q0, q1, q2, q3⟩ := hc i h
      exact ⟨kept hb0 q0, kept hb0 q1, kept hb0 q2, kept hb0 q3⟩)
    have HIH := hide (fun (i : Nat) (h : i < x.args.length) (m : Nat) (hm : m ≤ 64) (W : World) (hW : Below w1.heap.size w1 W) => ih i h m hm W (hw.trans ((hb1.trans (hW.mono hb1.size)).mono hw.size)))
    obtain ⟨N, hN⟩ : ∃ N, N = x.args.length := ⟨_, rfl⟩
    have HN := hide hN
    rw [← hN] at HX1 h1
    have HW' : Hid (w1 = w.alloc (.cells #[.int .i64 x.kind, .int .i64 x.n, sv x.s, .slice a N c] 44)) := hide (by rw [hN]; exact unhide HW)
    have harg : exV x a c = #[.int .i64 x.kind, .int .i64 x.n, sv x.s, .slice a N c] := by rw [hN]
    rw [harg]
    obtain ⟨R, hR⟩ : ∃ R, R = cntX x n := ⟨_, rfl⟩
    rw [← hR]
    have HR : Hid (R = cntL x.args (n + 1)) := hide (by rw [hR, cntX_eq])
    have wr1 : IntKind.i64.wrap ((n : Int) + 1) = ((n + 1 : Nat) : Int) := by rw [IntKind.wrap_i64]; omega
    clear hw hb1 hx1 hw1 hc hr ih hN HW harg hR h3 hk hn hs
    go_enter Tryz.func96, Tryz.ntmps96
    go_upto_region 1 with fail
    rw [show w.alloc (.cells #[Value.int IntKind.i64 x.kind, .int .i64 x.n, sv x.s, .slice a N c] 44) = w1 from (unhide HW').symm]
    go_wp2_with fail
    go_loopw [1, 5] (fun m i wr => ∃ (k q : Nat), m = .int .i64 (q : Int) ∧ i = .int .i64 (k : Int) ∧ k ≤ N ∧ q ≤ 65 ∧ Hid (R = cntL (x.args.drop k) q) ∧ Hid (Below w1.heap.size w1 wr)) (fun _ i _ => N - (intOf i).toNat)
    case atStart => exact ⟨0, n + 1, rfl, rfl, by omega, by omega, hide (by simpa using unhide HR), hide (Below.refl _ _)⟩
    case round =>
      obtain ⟨k, q, rfl, rfl, hkN, hq, HA, HB⟩ := hrel
      have z3 := unhide HX1 wr (unhide HB)
      by_cases hlt : k < N
      · by_cases h64 : q ≤ 64
        · have hkl : k < x.args.length := by have := unhide HN; omega
          obtain ⟨ha, hcs⟩ := unhide HC k hkl
          obtain ⟨d0, d1, d2, d3⟩ := hcs wr (unhide HB)
          have HC4 := hide (unhide HIH k hkl q h64 wr (unhide HB))
          have hle := cnt_le _ x.args[k] (Nat.le_refl _) q h64
          have HA2 : Hid (R = cntL (x.args.drop (k + 1)) (cntX x.args[k] q)) := hide (by
            rw [unhide HA, List.drop_eq_getElem_cons hkl, cntL_go h64])
          obtain ⟨y, hy⟩ : ∃ y, y = x.args[k] := ⟨_, rfl⟩
          rw [← hy] at d0 d1 d2 d3 HC4 hle HA2
          obtain ⟨Q, hQ⟩ : ∃ Q, Q = cntX y q := ⟨_, rfl⟩
          rw [← hQ] at HC4 hle HA2
          have h64' : (q : Int) ≤ 64 := by omega
          subst ha
          clear hcs hy hQ
          go_wp2_with (go_at_call 96; refine (unhide HC4).mono ?_; rintro e w5 ⟨rfl, b5⟩; have HB5 := hide ((unhide HB).trans (b5.mono (unhide HB).size)); clear b5)
          go_roundw
          case rel => exact ⟨k + 1, Q, rfl, by go_num, by omega, hle, HA2, HB5⟩
          case measure => simp [intOf]; omega
        · have h64' : decide ((q : Int) ≤ 64) = false := by simp; omega
          have HX : Hid (R = q) := hide (by rw [unhide HA, cntL_stop h64])
          clear h64
          go_wp2_with fail
          go_ret
          exact ⟨by rw [unhide HX]; rfl, (unhide HB1).trans ((unhide HB).mono (unhide HB1).size)⟩
      · have HX : Hid (R = q) := hide (by rw [unhide HA, List.drop_eq_nil_of_le (by have := unhide HN; omega), cntL])
        have hlt' : decide ((k : Int) < (N : Int)) = false := by simp; omega
        go_wp2_with fail
        go_ret
        exact ⟨by rw [unhide HX]; rfl, (unhide HB1).trans ((unhide HB).mono (unhide HB1).size)⟩

theorem rmany_any (d : Nd) (w : World) (hd : d.at w) : Calls Tryz.prog 68 #[.agg (ndv d)] w fun e w' => e = .returned (.bool (decide (64 < cntX d.x 0))) ∧ Below w.heap.size w w' := by
  have hb1 : Below w.heap.size w (w.alloc (.cells (ndv d) 44)) := (Below.refl _ _).alloc (Nat.le_refl _) _
  have HC := hide (rnodes_any hd 0 (by omega) _ hb1)
  have HB := hide hb1
  obtain ⟨Q, hQ⟩ : ∃ Q, Q = cntX d.x 0 := ⟨_, rfl⟩
  rw [← hQ] at HC ⊢
  clear hb1 hd hQ
  simp only [ndv] at HC ⊢
  go_enter Tryz.func68, Tryz.ntmps68
  go_wp2_with (go_at_call 96; refine (unhide HC).mono ?_; rintro e w3 ⟨rfl, b3⟩; have HB3 := hide ((unhide HB).trans (b3.mono (unhide HB).size)); clear b3)
  go_ret
  refine ⟨?_, unhide HB3⟩
  show Ending.returned (.bool (decide ((64 : Int) < (Q : Int)))) = _
  rw [show decide ((64 : Int) < (Q : Int)) = decide (64 < Q) from decide_eq_decide.2 (by omega)]
end Go.Proofs.YtingpmgpjmlioaaGreatDoor

namespace Go.Proofs.YtingpmgpjmlioaaGreatDoor
open Go.RowKit
set_option linter.unusedVariables false

mutual
/-- All nodes of an expression. -/
def numX : Ex → Nat
  | .mk _ _ _ args => numL args + 1
def numL : List Ex → Nat
  | [] => 0
  | y :: r => numX y + numL r
end
theorem numX_eq (x : Ex) : numX x = numL x.args + 1 := by cases x; rw [numX]; rfl
theorem numL_app : ∀ l m : List Ex, numL (l ++ m) = numL l + numL m
  | [], m => by rw [List.nil_append, numL, Nat.zero_add]
  | y :: r, m => by rw [List.cons_append, numL, numL, numL_app r m, Nat.add_assoc]
theorem len_numL : ∀ l : List Ex, l.length ≤ numL l
  | [] => by simp
  | y :: r => by
    have := len_numL r
    have := numX_eq y
    rw [numL, List.length_cons]
    omega
/-- All nodes but the roots. -/
def subL : List Ex → Nat
  | [] => 0
  | y :: r => numL y.args + subL r
theorem subL_app : ∀ l m : List Ex, subL (l ++ m) = subL l + subL m
  | [], m => by rw [List.nil_append, subL, Nat.zero_add]
  | y :: r, m => by rw [List.cons_append, subL, subL, subL_app r m, Nat.add_assoc]
theorem subL_num : ∀ l : List Ex, numL l = subL l + l.length
  | [] => by rw [numL, subL]; rfl
  | y :: r => by
    have := subL_num r
    have := numX_eq y
    rw [numL, subL, List.length_cons]
    omega

theorem cntX_num : ∀ (k : Nat) (x : Ex), SizeOf.sizeOf x ≤ k → ∀ n, n ≤ 64 → cntX x n = min 65 (n + numX x) := by
  intro k
  induction k with
  | zero => intro x hx; cases x; simp only [Ex.mk.sizeOf_spec] at hx; omega
  | succ k ih =>
    intro x hx n hn
    have hl : ∀ l : List Ex, (∀ y ∈ l, SizeOf.sizeOf y ≤ k) → ∀ m, m ≤ 65 → cntL l m = min 65 (m + numL l) := by
      intro l
      induction l with
      | nil => intro _ m hm; rw [cntL, numL]; omega
      | cons y r ih2 =>
        intro h m hm
        by_cases h64 : m ≤ 64
        · rw [cntL_go h64, ih y (h y (by simp)) m h64, ih2 (fun z hz => h z (by simp [hz])) _ (by omega), numL]
          omega
        · rw [cntL_stop h64]; omega
    rw [cntX_eq, hl x.args (fun y hy => by have := args_lt hy; omega) (n + 1) (by omega), numX_eq]
    omega

theorem bfs_num (e : Ex) : ∀ i, ((bfsN e i).length = 65 ∧ 65 ≤ numX e) ∨ (bfsN e i).length + subL ((bfsN e i).drop i) = numX e
  | 0 => by
    refine Or.inr ?_
    have := numX_eq e
    simp only [bfsN, List.drop_zero, List.length_cons, List.length_nil, subL]
    omega
  | i + 1 => by
    have hle := bfs_len e i
    cases h : (bfsN e i)[i]? with
    | none =>
      have hs : bfsN e (i + 1) = bfsN e i := by rw [bfsN, h]
      have hi := List.getElem?_eq_none_iff.1 h
      rw [hs]
      refine (bfs_num e i).imp id fun q => ?_
      rw [List.drop_eq_nil_of_le hi] at q
      rw [List.drop_eq_nil_of_le (by omega)]
      exact q
    | some x =>
      have hs := bfs_some h
      obtain ⟨hi, hx⟩ := List.getElem?_eq_some_iff.1 h
      rw [hs]
      rcases bfs_num e i with ⟨q, q2⟩ | q
      · refine Or.inl ⟨?_, q2⟩
        rw [q]; simp [q]
      · rw [List.drop_eq_getElem_cons hi, hx, subL] at q
        by_cases hc : x.args.length ≤ 65 - (bfsN e i).length
        · refine Or.inr ?_
          rw [List.take_of_length_le hc, List.drop_append_of_le_length (by omega), subL_app, List.length_append]
          have := subL_num x.args
          omega
        · refine Or.inl ⟨?_, ?_⟩
          · rw [List.length_append, List.length_take]; omega
          · have := len_numL x.args
            omega
theorem nodes_num (e : Ex) : (nodesX e).length = min 65 (numX e) := by
  have hle := bfs_len e 65
  unfold nodesX
  rcases bfs_num e 65 with ⟨q, q2⟩ | q
  · omega
  · rw [List.drop_eq_nil_of_le (by omega), subL] at q
    omega
/-- The document's many is the program's. -/
theorem many_cnt (e : Ex) : decide (64 < cntX e 0) = manyX e := by
  unfold manyX
  rw [nodes_num, cntX_num _ e (Nat.le_refl _) 0 (by omega), Nat.zero_add]
end Go.Proofs.YtingpmgpjmlioaaGreatDoor

namespace Go.Proofs.YtingpmgpjmlioaaGreatDoor
open Go.RowKit
set_option linter.unusedVariables false

mutual
/-- Kinds and numbers of arguments are right, everywhere. -/
def frmX : Ex → Bool
  | .mk k n s args => okX (.mk k n s args) && frmL args
def frmL : List Ex → Bool
  | [] => true
  | y :: r => frmX y && frmL r
end
theorem frmX_eq (x : Ex) : frmX x = (okX x && frmL x.args) := by cases x; rw [frmX]; rfl
theorem frmL_cons (y : Ex) (r : List Ex) : frmL (y :: r) = (frmX y && frmL r) := by rw [frmL]
theorem frmL_nil : frmL [] = true := by rw [frmL]

set_option maxRecDepth 20000 in
set_option maxHeartbeats 4000000 in
theorem rFormed_any {w0 : World} {x : Ex} {a : Option Addr} {c : Nat} (hat : ExAt w0 x a c) : ∀ w, Below w0.heap.size w0 w → Calls Tryz.prog 23 #[.agg (exV x a c)] w fun e w' => e = .returned (.bool (frmX x)) ∧ Below w.heap.size w w' := by
  induction hat with
  | mk x a c b off A C h1 h2 h3 hk hn hs hc hr ih =>
    intro w hw
    have hb1 : Below w.heap.size w (w.alloc (.cells (exV x a c) 44)) := (Below.refl _ _).alloc (Nat.le_refl _) _
    have hx1 : XBox (w.alloc (.cells (exV x a c) 44)) w.heap.size x a c := heap_alloc_new _ _
    obtain ⟨w1, hw1⟩ : ∃ w1, w1 = w.alloc (.cells (exV x a c) 44) := ⟨_, rfl⟩
    rw [← hw1] at hb1 hx1
    have HW := hide hw1
    have HB1 := hide hb1
    have m0 : ∀ m, (w1.drewN m).cell? ⟨w.heap.size, 0, none⟩ = some (.int .i64 x.kind) := fun m => ((hx1.below (below_drewN (Below.refl _ _) m) (Nat.le_refl _)).cells).1
    have m3 : ∀ m, (w1.drewN m).cell? ⟨w.heap.size, 3, none⟩ = some (.slice a x.args.length c) := fun m => ((hx1.below (below_drewN (Below.refl _ _) m) (Nat.le_refl _)).cells).2.2.2.1
    have HX1 : Hid (∀ W, Below w1.heap.size w1 W → W.cell? ⟨w.heap.size, 3, none⟩ = some (.slice a x.args.length c)) := hide (fun W hW => ((hx1.below hW (Nat.le_refl _)).cells).2.2.2.1)
    have HC : Hid (∀ i, (h : i < x.args.length) → a = some ⟨b, off, none⟩ ∧ ∀ W, Below w1.heap.size w1 W → W.cell? ⟨b, off + i * 4, none⟩ = some (.int .i64 x.args[i].kind) ∧ W.cell? ⟨b, off + i * 4 + 1, none⟩ = some (.int .i64 x.args[i].n) ∧ W.cell? ⟨b, off + i * 4 + 2, none⟩ = some (sv x.args[i].s) ∧ W.cell? ⟨b, off + i * 4 + 3, none⟩ = some (.slice (A i) x.args[i].args.length (C i))) := hide (fun i h => by
      refine ⟨(h3 (by omega)).1, fun W hW => ?_⟩
      have hb0 := hw.trans ((hb1.trans (hW.mono hb1.size)).mono hw.size)
      obtain ⟨q0, q1, q2, q3⟩ := hc i h
      exact ⟨kept hb0 q0, kept hb0 q1, kept hb0 q2, kept hb0 q3⟩)
    have HIH := hide (fun (i : Nat) (h : i < x.args.length) (W : World) (hW : Below w1.heap.size w1 W) => ih i h W (hw.trans ((hb1.trans (hW.mono hb1.size)).mono hw.size)))
    obtain ⟨AN, hAN⟩ : ∃ AN, AN = argsN x.kind := ⟨_, rfl⟩
    have HAr : Hid (∀ W, Calls Tryz.prog 73 #[.int .i64 x.kind] W fun e w' => e = .returned (.int .i64 AN) ∧ w' = W) := hide (fun W => by rw [hAN]; exact (rargs_any x.kind W).mono fun e w' h => ⟨h.1, h.2.symm⟩)
    have HOK : Hid (okX x = decide ((x.args.length : Int) = AN)) := hide (by rw [hAN]; rfl)
    obtain ⟨N, hN⟩ : ∃ N, N = x.args.length := ⟨_, rfl⟩
    have HN := hide hN
    rw [← hN] at HX1 h1 m3 HOK
    have HW' : Hid (w1 = w.alloc (.cells #[.int .i64 x.kind, .int .i64 x.n, sv x.s, .slice a N c] 44)) := hide (by rw [hN]; exact unhide HW)
    have harg : exV x a c = #[.int .i64 x.kind, .int .i64 x.n, sv x.s, .slice a N c] := by rw [hN]
    rw [harg]
    obtain ⟨R, hR⟩ : ∃ R, R = frmX x := ⟨_, rfl⟩
    rw [← hR]
    have HR : Hid (R = (okX x && frmL x.args)) := hide (by rw [hR, frmX_eq])
    clear hw hb1 hx1 hw1 hc hr ih hN HW harg hR h3 hk hn hs hAN
    go_enter Tryz.func23, Tryz.ntmps23
    go_upto_region 1 with fail
    rw [show w.alloc (.cells #[Value.int IntKind.i64 x.kind, .int .i64 x.n, sv x.s, .slice a N c] 44) = w1 from (unhide HW').symm]
    by_cases hok : (N : Int) = AN
    · have hne : ((N : Int) != AN) = false := by simpa using hok
      have HR2 : Hid (R = frmL x.args) := hide (by rw [unhide HR, unhide HOK, decide_eq_true hok, Bool.true_and])
      clear hok HR HOK
      go_quiet ((go_at_call 73; exact Calls.quiet_of_same (unhide HAr _)))
      go_wp2_with fail
      go_loopw [3] (fun i wr => ∃ (k : Nat), i = .int .i64 (k : Int) ∧ k ≤ N ∧ Hid (R = frmL (x.args.drop k)) ∧ Hid (Below w1.heap.size w1 wr)) (fun i _ => N - (intOf i).toNat)
      case atStart => exact ⟨0, rfl, by omega, hide (by simpa using unhide HR2), hide (below_drewN (Below.refl _ _) _)⟩
      case round =>
        obtain ⟨k, rfl, hkN, HA, HB⟩ := hrel
        have z3 := unhide HX1 wr (unhide HB)
        by_cases hlt : k < N
        · have hkl : k < x.args.length := by have := unhide HN; omega
          obtain ⟨ha, hcs⟩ := unhide HC k hkl
          obtain ⟨d0, d1, d2, d3⟩ := hcs wr (unhide HB)
          have HC4 := hide (unhide HIH k hkl wr (unhide HB))
          have HA2 : Hid (R = (frmX x.args[k] && frmL (x.args.drop (k + 1)))) := hide (by
            rw [unhide HA, List.drop_eq_getElem_cons hkl, frmL_cons])
          obtain ⟨y, hy⟩ : ∃ y, y = x.args[k] := ⟨_, rfl⟩
          rw [← hy] at d0 d1 d2 d3 HC4 HA2
          obtain ⟨Q, hQ⟩ : ∃ Q, Q = frmX y := ⟨_, rfl⟩
          rw [← hQ] at HC4 HA2
          subst ha
          clear hcs hy hQ m0 m3
          cases Q with
          | true =>
            have HA3 : Hid (R = frmL (x.args.drop (k + 1))) := hide (by rw [unhide HA2, Bool.true_and])
            go_wp2_with (go_at_call 23; refine (unhide HC4).mono ?_; rintro e w5 ⟨rfl, b5⟩; have HB5 := hide ((unhide HB).trans (b5.mono (unhide HB).size)); clear b5)
            go_roundw
            case rel => exact ⟨k + 1, by go_num, by omega, HA3, HB5⟩
            case measure => simp [intOf]; omega
          | false =>
            have HA3 : Hid (R = false) := hide (by rw [unhide HA2, Bool.false_and])
            go_wp2_with (go_at_call 23; refine (unhide HC4).mono ?_; rintro e w5 ⟨rfl, b5⟩; have HB5 := hide ((unhide HB).trans (b5.mono (unhide HB).size)); clear b5)
            go_ret
            exact ⟨by rw [unhide HA3]; rfl, (unhide HB1).trans ((unhide HB5).mono (unhide HB1).size)⟩
        · have HX : Hid (R = true) := hide (by rw [unhide HA, List.drop_eq_nil_of_le (by have := unhide HN; omega), frmL_nil])
          have hlt' : decide ((k : Int) < (N : Int)) = false := by simp; omega
          clear m0 m3
          go_wp2_with fail
          go_ret
          exact ⟨by rw [unhide HX]; rfl, (unhide HB1).trans ((unhide HB).mono (unhide HB1).size)⟩
    · have hne : ((N : Int) != AN) = true := by simpa using hok
      have HR2 : Hid (R = false) := hide (by rw [unhide HR, unhide HOK, decide_eq_false hok, Bool.false_and])
      clear hok HR HOK
      go_quiet ((go_at_call 73; exact Calls.quiet_of_same (unhide HAr _)))
      go_wp2
      go_ret
      exact ⟨by rw [unhide HR2]; rfl, below_drewN (unhide HB1) _⟩

/-- Formed, plain. -/
theorem frm_iff : ∀ (k : Nat) (x : Ex), SizeOf.sizeOf x ≤ k → (frmX x = true ↔ Formed x) := by
  intro k
  induction k with
  | zero => intro x hx; cases x; simp only [Ex.mk.sizeOf_spec] at hx; omega
  | succ k ih =>
    intro x hx
    have hl : ∀ l : List Ex, (∀ y ∈ l, SizeOf.sizeOf y ≤ k) → (frmL l = true ↔ ∀ y ∈ l, Formed y) := by
      intro l
      induction l with
      | nil => intro _; rw [frmL_nil]; simp
      | cons y r ih2 =>
        intro h
        rw [frmL_cons, Bool.and_eq_true, ih y (h y (by simp)), ih2 (fun z hz => h z (by simp [hz]))]
        simp
    rw [frmX_eq, Bool.and_eq_true, hl x.args (fun y hy => by have := args_lt hy; omega)]
    constructor
    · rintro ⟨q1, q2⟩; exact .mk x q1 q2
    · rintro ⟨_, q1, q2⟩; exact ⟨q1, q2⟩
end Go.Proofs.YtingpmgpjmlioaaGreatDoor

namespace Go.Proofs.YtingpmgpjmlioaaGreatDoor
open Go.RowKit
set_option linter.unusedVariables false

/-- A value is less, by the document. -/
def lessP (f g : Fld) : Bool := if f.text then Op.bytesLess f.s g.s else decide (f.n < g.n)

theorem less_cmp : ∀ a b : List UInt8, Op.bytesLess a b = decide (Lib.compareBytes a b < 0)
  | [], [] => by simp [Op.bytesLess, Lib.compareBytes]
  | [], _ :: _ => by simp [Op.bytesLess, Lib.compareBytes]
  | _ :: _, [] => by simp [Op.bytesLess, Lib.compareBytes]
  | x :: a, y :: b => by
    have ih := less_cmp a b
    rw [Op.bytesLess, Lib.compareBytes, ih]
    by_cases h1 : x < y
    · simp [h1]
    · by_cases h2 : y < x
      · have hne : x ≠ y := by rintro rfl; exact h1 h2
        simp [h1, h2, hne]
      · have he : x = y := by
          apply UInt8.toNat_inj.1
          rw [UInt8.lt_iff_toNat_lt] at h1 h2
          omega
        subst he
        simp [h1]
theorem less_turn : ∀ a b : List UInt8, (!Op.bytesLess b a) = decide (Lib.compareBytes a b ≤ 0)
  | [], [] => by simp [Op.bytesLess, Lib.compareBytes]
  | [], _ :: _ => by simp [Op.bytesLess, Lib.compareBytes]
  | _ :: _, [] => by simp [Op.bytesLess, Lib.compareBytes]
  | x :: a, y :: b => by
    have ih := less_turn a b
    rw [Op.bytesLess, Lib.compareBytes]
    by_cases h1 : x < y
    · have h2 : ¬ y < x := by
        rw [UInt8.lt_iff_toNat_lt] at h1 ⊢
        omega
      have hne : y ≠ x := by rintro rfl; exact h2 h1
      simp [h1, h2, hne]
    · by_cases h2 : y < x
      · simp [h1, h2]
      · have he : x = y := by
          apply UInt8.toNat_inj.1
          rw [UInt8.lt_iff_toNat_lt] at h1 h2
          omega
        subst he
        simp [h1, ← ih]
/-- The document's two ways of less are the program's. -/
theorem lessP_cmp (f g : Fld) (h : f.text = g.text) : cmpR 2 f g = .ok (lessP f g) ∧ cmpR 3 f g = .ok (!lessP g f) := by
  unfold cmpR lessP
  rw [← h]
  cases f.text with
  | true => exact ⟨by simp [less_cmp], by simp [← less_turn]⟩
  | false =>
    refine ⟨?_, ?_⟩
    · simp only [cmpZ]
      by_cases q : f.n < g.n
      · simp [q]
      · by_cases q2 : g.n < f.n <;> simp [q, q2]
    · simp only [cmpZ]
      by_cases q : f.n < g.n
      · have : ¬ g.n < f.n := by omega
        simp [q, this]
      · by_cases q2 : g.n < f.n <;> simp [q, q2]
end Go.Proofs.YtingpmgpjmlioaaGreatDoor

namespace Go.Proofs.YtingpmgpjmlioaaGreatDoor
open Go.RowKit
set_option linter.unusedVariables false

/-- A text is no longer than 200 bytes. -/
def shortX (x : Ex) : Bool := !(decide (x.kind = 2) && decide (200 < x.s.length))
mutual
/-- All texts are short enough. -/
def shrX : Ex → Bool
  | .mk k n s args => shortX (.mk k n s args) && shrL args
def shrL : List Ex → Bool
  | [] => true
  | y :: r => shrX y && shrL r
end
theorem shrX_eq (x : Ex) : shrX x = (shortX x && shrL x.args) := by cases x; rw [shrX]; rfl
theorem shrL_cons (y : Ex) (r : List Ex) : shrL (y :: r) = (shrX y && shrL r) := by rw [shrL]
theorem shrL_nil : shrL [] = true := by rw [shrL]

set_option maxRecDepth 20000 in
set_option maxHeartbeats 4000000 in
theorem rshort_any {w0 : World} {x : Ex} {a : Option Addr} {c : Nat} (hat : ExAt w0 x a c) : ∀ w, Below w0.heap.size w0 w → Calls Tryz.prog 24 #[.agg (exV x a c)] w fun e w' => e = .returned (.bool (shrX x)) ∧ Below w.heap.size w w' := by
  induction hat with
  | mk x a c b off A C h1 h2 h3 hk hn hs hc hr ih =>
    intro w hw
    have hb1 : Below w.heap.size w (w.alloc (.cells (exV x a c) 44)) := (Below.refl _ _).alloc (Nat.le_refl _) _
    have hx1 : XBox (w.alloc (.cells (exV x a c) 44)) w.heap.size x a c := heap_alloc_new _ _
    obtain ⟨w1, hw1⟩ : ∃ w1, w1 = w.alloc (.cells (exV x a c) 44) := ⟨_, rfl⟩
    rw [← hw1] at hb1 hx1
    have HW := hide hw1
    have HB1 := hide hb1
    have m0 : w1.cell? ⟨w.heap.size, 0, none⟩ = some (.int .i64 x.kind) := (hx1.cells).1
    have m2 : w1.cell? ⟨w.heap.size, 2, none⟩ = some (sv x.s) := (hx1.cells).2.2.1
    have HX1 : Hid (∀ W, Below w1.heap.size w1 W → W.cell? ⟨w.heap.size, 3, none⟩ = some (.slice a x.args.length c)) := hide (fun W hW => ((hx1.below hW (Nat.le_refl _)).cells).2.2.2.1)
    have HC : Hid (∀ i, (h : i < x.args.length) → a = some ⟨b, off, none⟩ ∧ ∀ W, Below w1.heap.size w1 W → W.cell? ⟨b, off + i * 4, none⟩ = some (.int .i64 x.args[i].kind) ∧ W.cell? ⟨b, off + i * 4 + 1, none⟩ = some (.int .i64 x.args[i].n) ∧ W.cell? ⟨b, off + i * 4 + 2, none⟩ = some (sv x.args[i].s) ∧ W.cell? ⟨b, off + i * 4 + 3, none⟩ = some (.slice (A i) x.args[i].args.length (C i))) := hide (fun i h => by
      refine ⟨(h3 (by omega)).1, fun W hW => ?_⟩
      have hb0 := hw.trans ((hb1.trans (hW.mono hb1.size)).mono hw.size)
      obtain ⟨q0, q1, q2, q3⟩ := hc i h
      exact ⟨kept hb0 q0, kept hb0 q1, kept hb0 q2, kept hb0 q3⟩)
    have HIH := hide (fun (i : Nat) (h : i < x.args.length) (W : World) (hW : Below w1.heap.size w1 W) => ih i h W (hw.trans ((hb1.trans (hW.mono hb1.size)).mono hw.size)))
    have HOK : Hid (shortX x = !(decide (x.kind = 2) && decide (200 < x.s.length))) := hide rfl
    obtain ⟨N, hN⟩ : ∃ N, N = x.args.length := ⟨_, rfl⟩
    have HN := hide hN
    rw [← hN] at HX1 h1
    have HW' : Hid (w1 = w.alloc (.cells #[.int .i64 x.kind, .int .i64 x.n, sv x.s, .slice a N c] 44)) := hide (by rw [hN]; exact unhide HW)
    have harg : exV x a c = #[.int .i64 x.kind, .int .i64 x.n, sv x.s, .slice a N c] := by rw [hN]
    rw [harg]
    obtain ⟨R, hR⟩ : ∃ R, R = shrX x := ⟨_, rfl⟩
    rw [← hR]
    have HR : Hid (R = (shortX x && shrL x.args)) := hide (by rw [hR, shrX_eq])
    clear hw hb1 hx1 hw1 hc hr ih hN HW harg hR h3 hk hn hs
    go_enter Tryz.func24, Tryz.ntmps24
    go_upto_region 1 with fail
    rw [show w.alloc (.cells #[Value.int IntKind.i64 x.kind, .int .i64 x.n, sv x.s, .slice a N c] 44) = w1 from (unhide HW').symm]
    obtain ⟨z, hz⟩ : ∃ z, z = x.s.length := ⟨_, rfl⟩
    have hlen : (⟨x.s.toArray⟩ : ByteArray).size = z := by rw [hz]; simp [ByteArray.size]
    rw [← hz] at HOK
    by_cases hk2 : x.kind = 2
    · by_cases hl2 : 200 < z
      · have HR2 : Hid (R = false) := hide (by rw [unhide HR, unhide HOK, decide_eq_true hk2, decide_eq_true hl2]; rfl)
        have hl3 : (200 : Int) < (z : Int) := by omega
        rw [hk2] at m0; clear hk2
        clear HR HOK hz
        go_wp2_with fail
        go_ret
        exact ⟨by rw [unhide HR2]; rfl, unhide HB1⟩
      · have HR2 : Hid (R = shrL x.args) := hide (by rw [unhide HR, unhide HOK, decide_eq_false hl2, Bool.and_false, Bool.not_false, Bool.true_and])
        have hl3 : decide ((200 : Int) < (z : Int)) = false := by simp; omega
        rw [hk2] at m0; clear hk2
        clear HR HOK hz hl2
        go_wp2_with fail
        clear m0 m2 hl3 hlen
        go_loopw [3] (fun i wr => ∃ (k : Nat), i = .int .i64 (k : Int) ∧ k ≤ N ∧ Hid (R = shrL (x.args.drop k)) ∧ Hid (Below w1.heap.size w1 wr)) (fun i _ => N - (intOf i).toNat)
        case atStart => exact ⟨0, rfl, by omega, hide (by simpa using unhide HR2), hide (Below.refl _ _)⟩
        case round =>
          obtain ⟨k, rfl, hkN, HA, HB⟩ := hrel
          have z3 := unhide HX1 wr (unhide HB)
          by_cases hlt : k < N
          · have hkl : k < x.args.length := by have := unhide HN; omega
            obtain ⟨ha, hcs⟩ := unhide HC k hkl
            obtain ⟨d0, d1, d2, d3⟩ := hcs wr (unhide HB)
            have HC4 := hide (unhide HIH k hkl wr (unhide HB))
            have HA2 : Hid (R = (shrX x.args[k] && shrL (x.args.drop (k + 1)))) := hide (by
              rw [unhide HA, List.drop_eq_getElem_cons hkl, shrL_cons])
            obtain ⟨y, hy⟩ : ∃ y, y = x.args[k] := ⟨_, rfl⟩
            rw [← hy] at d0 d1 d2 d3 HC4 HA2
            obtain ⟨Q, hQ⟩ : ∃ Q, Q = shrX y := ⟨_, rfl⟩
            rw [← hQ] at HC4 HA2
            subst ha
            clear hcs hy hQ
            cases Q with
            | true =>
              have HA3 : Hid (R = shrL (x.args.drop (k + 1))) := hide (by rw [unhide HA2, Bool.true_and])
              go_wp2_with (go_at_call 24; refine (unhide HC4).mono ?_; rintro e w5 ⟨rfl, b5⟩; have HB5 := hide ((unhide HB).trans (b5.mono (unhide HB).size)); clear b5)
              go_roundw
              case rel => exact ⟨k + 1, by go_num, by omega, HA3, HB5⟩
              case measure => simp [intOf]; omega
            | false =>
              have HA3 : Hid (R = false) := hide (by rw [unhide HA2, Bool.false_and])
              go_wp2_with (go_at_call 24; refine (unhide HC4).mono ?_; rintro e w5 ⟨rfl, b5⟩; have HB5 := hide ((unhide HB).trans (b5.mono (unhide HB).size)); clear b5)
              go_ret
              exact ⟨by rw [unhide HA3]; rfl, (unhide HB1).trans ((unhide HB5).mono (unhide HB1).size)⟩
          · have HX : Hid (R = true) := hide (by rw [unhide HA, List.drop_eq_nil_of_le (by have := unhide HN; omega), shrL_nil])
            have hlt' : decide ((k : Int) < (N : Int)) = false := by simp; omega
            go_wp2_with fail
            go_ret
            exact ⟨by rw [unhide HX]; rfl, (unhide HB1).trans ((unhide HB).mono (unhide HB1).size)⟩
    · have HR2 : Hid (R = shrL x.args) := hide (by rw [unhide HR, unhide HOK, decide_eq_false hk2, Bool.false_and, Bool.not_false, Bool.true_and])
      have hk3 : (x.kind == 2) = false := by simpa using hk2
      clear HR HOK hz
      go_wp2_with fail
      clear m0 m2
      go_loopw [3] (fun i wr => ∃ (k : Nat), i = .int .i64 (k : Int) ∧ k ≤ N ∧ Hid (R = shrL (x.args.drop k)) ∧ Hid (Below w1.heap.size w1 wr)) (fun i _ => N - (intOf i).toNat)
      case atStart => exact ⟨0, rfl, by omega, hide (by simpa using unhide HR2), hide (Below.refl _ _)⟩
      case round =>
        obtain ⟨k, rfl, hkN, HA, HB⟩ := hrel
        have z3 := unhide HX1 wr (unhide HB)
        by_cases hlt : k < N
        · have hkl : k < x.args.length := by have := unhide HN; omega
          obtain ⟨ha, hcs⟩ := unhide HC k hkl
          obtain ⟨d0, d1, d2, d3⟩ := hcs wr (unhide HB)
          have HC4 := hide (unhide HIH k hkl wr (unhide HB))
          have HA2 : Hid (R = (shrX x.args[k] && shrL (x.args.drop (k + 1)))) := hide (by
            rw [unhide HA, List.drop_eq_getElem_cons hkl, shrL_cons])
          obtain ⟨y, hy⟩ : ∃ y, y = x.args[k] := ⟨_, rfl⟩
          rw [← hy] at d0 d1 d2 d3 HC4 HA2
          obtain ⟨Q, hQ⟩ : ∃ Q, Q = shrX y := ⟨_, rfl⟩
          rw [← hQ] at HC4 HA2
          subst ha
          clear hcs hy hQ
          cases Q with
          | true =>
            have HA3 : Hid (R = shrL (x.args.drop (k + 1))) := hide (by rw [unhide HA2, Bool.true_and])
            go_wp2_with (go_at_call 24; refine (unhide HC4).mono ?_; rintro e w5 ⟨rfl, b5⟩; have HB5 := hide ((unhide HB).trans (b5.mono (unhide HB).size)); clear b5)
            go_roundw
            case rel => exact ⟨k + 1, by go_num, by omega, HA3, HB5⟩
            case measure => simp [intOf]; omega
          | false =>
            have HA3 : Hid (R = false) := hide (by rw [unhide HA2, Bool.false_and])
            go_wp2_with (go_at_call 24; refine (unhide HC4).mono ?_; rintro e w5 ⟨rfl, b5⟩; have HB5 := hide ((unhide HB).trans (b5.mono (unhide HB).size)); clear b5)
            go_ret
            exact ⟨by rw [unhide HA3]; rfl, (unhide HB1).trans ((unhide HB5).mono (unhide HB1).size)⟩
        · have HX : Hid (R = true) := hide (by rw [unhide HA, List.drop_eq_nil_of_le (by have := unhide HN; omega), shrL_nil])
          have hlt' : decide ((k : Int) < (N : Int)) = false := by simp; omega
          go_wp2_with fail
          go_ret
          exact ⟨by rw [unhide HX]; rfl, (unhide HB1).trans ((unhide HB).mono (unhide HB1).size)⟩
end Go.Proofs.YtingpmgpjmlioaaGreatDoor
