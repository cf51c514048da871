/-
  DERIVED. What an expression's value is: plain.
-/
import Derived.Test.YtingpmgpjmlioaaGreatDoorRuS
import Derived.Test.YtingpmgpjmlioaaGreatDoorShbm
namespace Go.Proofs.YtingpmgpjmlioaaGreatDoor
open Go.RowKit
set_option linter.unusedVariables false

/-- A node's value, its Args' values at hand. -/
def opX (S : Sc) (k n : Int) (s : List UInt8) (fs : List Fld) : Except Int Fld :=
  if k = 1 then .ok ⟨[], false, n, []⟩
  else if k = 2 then .ok ⟨[], true, 0, s⟩
  else if k = 3 ∨ k = 4 then (if hasF (if k = 3 then S.state else S.given) s then .ok ⟨[], (getA (if k = 3 then S.state else S.given) s).text, (getA (if k = 3 then S.state else S.given) s).n, (getA (if k = 3 then S.state else S.given) s).s⟩ else .error 133)
  else if k = 5 then .ok ⟨[], true, 0, S.stream⟩
  else match fs with
    | [] => .error 0
    | a :: r =>
      if k = 10 then (if a.text then .ok ⟨[], false, a.s.length, []⟩ else .error 134)
      else if k = 11 then (if a.text then .error 134 else .ok ⟨[], true, 0, Lib.itoa a.n⟩)
      else match r with
        | [] => .error 0
        | b :: _ =>
          if k = 9 then (if a.text && b.text then (if 200 < a.s.length + b.s.length then .error 135 else .ok ⟨[], true, 0, a.s ++ b.s⟩) else .error 134)
          else if a.text || b.text then .error 134 else (if inB (opZ k a.n b.n) then .ok ⟨[], false, opZ k a.n b.n, []⟩ else .error 135)

mutual
/-- An expression's value. -/
def evalX (S : Sc) : Ex → Except Int Fld
  | .mk k n s args => match evalL S args with
    | .error e => .error e
    | .ok fs => opX S k n s fs
def evalL (S : Sc) : List Ex → Except Int (List Fld)
  | [] => .ok []
  | x :: r => match evalX S x with
    | .error e => .error e
    | .ok f => match evalL S r with
      | .error e => .error e
      | .ok fs => .ok (f :: fs)
end
theorem evalX_eq (S : Sc) (x : Ex) : evalX S x = match evalL S x.args with
    | .error e => .error e
    | .ok fs => opX S x.kind x.n x.s fs := by
  cases x; rw [evalX]; rfl
theorem evalL_cons (S : Sc) (x : Ex) (r : List Ex) : evalL S (x :: r) = match evalX S x with
    | .error e => .error e
    | .ok f => match evalL S r with
      | .error e => .error e
      | .ok fs => .ok (f :: fs) := by rw [evalL]
theorem evalL_snoc (S : Sc) : ∀ (l : List Ex) (x : Ex) {fs : List Fld}, evalL S l = .ok fs → evalL S (l ++ [x]) = match evalX S x with
    | .error e => .error e
    | .ok f => .ok (fs ++ [f])
  | [], x, fs, h => by
    rw [evalL] at h
    cases h
    show evalL S [x] = _
    rw [evalL_cons]
    cases evalX S x with
    | error e => rfl
    | ok f => simp [evalL]
  | y :: r, x, fs, h => by
    rw [evalL_cons] at h
    show evalL S (y :: (r ++ [x])) = _
    rw [evalL_cons]
    cases hy : evalX S y with
    | error e => rw [hy] at h; cases h
    | ok f =>
      rw [hy] at h
      simp only at h ⊢
      cases hr : evalL S r with
      | error e => rw [hr] at h; cases h
      | ok gs =>
        rw [hr] at h
        simp only at h
        cases h
        rw [evalL_snoc S r x hr]
        cases evalX S x <;> rfl
theorem evalL_stop (S : Sc) : ∀ (l : List Ex) (x : Ex) (r : List Ex) {fs : List Fld} {e : Int}, evalL S l = .ok fs → evalX S x = .error e → evalL S (l ++ x :: r) = .error e
  | [], x, r, fs, e, h, hx => by
    show evalL S (x :: r) = _
    rw [evalL_cons, hx]
  | y :: l, x, r, fs, e, h, hx => by
    rw [evalL_cons] at h
    show evalL S (y :: (l ++ x :: r)) = _
    rw [evalL_cons]
    cases hy : evalX S y with
    | error e' => rw [hy] at h; cases h
    | ok f =>
      rw [hy] at h
      simp only at h ⊢
      cases hr : evalL S l with
      | error e' => rw [hr] at h; cases h
      | ok gs => rw [evalL_stop S l x r hr hx]
theorem evalL_len (S : Sc) : ∀ (l : List Ex) {fs : List Fld}, evalL S l = .ok fs → fs.length = l.length
  | [], fs, h => by rw [evalL] at h; cases h; rfl
  | y :: l, fs, h => by
    rw [evalL_cons] at h
    cases hy : evalX S y with
    | error e' => rw [hy] at h; cases h
    | ok f =>
      rw [hy] at h
      simp only at h
      cases hr : evalL S l with
      | error e' => rw [hr] at h; cases h
      | ok gs =>
        rw [hr] at h
        simp only at h
        cases h
        simp [evalL_len S l hr]

/-- All nodes have as many Args as their kinds. -/
inductive Formed : Ex → Prop
  | mk (x : Ex) (h : okX x = true) (hr : ∀ y ∈ x.args, Formed y) : Formed x

theorem args_lt {x y : Ex} (h : y ∈ x.args) : SizeOf.sizeOf y < SizeOf.sizeOf x := by
  obtain ⟨k, n, s, args⟩ := x
  have h' : y ∈ args := h
  have := List.sizeOf_lt_of_mem h'
  simp only [Ex.mk.sizeOf_spec]
  omega

/-- A well-formed expression's nodes are all gathered. -/
theorem bfs_mono (e : Ex) : ∀ (i j : Nat), ∃ t, bfsN e (i + j) = bfsN e i ++ t
  | i, 0 => ⟨[], by simp⟩
  | i, j + 1 => by
    obtain ⟨t, ht⟩ := bfs_mono e i j
    rw [← Nat.add_assoc, bfsN]
    split
    · exact ⟨t ++ _, by rw [ht, List.append_assoc]⟩
    · exact ⟨t, ht⟩
theorem bfs_args {e : Ex} (hl : (nodesX e).length ≤ 64) {i : Nat} {x : Ex} (h : (nodesX e)[i]? = some x) : ∀ y ∈ x.args, y ∈ nodesX e := by
  have hi := (List.getElem?_eq_some_iff.1 h).1
  obtain ⟨t, ht⟩ := bfs_mono e i (65 - i)
  rw [show i + (65 - i) = 65 by omega] at ht
  obtain ⟨u, hu⟩ := bfs_mono e (i + 1) (65 - (i + 1))
  rw [show i + 1 + (65 - (i + 1)) = 65 by omega] at hu
  have hti : (bfsN e i).length ≤ (nodesX e).length := by unfold nodesX; rw [ht]; simp
  -- the node stands in the i-th list already, or the i-th list is the last one
  by_cases hb : i < (bfsN e i).length
  · have hx : (bfsN e i)[i]? = some x := by
      unfold nodesX at h
      rw [ht, List.getElem?_append_left hb] at h
      exact h
    have hs := bfs_some hx
    intro y hy
    have hc : x.args.take (65 - (bfsN e i).length) = x.args := by
      refine List.take_of_length_le ?_
      have h1 : (bfsN e (i + 1)).length ≤ (nodesX e).length := by unfold nodesX; rw [hu]; simp
      rw [hs, List.length_append, List.length_take] at h1
      omega
    unfold nodesX
    rw [hu, hs, hc]
    simp [hy]
  · have := bfs_stop (e := e) (i := i) (by omega) (65 - i)
    rw [show i + (65 - i) = 65 by omega] at this
    unfold nodesX at hi
    rw [this] at hi
    omega
theorem formed_of {e : Ex} (h : formX e = true) : Formed e := by
  unfold formX at h
  rw [Bool.and_eq_true, decide_eq_true_eq] at h
  obtain ⟨h1, h2⟩ := h
  have key : ∀ n, ∀ x, SizeOf.sizeOf x ≤ n → x ∈ nodesX e → Formed x := by
    intro n
    induction n with
    | zero => intro x hx _; cases x; simp only [Ex.mk.sizeOf_spec] at hx; omega
    | succ n ih =>
      intro x hx hm
      obtain ⟨i, hi⟩ := List.mem_iff_getElem?.1 hm
      refine .mk x (List.all_eq_true.1 h1 x hm) fun y hy => ih y ?_ (bfs_args h2 hi y hy)
      have := args_lt hy
      omega
  refine key _ e (Nat.le_refl _) ?_
  obtain ⟨t, ht⟩ := bfs_mono e 0 65
  unfold nodesX
  rw [Nat.zero_add] at ht
  rw [ht]
  simp [bfsN]
end Go.Proofs.YtingpmgpjmlioaaGreatDoor
