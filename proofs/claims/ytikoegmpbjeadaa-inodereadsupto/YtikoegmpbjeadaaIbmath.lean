/-
  DERIVED. What a node is told as is read as that node, plainly.
-/
import Derived.Test.YtikoegmpbjeadaaIread3
import Derived.Test.YtikoegmpbjeadaaMath3
namespace Go.Proofs.Ytikoegmpbjeadaa
open Go.RowKit
set_option linter.unusedVariables false

def layNs (xs : List Nat) : List UInt8 := xs.flatMap lay
theorem nums_lay : ∀ (xs : List Nat) (r : List UInt8), (∀ x ∈ xs, x ≤ 32768) → nums xs.length (layNs xs ++ r) = some (xs, r)
  | [], r, _ => by simp [nums, layNs]
  | x :: xs, r, h => by
    have hx := h x (List.mem_cons_self ..)
    have ih := nums_lay xs r fun y hy => h y (List.mem_cons_of_mem _ hy)
    have e : layNs (x :: xs) ++ r = lay x ++ (layNs xs ++ r) := by simp [layNs]
    have hrd := rd_lay x (by omega) (layNs xs ++ r)
    rw [e, List.length_cons, nums, hrd]
    simp only
    rw [if_pos ⟨by first | rfl | trivial, hx⟩, List.drop_left, ih]
    rfl
def flatX (X : List (Nat × Nat)) : List Nat := X.flatMap fun x => [x.1, x.2]
theorem flatX_cons (x : Nat × Nat) (X : List (Nat × Nat)) : flatX (x :: X) = x.1 :: x.2 :: flatX X := by simp [flatX]
theorem flatX_len : ∀ X : List (Nat × Nat), (flatX X).length = 2 * X.length
  | [] => rfl
  | x :: X => by rw [flatX_cons, List.length_cons, List.length_cons, flatX_len X, List.length_cons]; omega
theorem layNs_flat : ∀ X : List (Nat × Nat), layNs (flatX X) = layR X
  | [] => rfl
  | x :: X => by
    have ih := layNs_flat X
    unfold layNs at ih ⊢
    rw [flatX_cons, List.flatMap_cons, List.flatMap_cons, ih]
    simp [layR]
theorem pairs_flat : ∀ X : List (Nat × Nat), pairs (flatX X) = X
  | [] => rfl
  | x :: X => by rw [flatX_cons, pairs, pairs_flat X]
theorem flatX_mem {X : List (Nat × Nat)} (h : ∀ x ∈ X, x.1 + x.2 ≤ 512) : ∀ y ∈ flatX X, y ≤ 32768 := by
  intro y hy
  unfold flatX at hy
  rw [List.mem_flatMap] at hy
  obtain ⟨x, hx, hy⟩ := hy
  have := h x hx
  rcases List.mem_cons.1 hy with rfl | hy
  · omega
  · rcases List.mem_cons.1 hy with rfl | hy
    · omega
    · cases hy
theorem prt_tell (n : Nat) (L : List Nat) (r : List UInt8) (hn : n ≤ 32768) (hl : L.length = bf n) (hw : low L) : prt (tellN n L ++ r) = some (n, canon L, r) := by
  have hb := bf_le hn
  have hc := canon_len L
  have e : tellN n L ++ r = layNs [n, (canon L).length] ++ (layR (canon L) ++ r) := by simp [tellN, layNs]
  have h1 := nums_lay [n, (canon L).length] (layR (canon L) ++ r) (fun x hx => by
    rcases List.mem_cons.1 hx with rfl | hx
    · exact hn
    · rcases List.mem_cons.1 hx with rfl | hx
      · omega
      · cases hx)
  have h2 := nums_lay (flatX (canon L)) r (flatX_mem fun x hx => ((low_canon hw) x hx).2)
  rw [flatX_len, layNs_flat] at h2
  unfold prt
  rw [e]
  rw [show ([n, (canon L).length] : List Nat).length = 2 from rfl] at h1
  rw [h1]
  simp only
  rw [show 2 * [n, (canon L).length].getD 1 0 = 2 * (canon L).length from rfl, h2]
  simp [pairs_flat]
theorem rdN_tell (n : Nat) (L : List Nat) (r : List UInt8) (hn : n ≤ 32768) (hl : L.length = bf n) (hw : low L) : rdN (tellN n L ++ r) = some (n, L, (tellN n L).length) := by
  unfold rdN
  rw [prt_tell n L r hn hl hw]
  simp only
  rw [bks_canon, if_pos ⟨okL_of _ (fun y hy => low_canon hw y hy) _ (by rw [tot_canon, hl]), List.take_left⟩]
end Go.Proofs.Ytikoegmpbjeadaa
