/-
  DERIVED. The walks of check and newer.
-/
import Derived.Test.YtbgaomfoiooegaaSunlay
import Derived.Test.YtbgaomfoiooegaaDread
namespace Go.Proofs.Ytbgaomfoiooegaa
open Go.RowKit
set_option linter.unusedVariables false

theorem check_nil (at_ : Int) (v : Value) (w : World) : Calls Try.prog 23 #[.pointer none, .int .i64 at_, v] w fun e w' => e = .returned (.int .i64 1) ∧ w = w' := by
  go_enter Try.func23, Try.ntmps23
  go_wp2
  go_ret
  exact ⟨rfl, rfl⟩

/-- Which of two slots was written last. -/
def newR (s t : Slot) : Nat := if t.laid = true ∧ (s.laid = false ∨ (0 < (t.turn - s.turn : Int) % 4294967296 ∧ (t.turn - s.turn : Int) % 4294967296 < 2147483648)) then 1 else 0
abbrev twoC (s t : Slot) (a b : Value) : Array Value := #[.bool s.laid, .int .u32 (s.turn : Nat), .int .i64 s.count, a, .bool t.laid, .int .u32 (t.turn : Nat), .int .i64 t.count, b]

set_option maxHeartbeats 1000000 in
theorem follows_any (s t : Slot) (a b : Value) (g : Nat) (w : World) (h : w.heap[g]? = some (.cells (twoC s t a b) 62 (0, 0))) :
    Calls Try.prog 39 #[.int .i64 1, .int .i64 0, .pointer (some ⟨g, 0, none⟩)] w fun e w' => e = .returned (.bool (newR s t == 1)) ∧ ∀ B, Below B w w' := by
  have c0 : w.cell? ⟨g, 0, none⟩ = some (.bool s.laid) := by simp [World.cell?, h]
  have c1 : w.cell? ⟨g, 1, none⟩ = some (.int .u32 (s.turn : Nat)) := by simp [World.cell?, h]
  have c4 : w.cell? ⟨g, 4, none⟩ = some (.bool t.laid) := by simp [World.cell?, h]
  have c5 : w.cell? ⟨g, 5, none⟩ = some (.int .u32 (t.turn : Nat)) := by simp [World.cell?, h]
  clear h
  cases hs : s.laid <;> cases ht : t.laid <;> rw [hs] at c0 <;> rw [ht] at c4
  · have e : (newR s t == 1) = false := by unfold newR; rw [hs, ht]; simp
    rw [e]
    go_enter Try.func39, Try.ntmps39
    go_wp2
    go_quiet (fail)
    go_wp2
    go_ret
    exact ⟨rfl, fun B => below_drewN (Below.refl _ _) _⟩
  · have e : (newR s t == 1) = true := by unfold newR; rw [hs, ht]; simp
    rw [e]
    go_enter Try.func39, Try.ntmps39
    go_wp2
    go_quiet (fail)
    go_wp2
    go_ret
    exact ⟨rfl, fun B => below_drewN (Below.refl _ _) _⟩
  · have e : (newR s t == 1) = false := by unfold newR; rw [hs, ht]; simp
    rw [e]
    go_enter Try.func39, Try.ntmps39
    go_wp2
    go_quiet (fail)
    go_wp2
    go_ret
    exact ⟨rfl, fun B => below_drewN (Below.refl _ _) _⟩
  · have HE : Hid (decide (0 < wrap32 (((t.turn : Int) - (s.turn : Int)) % 4294967296)) = (newR s t == 1)) := hide (by
      unfold newR
      rw [hs, ht]
      have hx : 0 ≤ ((t.turn : Int) - (s.turn : Int)) % 4294967296 ∧ ((t.turn : Int) - (s.turn : Int)) % 4294967296 < 4294967296 := by omega
      generalize ((t.turn : Int) - (s.turn : Int)) % 4294967296 = x at hx ⊢
      by_cases h : 0 < x ∧ x < 2147483648
      · rw [if_pos (by simpa using h)]
        simp [wrap32]
        omega
      · rw [if_neg (by simpa using h)]
        simp [wrap32]
        omega)
    go_enter Try.func39, Try.ntmps39
    go_wp2
    go_quiet (fail)
    go_wp2
    go_ret
    exact ⟨by rw [unhide HE]; rfl, fun B => below_drewN (Below.refl _ _) _⟩

set_option maxHeartbeats 1000000 in
theorem newer_any (s t : Slot) (a b : Value) (w : World) : Calls Try.prog 26 #[.agg (twoC s t a b)] w fun e w' => e = .returned (.int .i64 (newR s t : Nat)) ∧ Below w.heap.size w w' := by
  have HW := hide (fun o => ((Below.refl w.heap.size w).alloc (Nat.le_refl _) o))
  by_cases h : newR s t = 1
  · have hq : (newR s t == 1) = true := by rw [h]; rfl
    go_enter Try.func26, Try.ntmps26
    go_wp2_with fail
    refine (follows_any s t a b w.heap.size _ (heap_alloc_self _ _)).mono ?_
    rintro e w1 ⟨rfl, b1⟩
    have HB := hide ((unhide HW _).trans (b1 _))
    clear b1
    go_wp2
    go_ret
    exact ⟨by rw [h]; rfl, unhide HB⟩
  · have hq : (newR s t == 1) = false := by simpa using h
    have h0 : newR s t = 0 := by unfold newR at h ⊢; split at h <;> simp_all
    go_enter Try.func26, Try.ntmps26
    go_wp2_with fail
    refine (follows_any s t a b w.heap.size _ (heap_alloc_self _ _)).mono ?_
    rintro e w1 ⟨rfl, b1⟩
    have HB := hide ((unhide HW _).trans (b1 _))
    clear b1
    go_wp2
    go_ret
    exact ⟨by rw [h0]; rfl, unhide HB⟩

section
variable {w : World} {b : Nat} {pm : Value} {fused : Bool} {fuse : Int} {down : Bool} {ops : Int} {a : Option Addr} {n c : Nat}
/-- What check says. -/
def chkE (n : Nat) (at_ : Int) (l : Nat) : Int := if at_ < 0 ∨ at_ > (n : Int) - 2 then 20 else if 400 < l then 31 else 0
set_option maxHeartbeats 1000000 in
theorem check_dev (at_ : Int) (x : Option Addr) (l q : Nat) (h : DevAt w b (.slice a n c) pm fused fuse down ops) (hn : n ≤ 512) :
    Calls Try.prog 23 #[.pointer (some ⟨b, 0, none⟩), .int .i64 at_, .slice x l q] w fun e w' => e = .returned (.int .i64 (chkE n at_ l)) ∧ ∀ B, Below B w w' := by
  have HD := hide h
  clear h
  unfold chkE
  by_cases h1 : at_ < 0
  · rw [if_pos (.inl h1)]
    go_enter Try.func23, Try.ntmps23
    go_wp2_with (first | (go_at_call 35; refine (Blocks_dev (unhide HD)).mono ?_; rintro e w' ⟨rfl, rfl⟩) | fail)
    go_ret
    exact ⟨rfl, fun B => Below.refl _ _⟩
  by_cases h2 : at_ > (n : Int) - 2
  · rw [if_pos (.inr h2)]
    go_enter Try.func23, Try.ntmps23
    go_wp2_with (first | (go_at_call 35; refine (Blocks_dev (unhide HD)).mono ?_; rintro e w' ⟨rfl, rfl⟩) | fail)
    go_ret
    exact ⟨rfl, fun B => Below.refl _ _⟩
  rw [if_neg (by omega)]
  by_cases h3 : 400 < l
  · rw [if_pos h3]
    go_enter Try.func23, Try.ntmps23
    go_wp2_with (first | (go_at_call 35; refine (Blocks_dev (unhide HD)).mono ?_; rintro e w' ⟨rfl, rfl⟩) | fail)
    go_ret
    exact ⟨rfl, fun B => Below.refl _ _⟩
  · rw [if_neg h3]
    go_enter Try.func23, Try.ntmps23
    go_wp2_with (first | (go_at_call 35; refine (Blocks_dev (unhide HD)).mono ?_; rintro e w' ⟨rfl, rfl⟩) | fail)
    go_ret
    exact ⟨rfl, fun B => Below.refl _ _⟩
end
end Go.Proofs.Ytbgaomfoiooegaa
