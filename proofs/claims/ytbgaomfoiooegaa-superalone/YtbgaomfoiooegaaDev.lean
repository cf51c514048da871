/-
  DERIVED. The device behind its pointer: six cells; up, open, burn, Blocks, Down, Ops, Fuse.
-/
import Derived.Test.YtbgaomfoiooegaaDnil
import Derived.Test.YtbgaomfoiooegaaBase
import Derived.Below
import Derived.Laws.Rows
namespace Go.Proofs.Ytbgaomfoiooegaa
open Go.RowKit
set_option linter.unusedVariables false

/-- The six cells of a device. -/
def DevAt (w : World) (b : Nat) (fl pm : Value) (fused : Bool) (fuse : Int) (down : Bool) (ops : Int) : Prop :=
  w.heap[b]? = some (.cells #[fl, pm, .bool fused, .int .i64 fuse, .bool down, .int .i64 ops] 58 (0, 0))

/-- One block alone has turned. -/
structure Only (b : Nat) (w w' : World) : Prop where
  size : w'.heap.size = w.heap.size
  other : ∀ k, k ≠ b → w'.heap[k]? = w.heap[k]?
  below : ∀ base, base ≤ b → Below base w w'

theorem Only.refl (b : Nat) (w : World) : Only b w w := ⟨rfl, fun _ _ => rfl, fun _ _ => Below.refl _ _⟩
theorem Only.set {b : Nat} {w w' : World} (h : Only b w w') (i : Nat) (v : Value) : Only b w (w'.setCell ⟨b, i, none⟩ v) :=
  ⟨by simp [World.setCell, h.size], fun k hk => (heap_setCell_other _ _ _ _ hk).trans (h.other k hk), fun base hb => (h.below base hb).setCell hb v⟩
theorem Only.trans {b : Nat} {u v w : World} (h : Only b u v) (k : Only b v w) : Only b u w :=
  ⟨k.size.trans h.size, fun i hi => (k.other i hi).trans (h.other i hi), fun base hb => (h.below base hb).trans (k.below base hb)⟩

section
variable {w : World} {b : Nat} {fl pm : Value} {fused : Bool} {fuse : Int} {down : Bool} {ops : Int}
theorem DevAt.c0 (h : DevAt w b fl pm fused fuse down ops) : w.cell? ⟨b, 0, none⟩ = some fl := by unfold DevAt at h; simp [World.cell?, h]
theorem DevAt.c1 (h : DevAt w b fl pm fused fuse down ops) : w.cell? ⟨b, 1, none⟩ = some pm := by unfold DevAt at h; simp [World.cell?, h]
theorem DevAt.c2 (h : DevAt w b fl pm fused fuse down ops) : w.cell? ⟨b, 2, none⟩ = some (.bool fused) := by unfold DevAt at h; simp [World.cell?, h]
theorem DevAt.c3 (h : DevAt w b fl pm fused fuse down ops) : w.cell? ⟨b, 3, none⟩ = some (.int .i64 fuse) := by unfold DevAt at h; simp [World.cell?, h]
theorem DevAt.c4 (h : DevAt w b fl pm fused fuse down ops) : w.cell? ⟨b, 4, none⟩ = some (.bool down) := by unfold DevAt at h; simp [World.cell?, h]
theorem DevAt.c5 (h : DevAt w b fl pm fused fuse down ops) : w.cell? ⟨b, 5, none⟩ = some (.int .i64 ops) := by unfold DevAt at h; simp [World.cell?, h]
theorem DevAt.nf (h : DevAt w b fl pm fused fuse down ops) (i : Nat) : w.frozen? ⟨b, i, none⟩ = false := frozen_of_row w b i _ _ h
theorem DevAt.s2 (h : DevAt w b fl pm fused fuse down ops) (x : Bool) : DevAt (w.setCell ⟨b, 2, none⟩ (.bool x)) b fl pm x fuse down ops := heap_setCell_same w b 2 _ _ _ h
theorem DevAt.s3 (h : DevAt w b fl pm fused fuse down ops) (x : Int) : DevAt (w.setCell ⟨b, 3, none⟩ (.int .i64 x)) b fl pm fused x down ops := heap_setCell_same w b 3 _ _ _ h
theorem DevAt.s4 (h : DevAt w b fl pm fused fuse down ops) (x : Bool) : DevAt (w.setCell ⟨b, 4, none⟩ (.bool x)) b fl pm fused fuse x ops := heap_setCell_same w b 4 _ _ _ h
theorem DevAt.s5 (h : DevAt w b fl pm fused fuse down ops) (x : Int) : DevAt (w.setCell ⟨b, 5, none⟩ (.int .i64 x)) b fl pm fused fuse down x := heap_setCell_same w b 5 _ _ _ h
theorem DevAt.lt (h : DevAt w b fl pm fused fuse down ops) : b < w.heap.size := by
  unfold DevAt at h
  exact (Array.getElem?_eq_some_iff.1 h).1
theorem DevAt.below (h : DevAt w b fl pm fused fuse down ops) {w' : World} {base : Nat} (k : Below base w w') (hb : b < base) : DevAt w' b fl pm fused fuse down ops := (k.block b hb).trans h

theorem up_dev (h : DevAt w b fl pm fused fuse down ops) :
    Calls Try.prog 29 #[.pointer (some ⟨b, 0, none⟩)] w fun e w' => e = .returned (.int .i64 (if down then 2 else 0)) ∧ w = w' := by
  have c4 := h.c4
  cases down <;> go_enter Try.func29, Try.ntmps29 <;> go_wp2 <;> go_ret <;> exact ⟨rfl, rfl⟩

theorem Down_dev (h : DevAt w b fl pm fused fuse down ops) :
    Calls Try.prog 19 #[.pointer (some ⟨b, 0, none⟩)] w fun e w' => e = .returned (.bool down) ∧ w = w' := by
  have c4 := h.c4
  go_enter Try.func19, Try.ntmps19
  go_wp2
  go_ret
  exact ⟨rfl, rfl⟩

theorem Blocks_dev {a : Option Addr} {n c : Nat} (h : DevAt w b (.slice a n c) pm fused fuse down ops) :
    Calls Try.prog 35 #[.pointer (some ⟨b, 0, none⟩)] w fun e w' => e = .returned (.int .i64 n) ∧ w = w' := by
  have c0 := h.c0
  go_enter Try.func35, Try.ntmps35
  go_wp2
  go_ret
  exact ⟨rfl, rfl⟩

/-- What 'open' answers. -/
def openE (n : Nat) (down : Bool) (k : Int) : Int := if down then 2 else if 0 ≤ k ∧ k < n then 0 else 20

theorem open_dev {a : Option Addr} {n c : Nat} (k : Int) (h : DevAt w b (.slice a n c) pm fused fuse down ops) :
    Calls Try.prog 32 #[.pointer (some ⟨b, 0, none⟩), .int .i64 k] w fun e w' => e = .returned (.int .i64 (openE n down k)) ∧ w = w' := by
  have c0 := h.c0
  have HD := hide h
  unfold openE
  cases down
  · by_cases h1 : k < 0
    · rw [if_neg (by simp), if_neg (by omega)]
      go_enter Try.func32, Try.ntmps32
      go_wp2_with (go_at_call 29; refine (up_dev (unhide HD)).mono ?_; rintro e w' ⟨rfl, rfl⟩)
      go_ret
      exact ⟨rfl, rfl⟩
    · by_cases h2 : k < n
      · rw [if_neg (by simp), if_pos (by omega)]
        go_enter Try.func32, Try.ntmps32
        go_wp2_with (go_at_call 29; refine (up_dev (unhide HD)).mono ?_; rintro e w' ⟨rfl, rfl⟩)
        go_ret
        exact ⟨rfl, rfl⟩
      · rw [if_neg (by simp), if_neg (by omega)]
        go_enter Try.func32, Try.ntmps32
        go_wp2_with (go_at_call 29; refine (up_dev (unhide HD)).mono ?_; rintro e w' ⟨rfl, rfl⟩)
        go_ret
        exact ⟨rfl, rfl⟩
  · rw [if_pos rfl]
    go_enter Try.func32, Try.ntmps32
    go_wp2_with (go_at_call 29; refine (up_dev (unhide HD)).mono ?_; rintro e w' ⟨rfl, rfl⟩)
    go_ret
    exact ⟨rfl, rfl⟩

/-- What 'burn' leaves: its answer, the fuse, whether it is down, the operations. -/
def burnE (fused : Bool) (fuse : Int) : Int := if fused && fuse == 0 then 2 else 0
def burnF (fused : Bool) (fuse : Int) : Int := if fused && fuse != 0 then fuse - 1 else fuse
def burnD (fused : Bool) (fuse : Int) (down : Bool) : Bool := if fused && fuse == 0 then true else down
def burnO (fused : Bool) (fuse ops : Int) : Int := if fused && fuse == 0 then ops else ops + 1

theorem burn_dev (h : DevAt w b fl pm fused fuse down ops) (f1 : 0 ≤ fuse) (f2 : fuse < 9223372036854775808) (o1 : 0 ≤ ops) (o2 : ops < 9223372036854775807) :
    Calls Try.prog 33 #[.pointer (some ⟨b, 0, none⟩)] w fun e w' => e = .returned (.int .i64 (burnE fused fuse)) ∧ DevAt w' b fl pm fused (burnF fused fuse) (burnD fused fuse down) (burnO fused fuse ops) ∧ Only b w w' := by
  have c2 := h.c2
  have c3 := h.c3
  have c5 := h.c5
  have c4 := h.c4
  have n4 := h.nf 4
  have HD := hide h
  have HO := hide (Only.refl b w)
  clear h
  unfold burnE burnF burnD burnO
  have n5 := (unhide HD).nf 5
  cases fused
  · go_enter Try.func33, Try.ntmps33
    go_wp2
    go_ret
    exact ⟨rfl, (unhide HD).s5 _, (unhide HO).set _ _⟩
  · by_cases hz : fuse = 0
    · subst hz
      go_enter Try.func33, Try.ntmps33
      go_wp2
      go_ret
      exact ⟨rfl, (unhide HD).s4 _, (unhide HO).set _ _⟩
    · have hb : (fuse == 0) = false := beq_eq_false_iff_ne.2 hz
      have n3 := (unhide HD).nf 3
      have H3 := hide ((unhide HD).s3 (fuse - 1))
      have c5' := (unhide H3).c5
      have n5' := (unhide H3).nf 5
      simp only [hb, bne, Bool.and_false, Bool.not_false, Bool.and_true, if_true, Bool.false_eq_true, if_false]
      go_enter Try.func33, Try.ntmps33
      go_wp2
      go_ret
      exact ⟨rfl, (unhide H3).s5 _, ((unhide HO).set _ _).set _ _⟩

theorem Fuse_dev (k : Int) (h : DevAt w b fl pm fused fuse down ops) (k1 : -9223372036854775808 ≤ k) (k2 : k < 9223372036854775808) :
    Calls Try.prog 15 #[.pointer (some ⟨b, 0, none⟩), .int .i64 k] w fun e w' => e = .returned (.int .i64 (if down then 2 else 0)) ∧ DevAt w' b fl pm (if down then fused else decide (0 ≤ k)) (if down then fuse else max k 0) down ops ∧ Only b w w' := by
  have HD := hide h
  have HO := hide (Only.refl b w)
  clear h
  cases down
  · have c2 := (unhide HD).c2
    have n2 := (unhide HD).nf 2
    have H2 := hide ((unhide HD).s2 (decide (0 ≤ k)))
    have c3 := (unhide H2).c3
    have n3 := (unhide H2).nf 3
    simp only [Bool.false_eq_true, if_false]
    by_cases hk : 0 ≤ k
    · have hm : max k 0 = k := by omega
      have hd : decide (0 ≤ k) = true := decide_eq_true hk
      rw [hd] at H2 c3 n3
      rw [hm, hd]
      go_enter Try.func15, Try.ntmps15
      go_wp2_with (go_at_call 29; refine (up_dev (unhide HD)).mono ?_; rintro e w' ⟨rfl, rfl⟩)
      go_ret
      exact ⟨rfl, (unhide H2).s3 _, ((unhide HO).set _ _).set _ _⟩
    · have hm : max k 0 = 0 := by omega
      rw [hm]
      go_enter Try.func15, Try.ntmps15
      go_wp2_with (go_at_call 29; refine (up_dev (unhide HD)).mono ?_; rintro e w' ⟨rfl, rfl⟩)
      go_ret
      exact ⟨rfl, (unhide H2).s3 _, ((unhide HO).set _ _).set _ _⟩
  · go_enter Try.func15, Try.ntmps15
    go_wp2_with (go_at_call 29; refine (up_dev (unhide HD)).mono ?_; rintro e w' ⟨rfl, rfl⟩)
    go_ret
    exact ⟨rfl, unhide HD, unhide HO⟩
end
end Go.Proofs.Ytbgaomfoiooegaa
