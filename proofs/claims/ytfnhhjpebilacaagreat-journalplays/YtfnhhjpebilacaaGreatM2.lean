/-
  DERIVED. No device: the walks of the device's functions on a nil pointer.
-/
import Derived.Test.YtfnhhjpebilacaaGreatProg
import Derived.WalkKit
import Derived.ProofKit
import Derived.WalkLawsBesides
import Derived.KernelRfl
import Derived.Test.YtfnhhjpebilacaaGreatM1
import Derived.Below
import Derived.Laws.Rows
import Derived.Laws.MakeOwn
import Derived.WideMake
import Derived.Deep.MidRow
import Derived.Maps.OwnSet
import Derived.Maps.AppendAt
import Derived.Deep.RegionHeld3
import Derived.Deep.AppendLies
import Derived.Deep.WholeRow
import Derived.Laws.CopyRow
import Derived.Outline
import Derived.Shelf.SlIterI.Nil
import Derived.Shelf.SortM.Plain
import Derived.Shelf.SortM.SortNone
import Derived.Ground.GgzProg
import Derived.Ground.SlgmProg
namespace Go.Proofs.YtfnhhjpebilacaaGreat
open Go.RowKit
set_option linter.unusedVariables false

theorem up_nil (w : World) : Calls Tryz.prog 36 #[.pointer none] w fun e w' => e = .returned (.int .i64 1) ∧ w = w' := by
  go_enter Tryz.func36, Tryz.ntmps36
  go_wp2
  go_ret
  exact ⟨rfl, rfl⟩
theorem open_nil (n : Int) (w : World) : Calls Tryz.prog 49 #[.pointer none, .int .i64 n] w fun e w' => e = .returned (.int .i64 1) ∧ w = w' := by
  go_enter Tryz.func49, Tryz.ntmps49
  go_wp2_with (go_at_call 36; refine (up_nil _).mono ?_; rintro e w' ⟨rfl, rfl⟩)
  go_ret
  exact ⟨rfl, rfl⟩
theorem Read_nil (n : Int) (w : World) : Calls Tryz.prog 25 #[.pointer none, .int .i64 n] w fun e w' => e = .returned (.tuple #[.slice none 0 0, .int .i64 1]) ∧ w = w' := by
  go_enter Tryz.func25, Tryz.ntmps25
  go_wp2_with (go_at_call 49; refine (open_nil _ _).mono ?_; rintro e w' ⟨rfl, rfl⟩)
  go_ret2
  exact ⟨rfl, rfl⟩
theorem Write_nil (n : Int) (v : Value) (w : World) : Calls Tryz.prog 28 #[.pointer none, .int .i64 n, v] w fun e w' => e = .returned (.int .i64 1) ∧ w = w' := by
  go_enter Tryz.func28, Tryz.ntmps28
  go_wp2_with (go_at_call 49; refine (open_nil _ _).mono ?_; rintro e w' ⟨rfl, rfl⟩)
  go_ret
  exact ⟨rfl, rfl⟩
theorem Flush_nil (w : World) : Calls Tryz.prog 45 #[.pointer none] w fun e w' => e = .returned (.int .i64 1) ∧ w = w' := by
  go_enter Tryz.func45, Tryz.ntmps45
  go_wp2_with (go_at_call 36; refine (up_nil _).mono ?_; rintro e w' ⟨rfl, rfl⟩)
  go_ret
  exact ⟨rfl, rfl⟩
theorem Fuse_nil (n : Int) (w : World) : Calls Tryz.prog 15 #[.pointer none, .int .i64 n] w fun e w' => e = .returned (.int .i64 1) ∧ w = w' := by
  go_enter Tryz.func15, Tryz.ntmps15
  go_wp2_with (go_at_call 36; refine (up_nil _).mono ?_; rintro e w' ⟨rfl, rfl⟩)
  go_ret
  exact ⟨rfl, rfl⟩
theorem Blocks_nil (w : World) : Calls Tryz.prog 40 #[.pointer none] w fun e w' => e = .returned (.int .i64 0) ∧ w = w' := by
  go_enter Tryz.func40, Tryz.ntmps40
  go_wp2
  go_ret
  exact ⟨rfl, rfl⟩
theorem Down_nil (w : World) : Calls Tryz.prog 7 #[.pointer none] w fun e w' => e = .returned (.bool false) ∧ w = w' := by
  go_enter Tryz.func7, Tryz.ntmps7
  go_wp2
  go_ret
  exact ⟨rfl, rfl⟩
theorem Pending_nil (w : World) : Calls Tryz.prog 38 #[.pointer none] w fun e w' => e = .returned (.slice none 0 0) ∧ w = w' := by
  go_enter Tryz.func38, Tryz.ntmps38
  go_wp2
  go_ret
  exact ⟨rfl, rfl⟩
theorem Crash_nil (v : Value) (w : World) : Calls Tryz.prog 18 #[.pointer none, v] w fun e w' => e = .returned (.tuple #[]) ∧ w = w' := by
  go_enter Tryz.func18, Tryz.ntmps18
  go_wp2
  (try simp only [Exit.inBlock, Exit.then])
  refine bodyPost_ret (results_none rfl _ _ _) rfl ?_
  exact ⟨rfl, rfl⟩
end Go.Proofs.YtfnhhjpebilacaaGreat

/-
  DERIVED. The device behind its pointer: six cells; up, open, burn, Blocks, Down, Ops, Fuse.
-/
namespace Go.Proofs.YtfnhhjpebilacaaGreat
open Go.RowKit
set_option linter.unusedVariables false

/-- The six cells of a device. -/
def DevAt (w : World) (b : Nat) (fl pm : Value) (fused : Bool) (fuse : Int) (down : Bool) (ops : Int) : Prop :=
  w.heap[b]? = some (.cells #[fl, pm, .bool fused, .int .i64 fuse, .bool down, .int .i64 ops] 68 (0, 0))

/-- One block alone has turned. -/
structure Only (b : Nat) (w w' : World) : Prop where
  size : w'.heap.size = w.heap.size
  other : ∀ k, k ≠ b → w'.heap[k]? = w.heap[k]?
  below : ∀ base, base ≤ b → Below base w w'

theorem Only.refl (b : Nat) (w : World) : Only b w w := ⟨rfl, fun _ _ => rfl, fun _ _ => Below.refl _ _⟩
theorem Only.set {b : Nat} {w w' : World} (h : Only b w w') (i : Nat) (v : Value) : Only b w (w'.setCell ⟨b, i, none⟩ v) :=
  ⟨by simp [World.setCell, h.size], fun k hk => (heap_setCell_other _ _ _ _ hk).trans (h.other k hk), fun base hb => (h.below base hb).setCell hb v⟩
theorem Only.trans {b : Nat} {u v w : World} (h : Only b u v) (k : Only b v w) : Only b u w :=
  ⟨k.size.trans h.size, fun i hi => (k.other i hi).trans (h.other i hi), fun base hb => (h.below base hb).trans (k.below base hb)⟩

section
variable {w : World} {b : Nat} {fl pm : Value} {fused : Bool} {fuse : Int} {down : Bool} {ops : Int}
theorem DevAt.c0 (h : DevAt w b fl pm fused fuse down ops) : w.cell? ⟨b, 0, none⟩ = some fl := by unfold DevAt at h; simp [World.cell?, h]
theorem DevAt.c1 (h : DevAt w b fl pm fused fuse down ops) : w.cell? ⟨b, 1, none⟩ = some pm := by unfold DevAt at h; simp [World.cell?, h]
theorem DevAt.c2 (h : DevAt w b fl pm fused fuse down ops) : w.cell? ⟨b, 2, none⟩ = some (.bool fused) := by unfold DevAt at h; simp [World.cell?, h]
theorem DevAt.c3 (h : DevAt w b fl pm fused fuse down ops) : w.cell? ⟨b, 3, none⟩ = some (.int .i64 fuse) := by unfold DevAt at h; simp [World.cell?, h]
theorem DevAt.c4 (h : DevAt w b fl pm fused fuse down ops) : w.cell? ⟨b, 4, none⟩ = some (.bool down) := by unfold DevAt at h; simp [World.cell?, h]
theorem DevAt.c5 (h : DevAt w b fl pm fused fuse down ops) : w.cell? ⟨b, 5, none⟩ = some (.int .i64 ops) := by unfold DevAt at h; simp [World.cell?, h]
theorem DevAt.nf (h : DevAt w b fl pm fused fuse down ops) (i : Nat) : w.frozen? ⟨b, i, none⟩ = false := frozen_of_row w b i _ _ h
theorem DevAt.s2 (h : DevAt w b fl pm fused fuse down ops) (x : Bool) : DevAt (w.setCell ⟨b, 2, none⟩ (.bool x)) b fl pm x fuse down ops := heap_setCell_same w b 2 _ _ _ h
theorem DevAt.s3 (h : DevAt w b fl pm fused fuse down ops) (x : Int) : DevAt (w.setCell ⟨b, 3, none⟩ (.int .i64 x)) b fl pm fused x down ops := heap_setCell_same w b 3 _ _ _ h
theorem DevAt.s4 (h : DevAt w b fl pm fused fuse down ops) (x : Bool) : DevAt (w.setCell ⟨b, 4, none⟩ (.bool x)) b fl pm fused fuse x ops := heap_setCell_same w b 4 _ _ _ h
theorem DevAt.s5 (h : DevAt w b fl pm fused fuse down ops) (x : Int) : DevAt (w.setCell ⟨b, 5, none⟩ (.int .i64 x)) b fl pm fused fuse down x := heap_setCell_same w b 5 _ _ _ h
theorem DevAt.lt (h : DevAt w b fl pm fused fuse down ops) : b < w.heap.size := by
  unfold DevAt at h
  exact (Array.getElem?_eq_some_iff.1 h).1
theorem DevAt.below (h : DevAt w b fl pm fused fuse down ops) {w' : World} {base : Nat} (k : Below base w w') (hb : b < base) : DevAt w' b fl pm fused fuse down ops := (k.block b hb).trans h

theorem up_dev (h : DevAt w b fl pm fused fuse down ops) :
    Calls Tryz.prog 36 #[.pointer (some ⟨b, 0, none⟩)] w fun e w' => e = .returned (.int .i64 (if down then 2 else 0)) ∧ w = w' := by
  have c4 := h.c4
  cases down <;> go_enter Tryz.func36, Tryz.ntmps36 <;> go_wp2 <;> go_ret <;> exact ⟨rfl, rfl⟩

theorem Down_dev (h : DevAt w b fl pm fused fuse down ops) :
    Calls Tryz.prog 7 #[.pointer (some ⟨b, 0, none⟩)] w fun e w' => e = .returned (.bool down) ∧ w = w' := by
  have c4 := h.c4
  go_enter Tryz.func7, Tryz.ntmps7
  go_wp2
  go_ret
  exact ⟨rfl, rfl⟩

theorem Blocks_dev {a : Option Addr} {n c : Nat} (h : DevAt w b (.slice a n c) pm fused fuse down ops) :
    Calls Tryz.prog 40 #[.pointer (some ⟨b, 0, none⟩)] w fun e w' => e = .returned (.int .i64 n) ∧ w = w' := by
  have c0 := h.c0
  go_enter Tryz.func40, Tryz.ntmps40
  go_wp2
  go_ret
  exact ⟨rfl, rfl⟩

/-- What 'open' answers. -/
def openE (n : Nat) (down : Bool) (k : Int) : Int := if down then 2 else if 0 ≤ k ∧ k < n then 0 else 20

theorem open_dev {a : Option Addr} {n c : Nat} (k : Int) (h : DevAt w b (.slice a n c) pm fused fuse down ops) :
    Calls Tryz.prog 49 #[.pointer (some ⟨b, 0, none⟩), .int .i64 k] w fun e w' => e = .returned (.int .i64 (openE n down k)) ∧ w = w' := by
  have c0 := h.c0
  have HD := hide h
  unfold openE
  cases down
  · by_cases h1 : k < 0
    · rw [if_neg (by simp), if_neg (by omega)]
      go_enter Tryz.func49, Tryz.ntmps49
      go_wp2_with (go_at_call 36; refine (up_dev (unhide HD)).mono ?_; rintro e w' ⟨rfl, rfl⟩)
      go_ret
      exact ⟨rfl, rfl⟩
    · by_cases h2 : k < n
      · rw [if_neg (by simp), if_pos (by omega)]
        go_enter Tryz.func49, Tryz.ntmps49
        go_wp2_with (go_at_call 36; refine (up_dev (unhide HD)).mono ?_; rintro e w' ⟨rfl, rfl⟩)
        go_ret
        exact ⟨rfl, rfl⟩
      · rw [if_neg (by simp), if_neg (by omega)]
        go_enter Tryz.func49, Tryz.ntmps49
        go_wp2_with (go_at_call 36; refine (up_dev (unhide HD)).mono ?_; rintro e w' ⟨rfl, rfl⟩)
        go_ret
        exact ⟨rfl, rfl⟩
  · rw [if_pos rfl]
    go_enter Tryz.func49, Tryz.ntmps49
    go_wp2_with (go_at_call 36; refine (up_dev (unhide HD)).mono ?_; rintro e w' ⟨rfl, rfl⟩)
    go_ret
    exact ⟨rfl, rfl⟩

/-- What 'burn' leaves: its answer, the fuse, whether it is down, the operations. -/
def burnE (fused : Bool) (fuse : Int) : Int := if fused && fuse == 0 then 2 else 0
def burnF (fused : Bool) (fuse : Int) : Int := if fused && fuse != 0 then fuse - 1 else fuse
def burnD (fused : Bool) (fuse : Int) (down : Bool) : Bool := if fused && fuse == 0 then true else down
def burnO (fused : Bool) (fuse ops : Int) : Int := if fused && fuse == 0 then ops else ops + 1

theorem burn_dev (h : DevAt w b fl pm fused fuse down ops) (f1 : 0 ≤ fuse) (f2 : fuse < 9223372036854775808) (o1 : 0 ≤ ops) (o2 : ops < 9223372036854775807) :
    Calls Tryz.prog 50 #[.pointer (some ⟨b, 0, none⟩)] w fun e w' => e = .returned (.int .i64 (burnE fused fuse)) ∧ DevAt w' b fl pm fused (burnF fused fuse) (burnD fused fuse down) (burnO fused fuse ops) ∧ Only b w w' := by
  have c2 := h.c2
  have c3 := h.c3
  have c5 := h.c5
  have c4 := h.c4
  have n4 := h.nf 4
  have HD := hide h
  have HO := hide (Only.refl b w)
  clear h
  unfold burnE burnF burnD burnO
  have n5 := (unhide HD).nf 5
  cases fused
  · go_enter Tryz.func50, Tryz.ntmps50
    go_wp2
    go_ret
    exact ⟨rfl, (unhide HD).s5 _, (unhide HO).set _ _⟩
  · by_cases hz : fuse = 0
    · subst hz
      go_enter Tryz.func50, Tryz.ntmps50
      go_wp2
      go_ret
      exact ⟨rfl, (unhide HD).s4 _, (unhide HO).set _ _⟩
    · have hb : (fuse == 0) = false := beq_eq_false_iff_ne.2 hz
      have n3 := (unhide HD).nf 3
      have H3 := hide ((unhide HD).s3 (fuse - 1))
      have c5' := (unhide H3).c5
      have n5' := (unhide H3).nf 5
      simp only [hb, bne, Bool.and_false, Bool.not_false, Bool.and_true, if_true, Bool.false_eq_true, if_false]
      go_enter Tryz.func50, Tryz.ntmps50
      go_wp2
      go_ret
      exact ⟨rfl, (unhide H3).s5 _, ((unhide HO).set _ _).set _ _⟩

theorem Fuse_dev (k : Int) (h : DevAt w b fl pm fused fuse down ops) (k1 : -9223372036854775808 ≤ k) (k2 : k < 9223372036854775808) :
    Calls Tryz.prog 15 #[.pointer (some ⟨b, 0, none⟩), .int .i64 k] w fun e w' => e = .returned (.int .i64 (if down then 2 else 0)) ∧ DevAt w' b fl pm (if down then fused else decide (0 ≤ k)) (if down then fuse else max k 0) down ops ∧ Only b w w' := by
  have HD := hide h
  have HO := hide (Only.refl b w)
  clear h
  cases down
  · have c2 := (unhide HD).c2
    have n2 := (unhide HD).nf 2
    have H2 := hide ((unhide HD).s2 (decide (0 ≤ k)))
    have c3 := (unhide H2).c3
    have n3 := (unhide H2).nf 3
    simp only [Bool.false_eq_true, if_false]
    by_cases hk : 0 ≤ k
    · have hm : max k 0 = k := by omega
      have hd : decide (0 ≤ k) = true := decide_eq_true hk
      rw [hd] at H2 c3 n3
      rw [hm, hd]
      go_enter Tryz.func15, Tryz.ntmps15
      go_wp2_with (go_at_call 36; refine (up_dev (unhide HD)).mono ?_; rintro e w' ⟨rfl, rfl⟩)
      go_ret
      exact ⟨rfl, (unhide H2).s3 _, ((unhide HO).set _ _).set _ _⟩
    · have hm : max k 0 = 0 := by omega
      rw [hm]
      go_enter Tryz.func15, Tryz.ntmps15
      go_wp2_with (go_at_call 36; refine (up_dev (unhide HD)).mono ?_; rintro e w' ⟨rfl, rfl⟩)
      go_ret
      exact ⟨rfl, (unhide H2).s3 _, ((unhide HO).set _ _).set _ _⟩
  · go_enter Tryz.func15, Tryz.ntmps15
    go_wp2_with (go_at_call 36; refine (up_dev (unhide HD)).mono ?_; rintro e w' ⟨rfl, rfl⟩)
    go_ret
    exact ⟨rfl, unhide HD, unhide HO⟩
end
end Go.Proofs.YtfnhhjpebilacaaGreat

/-
  DERIVED. New: a device of noughts.
-/
namespace Go.Proofs.YtfnhhjpebilacaaGreat
open Go.RowKit
set_option linter.unusedVariables false

/-- So many cells of noughts. -/
def noughts (n : Nat) : Array Value := Array.replicate n (.int .u8 0)
theorem infoBlock : (Tryz.prog.info? 84).map (fun i => (i.zero, i.size, i.bytes)) = some (some (.agg (noughts 512)), 512, 512) := by kernel_rfl

theorem made_noughts (n : Nat) : madeCells (noughts 512) (n * 512) = noughts (n * 512) := by
  unfold madeCells noughts
  apply Array.ext
  · simp
  · intro i h1 h2
    have : i % 512 < (Array.replicate 512 (Value.int .u8 0)).size := by rw [Array.size_replicate]; omega
    rw [Array.getElem_map, Array.getElem_range, Array.getElem_replicate, Array.size_replicate, getElem!_pos (Array.replicate 512 (Value.int .u8 0)) (i % 512) this, Array.getElem_replicate]

theorem run_make_blocks (w : World) (n : Nat) (hn : n ≤ 512) : (Instr.makeSlice 65 (.int .i64 n) (.int .i64 n)).run Tryz.prog w = .ok (.slice (some ⟨w.heap.size, 0, none⟩) n n) (w.alloc (.cells (noughts (n * 512)) 84)) := by
  obtain ⟨i, hi, hh⟩ := Option.map_eq_some_iff.1 infoBlock
  simp only [Prod.mk.injEq] at hh
  have h := run_make (P := Tryz.prog) w 65 84 i _ Tryz.underlying65 hi hh.1 .i64 .i64 n n (by omega) (Int.le_refl _) (by rw [hh.2.2]; omega) (by omega)
  rw [h, hh.2.1, Int.toNat_natCast]
  show Result.ok _ (w.alloc (.cells (madeCells (noughts 512) (n * 512)) 84)) = _
  rw [made_noughts]

theorem heap_alloc_self (w : World) (o : Obj) : (w.alloc o).heap[w.heap.size]? = some o := by
  show (w.heap.push o)[w.heap.size]? = some o
  simp

/-- The world behind New. -/
def newW (w : World) (n : Nat) : World := ((w.alloc (.cells (noughts (n * 512)) 84)).alloc (.map #[] 0)).alloc (.cells #[.slice (some ⟨w.heap.size, 0, none⟩) n n, .map (some (w.heap.size + 1)), .bool false, .int .i64 0, .bool false, .int .i64 0] 68)

set_option maxRecDepth 20000 in
theorem New_ok (n : Nat) (w : World) (h1 : 64 ≤ n) (h2 : n ≤ 512) :
    Calls Tryz.prog 20 #[.int .i64 n] w fun e w' => e = .returned (.tuple #[.pointer (some ⟨w.heap.size + 2, 0, none⟩), .int .i64 0]) ∧ w' = newW w n := by
  have mk := run_make_blocks w n h2
  have mm : ∀ w : World, (Instr.makeMap 66 none).run Tryz.prog w = .ok (.map (some w.heap.size)) (w.alloc (.map #[] 0)) := fun w => rfl
  go_enter Tryz.func20, Tryz.ntmps20
  go_wp2
  go_ret2
  exact ⟨rfl, rfl⟩

theorem New_bad (k : Int) (w : World) (h : k < 64 ∨ 512 < k) :
    Calls Tryz.prog 20 #[.int .i64 k] w fun e w' => e = .returned (.tuple #[.pointer none, .int .i64 21]) ∧ w = w' := by
  rcases h with h | h
  · go_enter Tryz.func20, Tryz.ntmps20
    go_wp2
    go_ret2
    exact ⟨rfl, rfl⟩
  · have h3 : ¬ k < 64 := by omega
    go_enter Tryz.func20, Tryz.ntmps20
    go_wp2
    go_ret2
    exact ⟨rfl, rfl⟩

theorem newW_dev (w : World) (n : Nat) : DevAt (newW w n) (w.heap.size + 2) (.slice (some ⟨w.heap.size, 0, none⟩) n n) (.map (some (w.heap.size + 1))) false 0 false 0 := by
  unfold DevAt newW
  have : w.heap.size + 2 = (((w.alloc (.cells (noughts (n * 512)) 84)).alloc (.map #[] 0))).heap.size := by simp
  rw [this]
  exact heap_alloc_self _ _
theorem newW_map (w : World) (n : Nat) : (newW w n).heap[w.heap.size + 1]? = some (.map #[] 0) := by
  unfold newW
  have : w.heap.size + 1 = (w.alloc (.cells (noughts (n * 512)) 84)).heap.size := by simp
  rw [Below.heap_alloc _ _ _ (by simp), this]
  exact heap_alloc_self _ _
theorem newW_row (w : World) (n : Nat) : (newW w n).heap[w.heap.size]? = some (.cells (noughts (n * 512)) 84 (0, 0)) := by
  unfold newW
  rw [Below.heap_alloc _ _ _ (by simp; omega), Below.heap_alloc _ _ _ (by simp)]
  exact heap_alloc_self _ _
theorem newW_below (w : World) (n : Nat) : Below w.heap.size w (newW w n) :=
  (((Below.refl _ _).alloc (Nat.le_refl _) _).alloc (by simp) _).alloc (by simp; omega) _
end Go.Proofs.YtfnhhjpebilacaaGreat

/-
  DERIVED. newest: a block as it was written last.
-/
namespace Go.Proofs.YtfnhhjpebilacaaGreat
open Go.RowKit
set_option linter.unusedVariables false

theorem sizeBlock : (Tryz.prog.info? 84).map (·.size) = some 512 := by kernel_rfl
theorem run_alloc_block (w : World) : (Instr.alloc 84 true (.tuple #[])).run Tryz.prog w = .ok (.pointer (some ⟨w.heap.size, 0, none⟩)) (w.alloc (.cells (noughts 512) 84)) := by kernel_rfl
theorem wpList_alloc_block {ops : Array Oper} {rest : List Oper} {o : Oper} {a : Act} {w : World} {Q : Exit → Act → World → Prop} (hgd : o.guard = none)
    (ho : o.op = .alloc 84) (h : wpList Tryz.prog ops Q rest (a.put o.dst (.pointer (some ⟨w.heap.size, 0, none⟩))) (w.alloc (.cells (noughts 512) 84))) : wpList Tryz.prog ops Q (o :: rest) a w := by
  refine wpList_plain hgd fun K hK => ?_
  unfold Oper.wp execOp
  simp only [ho, Sem.run_bind, Sem.run_pure, run_alloc_block, Result.andThen_ok]
  exact hK _ _ h

theorem below_setRowD (B : Nat) (w : World) (g : Nat) (cs : Array Value) (h : B ≤ g) : Below B w (w.setRow g cs) := by
  refine ⟨rfl, rfl, rfl, by simp [World.setRow], fun k hk => ?_⟩
  simp only [World.setRow, Array.getElem?_modify]
  rw [if_neg (by omega)]
theorem size_noughts (n : Nat) : (noughts n).size = n := by simp [noughts]

theorem newest_old {g n c : Nat} {b : Nat} {pm : Value} {fused : Bool} {fuse : Int} {down : Bool} {ops : Int} (w : World) (k : Nat) (ao : Option Addr) (cap : Nat) (cs : List Value)
    (h : DevAt w b (.slice (some ⟨g, 0, none⟩) n c) pm fused fuse down ops) (hk : k < n)
    (hl : ∀ o, (Instr.lookup 66 pm (.int .i64 k) false).run Tryz.prog (w.alloc o) = .ok (.slice ao 0 cap) (w.alloc o))
    (hr : w.rangeAt g (k * 512) cs) (hc : cs.length = 512) (h1 : ∀ v ∈ cs, v.oneCell' = true) :
    Calls Tryz.prog 51 #[.pointer (some ⟨b, 0, none⟩), .int .i64 k] w fun e w' => e = .returned (.agg cs.toArray) ∧ Below w.heap.size w w' := by
  have HB := hide ((Below.refl w.heap.size w).alloc (Nat.le_refl _) (.cells (noughts 512) 84))
  have h' : DevAt (w.alloc (.cells (noughts 512) 84)) b (.slice (some ⟨g, 0, none⟩) n c) pm fused fuse down ops := h.below (unhide HB) h.lt
  have c0 := h'.c0
  have c1 := h'.c1
  have hl' := hl (.cells (noughts 512) 84)
  have HR := hide (World.rangeAt_alloc hr (.cells (noughts 512) 84))
  clear h h' hl hr
  have H0 := hide (heap_alloc_self w (.cells (noughts 512) 84))
  have HS : Hid (cs.toArray.size = 512) := hide (by simpa using hc)
  go_enter Tryz.func51, Tryz.ntmps51
  go_wp2_with (first | (refine wpList_alloc_block rfl rfl ?_) | (refine wpList_load_mid rfl 84 (.tmp 26) rfl g (k * 512) rfl cs _ (unhide HR) Tryz.underlying84 rfl (by rw [hc]; exact sizeBlock) ?_) | (refine wpList_store_row rfl 84 (.tmp 4) (.tmp 27) rfl w.heap.size cs.toArray rfl rfl 84 (noughts 512) (unhide H0) (by rw [unhide HS]; exact sizeBlock) (by rw [unhide HS, size_noughts]) (all_oneCell_toArray h1) ?_))
  refine bodyPost_ret (v := .agg cs.toArray) (results_cell_row rfl _ _ w.heap.size 84 cs.toArray (0, 0) _ rfl (setRow_heap _ _ _ _ _ _ (unhide H0)) Tryz.underlying84 rfl (by rw [unhide HS]; exact sizeBlock)) rfl ⟨rfl, ?_⟩
  exact (unhide HB).trans (below_setRowD _ _ _ _ (Nat.le_refl _))

theorem newest_new {g n c : Nat} {b : Nat} {pm : Value} {fl : Value} {fused : Bool} {fuse : Int} {down : Bool} {ops : Int} (w : World) (k : Nat) (q j cap : Nat) (cs : List Value)
    (h : DevAt w b fl pm fused fuse down ops) (hj : j < 9223372036854775807)
    (hl : ∀ o, (Instr.lookup 66 pm (.int .i64 k) false).run Tryz.prog (w.alloc o) = .ok (.slice (some ⟨q, 0, none⟩) (j + 1) cap) (w.alloc o))
    (hr : w.rangeAt q (j * 512) cs) (hc : cs.length = 512) (h1 : ∀ v ∈ cs, v.oneCell' = true) :
    Calls Tryz.prog 51 #[.pointer (some ⟨b, 0, none⟩), .int .i64 k] w fun e w' => e = .returned (.agg cs.toArray) ∧ Below w.heap.size w w' := by
  have HB := hide ((Below.refl w.heap.size w).alloc (Nat.le_refl _) (.cells (noughts 512) 84))
  have h' : DevAt (w.alloc (.cells (noughts 512) 84)) b fl pm fused fuse down ops := h.below (unhide HB) h.lt
  have c1 := h'.c1
  have hl' := hl (.cells (noughts 512) 84)
  have HR := hide (World.rangeAt_alloc hr (.cells (noughts 512) 84))
  clear h h' hl hr
  have H0 := hide (heap_alloc_self w (.cells (noughts 512) 84))
  have HS : Hid (cs.toArray.size = 512) := hide (by simpa using hc)
  go_enter Tryz.func51, Tryz.ntmps51
  go_wp2_with (first | (refine wpList_alloc_block rfl rfl ?_) | (refine wpList_load_mid rfl 84 (.tmp 19) rfl q (j * 512) rfl cs _ (unhide HR) Tryz.underlying84 rfl (by rw [hc]; exact sizeBlock) ?_) | (refine wpList_store_row rfl 84 (.tmp 4) (.tmp 20) rfl w.heap.size cs.toArray rfl rfl 84 (noughts 512) (unhide H0) (by rw [unhide HS]; exact sizeBlock) (by rw [unhide HS, size_noughts]) (all_oneCell_toArray h1) ?_))
  refine bodyPost_ret (v := .agg cs.toArray) (results_cell_row rfl _ _ w.heap.size 84 cs.toArray (0, 0) _ rfl (setRow_heap _ _ _ _ _ _ (unhide H0)) Tryz.underlying84 rfl (by rw [unhide HS]; exact sizeBlock)) rfl ⟨rfl, ?_⟩
  exact (unhide HB).trans (below_setRowD _ _ _ _ (Nat.le_refl _))
end Go.Proofs.YtfnhhjpebilacaaGreat

/-
  DERIVED. The walk of unlay.
-/
namespace Go.Proofs.YtfnhhjpebilacaaGreat
open Go.RowKit
set_option linter.unusedVariables false

abbrev slotC (s : Slot) (dv : Value) : Array Value := #[.bool s.laid, .int .u32 (s.turn : Nat), .int .i64 s.count, dv]
abbrev slot0 : Array Value := #[.bool false, .int .u32 0, .int .i64 0, .slice none 0 0]
theorem one_slot (a : Bool) (b : Int) (c : Int) (x : Option Addr) (n m : Nat) : (#[.bool a, .int .u32 b, .int .i64 c, .slice x n m] : Array Value).all (·.oneCell') = true := by simp [Value.oneCell']
theorem sizeSlot : (Tryz.prog.info? 101).map (·.size) = some 4 := by kernel_rfl

theorem Int_nm (v : Value) (l : List UInt8) (i : Int) (k e : Nat) (w : World) (hv : Sl w v l) (h1 : rdI l = i) (h2 : (rd l).2.1 = k) (h3 : (rd l).2.2 = e) :
    Calls Tryz.prog 71 #[v] w fun e' w' => e' = .returned (.tuple #[.int .i64 i, .int .i64 k, .int .i64 e]) ∧ w = w' := by
  rw [← h1, ← h2, ← h3]
  exact Int_any v l w hv
theorem U32_short (v : Value) (l : List UInt8) (w : World) (hv : Sl w v l) (h : l.length < 4) :
    Calls Tryz.prog 84 #[v] w fun e w' => e = .returned (.tuple #[.int .u32 0, .int .i64 10]) ∧ ∀ B, Below B w w' := by
  have := U32_any v l w hv
  rw [if_pos h, if_pos h] at this
  exact this
theorem Sl.setRow {w : World} {g b off n c : Nat} {l : List UInt8} (cs : Array Value) (h : Sl w (.slice (some ⟨b, off, none⟩) n c) l) (hb : g ≠ b) : Sl (w.setRow g cs) (.slice (some ⟨b, off, none⟩) n c) l := by
  obtain ⟨ao, cap, e, h1, h2, h4⟩ := h
  refine ⟨ao, cap, e, h1, h2, fun hc => ?_⟩
  obtain ⟨b', off', e', h5, h6⟩ := h4 hc
  have hb' : b' = b := by rw [e'] at e; injection e with e1; injection e1 with e2; injection e2 with e3; exact e3.symm
  refine ⟨b', off', e', by simpa [World.setRow] using h5, fun i hi => ?_⟩
  exact (World.cell?_of_block (w := w) (setRow_other w g b' cs (by rw [hb']; exact fun h => hb h.symm))).trans (h6 i hi)
theorem unl_names {L : List UInt8} {at_ : Int} {E : Nat} {kd : UInt8} {d : List UInt8} (hE : frE L = E) (hkd : frKind L = kd) (hd : frD L = d) : unl at_ L =
    if E ≠ 0 ∨ kd ≠ 83 then noSlot
    else if (rd d).2.2 ≠ 0 ∨ rdI d ≠ at_ then noSlot
    else if (d.drop (rd d).2.1).length < 4 then noSlot
    else if (rd ((d.drop (rd d).2.1).drop 4)).2.2 ≠ 0 ∨ rdI ((d.drop (rd d).2.1).drop 4) < 0 ∨ 400 < ((d.drop (rd d).2.1).drop 4).length - (rd ((d.drop (rd d).2.1).drop 4)).2.1 then noSlot
    else ⟨true, rd4 (d.drop (rd d).2.1), rdI ((d.drop (rd d).2.1).drop 4), ((d.drop (rd d).2.1).drop 4).drop (rd ((d.drop (rd d).2.1).drop 4)).2.1⟩ := by
  subst hE hkd hd
  rfl

set_option maxHeartbeats 2000000 in
theorem unlay_any (v : Value) (L : List UInt8) (at_ : Int) (w : World) (hv : Sl w v L) (hat0 : -9223372036854775808 ≤ at_) (hat1 : at_ ≤ 9223372036854775807) :
    Calls Tryz.prog 72 #[v, .int .i64 at_] w fun e w' => ∃ a n c, e = .returned (.agg (slotC (unl at_ L) (.slice a n c))) ∧ (∀ ad, a = some ad → w.heap.size ≤ ad.block) ∧ Sl w' (.slice a n c) (unl at_ L).data ∧ Below w.heap.size w w' := by
  have HV := hide hv
  clear hv
  obtain ⟨E, hE⟩ : ∃ E, frE L = E := ⟨_, rfl⟩
  obtain ⟨kd, hkd⟩ : ∃ kd, frKind L = kd := ⟨_, rfl⟩
  obtain ⟨d, hd⟩ : ∃ d, frD L = d := ⟨_, rfl⟩
  obtain ⟨K, hK⟩ : ∃ K, frK L = K := ⟨_, rfl⟩
  obtain ⟨U, hU⟩ : ∃ U, unl at_ L = U := ⟨_, rfl⟩
  have HU := (unl_names (at_ := at_) hE hkd hd).symm.trans hU
  rw [hU]
  clear hU
  have HF := hide (And.intro hE (And.intro hkd (And.intro hK hd)))
  clear hE hkd hd hK
  go_enter Tryz.func72, Tryz.ntmps72
  go_wp2_with fail
  have HW : Hid (Below w.heap.size w (w.alloc (.cells slot0 101))) := hide ((Below.refl _ _).alloc (Nat.le_refl _) _)
  refine (Frame_any v L _ ((unhide HV).below (unhide HW) (Nat.le_refl _))).mono ?_
  rintro e w1 ⟨a, n, c, rfl, own1, b1⟩
  rw [(unhide HF).2.2.2] at own1
  rw [(unhide HF).1, (unhide HF).2.1, (unhide HF).2.2.1]
  have s1 := b1.size
  simp at s1
  obtain ⟨W, hW⟩ : ∃ W, W = w1.alloc (.cells #[bv kd, .slice a n c] 126) := ⟨_, rfl⟩
  have HS : Hid (W.heap[w.heap.size]? = some (.cells slot0 101 (0, 0))) := hide (by rw [hW, Below.heap_alloc _ _ _ (by omega), b1.block _ (by simp)]; exact heap_alloc_self _ _)
  have HB : Hid (Below w.heap.size w W) := hide (by rw [hW]; exact ((unhide HW).trans (b1.mono (by simp))).alloc (by omega) _)
  have HL : Hid (Sl W (.slice a n c) d) := hide (by rw [hW]; exact own1.sl.alloc _)
  have hWs : w.heap.size < W.heap.size := by rw [hW]; simp; omega
  have q0 : W.cell? ⟨w1.heap.size, 0, none⟩ = some (bv kd) := by rw [hW]; simp
  have q1 : W.cell? ⟨w1.heap.size, 1, none⟩ = some (.slice a n c) := by rw [hW]; simp
  have HN : Hid (∀ b off n' c', Value.slice a n c = .slice (some ⟨b, off, none⟩) n' c' → w.heap.size < b) := hide (fun b' off' n' c' hh => by
    rcases own1.2 with ⟨h, _⟩ | ⟨g, cap, cur, h, hg, _⟩
    · rw [h] at hh; cases hh
    · rw [h] at hh; simp at hg; injection hh with e1; injection e1 with e2; injection e2 with e3; omega)
  clear own1 b1 HV HF
  subst hW
  clear q0 q1
  by_cases h1 : E ≠ 0
  · rw [if_pos (.inl h1)] at HU
    have hne : ((E : Int) != 0) = true := by rw [bne_iff_ne]; omega
    go_wp2_with (first | (refine wpList_store_row rfl 101 (.tmp 4) (.tmp 26) rfl w.heap.size slot0 rfl rfl 101 slot0 (unhide HS) sizeSlot rfl (one_slot _ _ _ _ _ _) ?_))
    (try simp only [Exit.inBlock, Exit.then])
    refine bodyPost_ret (v := .agg slot0) (results_cell_row rfl _ _ w.heap.size 101 slot0 (0, 0) _ rfl (setRow_heap _ _ _ _ _ _ (unhide HS)) Tryz.underlying101 rfl sizeSlot) rfl ⟨none, 0, 0, by rw [← HU]; rfl, fun _ h => by (cases h), by rw [← HU]; exact nil_sl _, (unhide HB).trans (below_setRowD _ _ _ _ (Nat.le_refl _))⟩
  obtain rfl : E = 0 := by omega
  by_cases h2 : kd ≠ 83
  · rw [if_pos (.inr h2)] at HU
    have hne : ((kd.toNat : Int) != 83) = true := by rw [bne_iff_ne]; intro hh; exact h2 (UInt8.toNat_inj.1 (by simpa using (by omega : kd.toNat = 83)))
    go_wp2_with (first | (refine wpList_store_row rfl 101 (.tmp 4) (.tmp 26) rfl w.heap.size slot0 rfl rfl 101 slot0 (unhide HS) sizeSlot rfl (one_slot _ _ _ _ _ _) ?_))
    (try simp only [Exit.inBlock, Exit.then])
    refine bodyPost_ret (v := .agg slot0) (results_cell_row rfl _ _ w.heap.size 101 slot0 (0, 0) _ rfl (setRow_heap _ _ _ _ _ _ (unhide HS)) Tryz.underlying101 rfl sizeSlot) rfl ⟨none, 0, 0, by rw [← HU]; rfl, fun _ h => by (cases h), by rw [← HU]; exact nil_sl _, (unhide HB).trans (below_setRowD _ _ _ _ (Nat.le_refl _))⟩
  obtain rfl : kd = 83 := by simpa using h2
  rw [if_neg (by simp)] at HU
  clear h1 h2
  obtain ⟨k, hk⟩ : ∃ k, (rd d).2.1 = k := ⟨_, rfl⟩
  obtain ⟨e1, he1⟩ : ∃ e, (rd d).2.2 = e := ⟨_, rfl⟩
  obtain ⟨i1, hi1⟩ : ∃ i, rdI d = i := ⟨_, rfl⟩
  obtain ⟨-, -, -, r4⟩ := rd_facts d
  rw [hk, he1] at r4
  rw [he1, hi1, hk] at HU
  have HR1 := hide (And.intro hi1 (And.intro hk he1))
  clear hi1 hk he1
  by_cases h3 : e1 ≠ 0
  · rw [if_pos (.inl h3)] at HU
    have hne : ((e1 : Int) != 0) = true := by rw [bne_iff_ne]; omega
    clear r4
    go_wp2_with (first | (go_at_call 71; refine (Int_nm _ d _ _ _ _ (unhide HL) (unhide HR1).1 (unhide HR1).2.1 (unhide HR1).2.2).mono ?_; rintro e w' ⟨rfl, rfl⟩) | (refine wpList_store_row rfl 101 (.tmp 4) (.tmp 42) rfl w.heap.size slot0 rfl rfl 101 slot0 (unhide HS) sizeSlot rfl (one_slot _ _ _ _ _ _) ?_))
    (try simp only [Exit.inBlock, Exit.then])
    refine bodyPost_ret (v := .agg slot0) (results_cell_row rfl _ _ w.heap.size 101 slot0 (0, 0) _ rfl (setRow_heap _ _ _ _ _ _ (unhide HS)) Tryz.underlying101 rfl sizeSlot) rfl ⟨none, 0, 0, by rw [← HU]; rfl, fun _ h => by (cases h), by rw [← HU]; exact nil_sl _, (unhide HB).trans (below_setRowD _ _ _ _ (Nat.le_refl _))⟩
  obtain rfl : e1 = 0 := by omega
  obtain ⟨r1, r2, r3⟩ := r4 rfl
  by_cases h4 : i1 ≠ at_
  · rw [if_pos (.inr h4)] at HU
    have hne : (i1 != at_) = true := by rw [bne_iff_ne]; exact h4
    go_wp2_with (first | (go_at_call 71; refine (Int_nm _ d _ _ _ _ (unhide HL) (unhide HR1).1 (unhide HR1).2.1 (unhide HR1).2.2).mono ?_; rintro e w' ⟨rfl, rfl⟩) | (refine wpList_store_row rfl 101 (.tmp 4) (.tmp 42) rfl w.heap.size slot0 rfl rfl 101 slot0 (unhide HS) sizeSlot rfl (one_slot _ _ _ _ _ _) ?_))
    (try simp only [Exit.inBlock, Exit.then])
    refine bodyPost_ret (v := .agg slot0) (results_cell_row rfl _ _ w.heap.size 101 slot0 (0, 0) _ rfl (setRow_heap _ _ _ _ _ _ (unhide HS)) Tryz.underlying101 rfl sizeSlot) rfl ⟨none, 0, 0, by rw [← HU]; rfl, fun _ h => by (cases h), by rw [← HU]; exact nil_sl _, (unhide HB).trans (below_setRowD _ _ _ _ (Nat.le_refl _))⟩
  obtain rfl : i1 = at_ := by simpa using h4
  rw [if_neg (by simp)] at HU
  rcases (unhide HL).cases with ⟨rfl, ao, hz⟩ | ⟨b, off, cap, hz, l1, l2, l3, lc⟩
  · simp at r2; omega
  have hbg := unhide HN _ _ _ _ hz
  clear HN
  obtain ⟨l, hl⟩ : ∃ l, l = d.drop k := ⟨_, rfl⟩
  rw [← hl] at HU
  have hll : l.length = d.length - k := by rw [hl, List.length_drop]
  obtain ⟨rfl, rfl, rfl⟩ : a = some ⟨b, off, none⟩ ∧ n = d.length ∧ cap = c := by simpa [eq_comm] using hz
  clear hz h3 h4 r4
  by_cases h5 : cap = k
  · have hl0 : l = [] := List.eq_nil_of_length_eq_zero (by omega)
    rw [if_pos (by rw [hl0]; simp)] at HU
    subst h5
    have e5 : d.length - cap = 0 := by omega
    have HS5 : Hid (Sl (w1.alloc (.cells #[bv 83, .slice (some ⟨b, off, none⟩) d.length cap] 126)) (.slice (some ⟨b, off, none⟩) 0 0) []) := hide ⟨_, 0, rfl, by simp, by simp [maxLen], fun h => absurd rfl h⟩
    have HLC := hide lc
    clear hl hl0 lc
    go_wp2_with (first | (go_at_call 71; refine (Int_nm _ d _ _ _ _ (unhide HL) (unhide HR1).1 (unhide HR1).2.1 (unhide HR1).2.2).mono ?_; rintro e w' ⟨rfl, rfl⟩) | fail)
    refine (U32_short _ [] _ (unhide HS5) (by decide)).mono ?_
    rintro e w3 ⟨rfl, b3⟩
    have HS3 : Hid (w3.heap[w.heap.size]? = some (.cells slot0 101 (0, 0))) := hide (((b3 (w.heap.size + 1)).block _ (by omega)).trans (unhide HS))
    have HB3 := hide ((unhide HB).trans (b3 _))
    have HB3' := hide b3
    clear b3
    go_wp2_with (first | (refine wpList_store_row rfl 101 (.tmp 4) (.tmp 53) rfl w.heap.size slot0 rfl rfl 101 slot0 (unhide HS3) sizeSlot rfl (one_slot _ _ _ _ _ _) ?_))
    (try simp only [Exit.inBlock, Exit.then])
    refine bodyPost_ret (v := .agg slot0) (results_cell_row rfl _ _ w.heap.size 101 slot0 (0, 0) _ rfl (setRow_heap _ _ _ _ _ _ (unhide HS3)) Tryz.underlying101 rfl sizeSlot) rfl ⟨none, 0, 0, by rw [← HU]; rfl, fun _ h => by (cases h), by rw [← HU]; exact nil_sl _, (unhide HB3).trans (below_setRowD _ _ _ _ (Nat.le_refl _))⟩
  have HS6 : Hid (Sl (w1.alloc (.cells #[bv 83, .slice (some ⟨b, off, none⟩) d.length cap] 126)) (.slice (some ⟨b, off + k, none⟩) (d.length - k) (cap - k)) l) := hide (by rw [hl]; exact Sl.from b off cap d l3 l1 l2 lc k r2)
  have HG : Hid (∀ j, k + j ≤ d.length → Sl (w1.alloc (.cells #[bv 83, .slice (some ⟨b, off, none⟩) d.length cap] 126)) (.slice (some ⟨b, off + (k + j), none⟩) (d.length - (k + j)) (cap - (k + j))) (l.drop j)) := hide (fun j hj => by rw [hl, List.drop_drop]; exact Sl.from b off cap d l3 l1 l2 lc (k + j) hj)
  clear lc hl
  by_cases h6 : l.length < 4
  · rw [if_pos h6] at HU
    go_wp2_with (first | (go_at_call 71; refine (Int_nm _ d _ _ _ _ (unhide HL) (unhide HR1).1 (unhide HR1).2.1 (unhide HR1).2.2).mono ?_; rintro e w' ⟨rfl, rfl⟩) | fail)
    refine (U32_short _ l _ (unhide HS6) h6).mono ?_
    rintro e w3 ⟨rfl, b3⟩
    have HS3 : Hid (w3.heap[w.heap.size]? = some (.cells slot0 101 (0, 0))) := hide (((b3 (w.heap.size + 1)).block _ (by omega)).trans (unhide HS))
    have HB3 := hide ((unhide HB).trans (b3 _))
    have HB3' := hide b3
    clear b3
    go_wp2_with (first | (refine wpList_store_row rfl 101 (.tmp 4) (.tmp 53) rfl w.heap.size slot0 rfl rfl 101 slot0 (unhide HS3) sizeSlot rfl (one_slot _ _ _ _ _ _) ?_))
    (try simp only [Exit.inBlock, Exit.then])
    refine bodyPost_ret (v := .agg slot0) (results_cell_row rfl _ _ w.heap.size 101 slot0 (0, 0) _ rfl (setRow_heap _ _ _ _ _ _ (unhide HS3)) Tryz.underlying101 rfl sizeSlot) rfl ⟨none, 0, 0, by rw [← HU]; rfl, fun _ h => by (cases h), by rw [← HU]; exact nil_sl _, (unhide HB3).trans (below_setRowD _ _ _ _ (Nat.le_refl _))⟩
  rw [if_neg h6] at HU
  obtain ⟨t, ht⟩ : ∃ t, rd4 l = t := ⟨_, rfl⟩
  rw [ht] at HU
  have HT := hide ht
  clear ht
  go_wp2_with (first | (go_at_call 71; refine (Int_nm _ d _ _ _ _ (unhide HL) (unhide HR1).1 (unhide HR1).2.1 (unhide HR1).2.2).mono ?_; rintro e w' ⟨rfl, rfl⟩) | fail)
  refine (U32_at _ l _ (unhide HS6) (by omega)).mono ?_
  rintro e w3 ⟨rfl, b3⟩
  have HS3 : Hid (w3.heap[w.heap.size]? = some (.cells slot0 101 (0, 0))) := hide (((b3 (w.heap.size + 1)).block _ (by omega)).trans (unhide HS))
  have HB3 := hide ((unhide HB).trans (b3 _))
  have HB3' := hide b3
  clear b3
  rw [unhide HT]
  have HG3 : Hid (∀ j, k + j ≤ d.length → Sl w3 (.slice (some ⟨b, off + (k + j), none⟩) (d.length - (k + j)) (cap - (k + j))) (l.drop j)) := hide (fun j hj => (unhide HG j hj).below (unhide HB3' _) (Nat.le_refl _))
  have s3 := (unhide HB3' 0).size
  clear HG HS6 HS HB HL HB3' HR1 HT
  obtain ⟨m, hm⟩ : ∃ m, m = l.drop 4 := ⟨_, rfl⟩
  have hml : m.length = d.length - k - 4 := by rw [hm, List.length_drop, hll]
  rw [← hm] at HU
  obtain ⟨k2, hk2⟩ : ∃ k, (rd m).2.1 = k := ⟨_, rfl⟩
  obtain ⟨e2, he2⟩ : ∃ e, (rd m).2.2 = e := ⟨_, rfl⟩
  obtain ⟨i2, hi2⟩ : ∃ i, rdI m = i := ⟨_, rfl⟩
  obtain ⟨-, -, -, r4⟩ := rd_facts m
  rw [hk2, he2] at r4
  rw [he2, hi2, hk2] at HU
  have HR2 := hide (And.intro hi2 (And.intro hk2 he2))
  clear hi2 hk2 he2
  have l4 : 4 ≤ l.length := by omega
  by_cases h7 : cap - k = 4
  · have hm0 : m = [] := List.eq_nil_of_length_eq_zero (by omega)
    have e7 : d.length - k - 4 = 0 := by omega
    have HS7 : Hid (Sl w3 (.slice (some ⟨b, off + k, none⟩) 0 0) m) := hide ⟨_, 0, by rw [hm0]; rfl, by rw [hm0]; simp, by simp [maxLen], fun h => absurd rfl h⟩
    have h8 : e2 ≠ 0 := fun h => by have := (r4 h).2.1; have := (r4 h).1; rw [hm0] at *; simp at *; omega
    rw [if_pos (.inl h8)] at HU
    have hne : ((e2 : Int) != 0) = true := by rw [bne_iff_ne]; omega
    clear r4 hm hm0
    go_wp2_with (first | (go_at_call 71; refine (Int_nm _ m _ _ _ _ (unhide HS7) (unhide HR2).1 (unhide HR2).2.1 (unhide HR2).2.2).mono ?_; rintro e w' ⟨rfl, rfl⟩) | (refine wpList_store_row rfl 101 (.tmp 4) (.tmp 75) rfl w.heap.size slot0 rfl rfl 101 slot0 (unhide HS3) sizeSlot rfl (one_slot _ _ _ _ _ _) ?_))
    (try simp only [Exit.inBlock, Exit.then])
    refine bodyPost_ret (v := .agg slot0) (results_cell_row rfl _ _ w.heap.size 101 slot0 (0, 0) _ rfl (setRow_heap _ _ _ _ _ _ (unhide HS3)) Tryz.underlying101 rfl sizeSlot) rfl ⟨none, 0, 0, by rw [← HU]; rfl, fun _ h => by (cases h), by rw [← HU]; exact nil_sl _, (unhide HB3).trans (below_setRowD _ _ _ _ (Nat.le_refl _))⟩
  have HS7 : Hid (Sl w3 (.slice (some ⟨b, off + k + 4, none⟩) (d.length - k - 4) (cap - k - 4)) m) := hide (by
    have := unhide HG3 4 (by omega)
    rw [← hm] at this
    rw [Nat.add_assoc, Nat.sub_sub, Nat.sub_sub]
    exact this)
  have HG4 : Hid (k2 ≤ m.length → Sl w3 (.slice (some ⟨b, off + k + 4 + k2, none⟩) (d.length - k - 4 - k2) (cap - k - 4 - k2)) (m.drop k2)) := hide (fun hj => by
    have := unhide HG3 (4 + k2) (by omega)
    rw [← List.drop_drop, ← hm] at this
    rw [Nat.sub_sub, Nat.sub_sub, Nat.sub_sub, Nat.sub_sub, show off + k + 4 + k2 = off + (k + (4 + k2)) by omega, show k + (4 + k2) = k + (4 + k2) from rfl]
    exact this)
  clear HG3 hm
  by_cases h8 : e2 ≠ 0
  · rw [if_pos (.inl h8)] at HU
    have hne : ((e2 : Int) != 0) = true := by rw [bne_iff_ne]; omega
    clear r4
    go_wp2_with (first | (go_at_call 71; refine (Int_nm _ m _ _ _ _ (unhide HS7) (unhide HR2).1 (unhide HR2).2.1 (unhide HR2).2.2).mono ?_; rintro e w' ⟨rfl, rfl⟩) | (refine wpList_store_row rfl 101 (.tmp 4) (.tmp 75) rfl w.heap.size slot0 rfl rfl 101 slot0 (unhide HS3) sizeSlot rfl (one_slot _ _ _ _ _ _) ?_))
    (try simp only [Exit.inBlock, Exit.then])
    refine bodyPost_ret (v := .agg slot0) (results_cell_row rfl _ _ w.heap.size 101 slot0 (0, 0) _ rfl (setRow_heap _ _ _ _ _ _ (unhide HS3)) Tryz.underlying101 rfl sizeSlot) rfl ⟨none, 0, 0, by rw [← HU]; rfl, fun _ h => by (cases h), by rw [← HU]; exact nil_sl _, (unhide HB3).trans (below_setRowD _ _ _ _ (Nat.le_refl _))⟩
  obtain rfl : e2 = 0 := by omega
  obtain ⟨q1, q2, q3⟩ := r4 rfl
  clear r4
  by_cases h9 : i2 < 0
  · rw [if_pos (.inr (.inl h9))] at HU
    go_wp2_with (first | (go_at_call 71; refine (Int_nm _ m _ _ _ _ (unhide HS7) (unhide HR2).1 (unhide HR2).2.1 (unhide HR2).2.2).mono ?_; rintro e w' ⟨rfl, rfl⟩) | (refine wpList_store_row rfl 101 (.tmp 4) (.tmp 75) rfl w.heap.size slot0 rfl rfl 101 slot0 (unhide HS3) sizeSlot rfl (one_slot _ _ _ _ _ _) ?_))
    (try simp only [Exit.inBlock, Exit.then])
    refine bodyPost_ret (v := .agg slot0) (results_cell_row rfl _ _ w.heap.size 101 slot0 (0, 0) _ rfl (setRow_heap _ _ _ _ _ _ (unhide HS3)) Tryz.underlying101 rfl sizeSlot) rfl ⟨none, 0, 0, by rw [← HU]; rfl, fun _ h => by (cases h), by rw [← HU]; exact nil_sl _, (unhide HB3).trans (below_setRowD _ _ _ _ (Nat.le_refl _))⟩
  by_cases h10 : 400 < m.length - k2
  · rw [if_pos (.inr (.inr h10))] at HU
    have h11 : (400 : Int) < ((d.length - k - 4 : Nat) : Int) - (k2 : Int) := by omega
    go_wp2_with (first | (go_at_call 71; refine (Int_nm _ m _ _ _ _ (unhide HS7) (unhide HR2).1 (unhide HR2).2.1 (unhide HR2).2.2).mono ?_; rintro e w' ⟨rfl, rfl⟩) | (refine wpList_store_row rfl 101 (.tmp 4) (.tmp 75) rfl w.heap.size slot0 rfl rfl 101 slot0 (unhide HS3) sizeSlot rfl (one_slot _ _ _ _ _ _) ?_))
    (try simp only [Exit.inBlock, Exit.then])
    refine bodyPost_ret (v := .agg slot0) (results_cell_row rfl _ _ w.heap.size 101 slot0 (0, 0) _ rfl (setRow_heap _ _ _ _ _ _ (unhide HS3)) Tryz.underlying101 rfl sizeSlot) rfl ⟨none, 0, 0, by rw [← HU]; rfl, fun _ h => by (cases h), by rw [← HU]; exact nil_sl _, (unhide HB3).trans (below_setRowD _ _ _ _ (Nat.le_refl _))⟩
  rw [if_neg (by simp; omega)] at HU
  have h11 : ¬ (400 : Int) < ((d.length - k - 4 : Nat) : Int) - (k2 : Int) := by omega
  by_cases h12 : cap - k - 4 = k2
  · have HS8 : Hid (Sl w3 (.slice (some ⟨b, off + k + 4, none⟩) (d.length - k - 4) k2) m) := hide (by have := unhide HS7; rwa [h12] at this)
    have HD : Hid (Sl w3 (.slice (some ⟨b, off + k + 4, none⟩) (d.length - k - 4 - k2) 0) (m.drop k2)) := hide ⟨_, 0, by rw [List.length_drop, hml], by rw [List.length_drop]; omega, by simp [maxLen], fun h => absurd rfl h⟩
    go_wp2_with (first | (go_at_call 71; refine (Int_nm _ m _ _ _ _ (unhide HS8) (unhide HR2).1 (unhide HR2).2.1 (unhide HR2).2.2).mono ?_; rintro e w' ⟨rfl, rfl⟩) | (refine wpList_store_row rfl 101 (.tmp 4) (.tmp 81) rfl w.heap.size _ rfl rfl 101 slot0 (unhide HS3) sizeSlot rfl (one_slot _ _ _ _ _ _) ?_))
    (try simp only [Exit.inBlock, Exit.then])
    refine bodyPost_ret (v := .agg #[.bool true, .int .u32 (t : Nat), .int .i64 i2, .slice (some ⟨b, off + k + 4, none⟩) (d.length - k - 4 - k2) 0]) (results_cell_row rfl _ _ w.heap.size 101 _ (0, 0) _ rfl (setRow_heap _ _ _ _ _ _ (unhide HS3)) Tryz.underlying101 rfl sizeSlot) rfl ⟨_, _, _, by rw [← HU], fun ad h => by (obtain rfl := Option.some.inj h; exact Nat.le_of_lt hbg), by rw [← HU]; exact (unhide HD).setRow _ (by omega), (unhide HB3).trans (below_setRowD _ _ _ _ (Nat.le_refl _))⟩
  · go_wp2_with (first | (go_at_call 71; refine (Int_nm _ m _ _ _ _ (unhide HS7) (unhide HR2).1 (unhide HR2).2.1 (unhide HR2).2.2).mono ?_; rintro e w' ⟨rfl, rfl⟩) | (refine wpList_store_row rfl 101 (.tmp 4) (.tmp 81) rfl w.heap.size _ rfl rfl 101 slot0 (unhide HS3) sizeSlot rfl (one_slot _ _ _ _ _ _) ?_))
    (try simp only [Exit.inBlock, Exit.then])
    refine bodyPost_ret (v := .agg #[.bool true, .int .u32 (t : Nat), .int .i64 i2, .slice (some ⟨b, off + k + 4 + k2, none⟩) (d.length - k - 4 - k2) (cap - k - 4 - k2)]) (results_cell_row rfl _ _ w.heap.size 101 _ (0, 0) _ rfl (setRow_heap _ _ _ _ _ _ (unhide HS3)) Tryz.underlying101 rfl sizeSlot) rfl ⟨_, _, _, by rw [← HU], fun ad h => by (obtain rfl := Option.some.inj h; exact Nat.le_of_lt hbg), by rw [← HU]; exact (unhide HG4 q2).setRow _ (by omega), (unhide HB3).trans (below_setRowD _ _ _ _ (Nat.le_refl _))⟩
end Go.Proofs.YtfnhhjpebilacaaGreat

/-
  DERIVED. kept: what a crash leaves of a block.
-/
namespace Go.Proofs.YtfnhhjpebilacaaGreat
open Go.RowKit
set_option linter.unusedVariables false

/-- What a pick picks among so many writes: 0 is what was flushed. -/
def pickR (p : Int) (L : Nat) : Nat := (if p < 0 then -(p + 1) else p).toNat % (L + 1)

theorem tm_neg (p : Int) (hn : p < 0) (L : Nat) : -((p + 1).tmod ((L : Int) + 1)) = (pickR p L : Int) := by
  unfold pickR
  rw [if_pos hn]
  obtain ⟨x, hx⟩ : ∃ x : Nat, p + 1 = -(x : Int) := ⟨(-(p + 1)).toNat, by omega⟩
  rw [hx, Int.neg_tmod, Int.neg_neg, Int.neg_neg, Int.toNat_natCast]
  rfl
theorem tm_pos (p : Int) (hn : ¬ p < 0) (L : Nat) : p.tmod ((L : Int) + 1) = (pickR p L : Int) := by
  unfold pickR
  rw [if_neg hn]
  obtain ⟨x, rfl⟩ : ∃ x : Nat, p = (x : Int) := ⟨p.toNat, by omega⟩
  rw [Int.toNat_natCast]
  rfl

set_option maxRecDepth 20000 in
theorem kept_old {g n c : Nat} {b : Nat} {pm : Value} {fused : Bool} {fuse : Int} {down : Bool} {ops : Int} (w : World) (k : Nat) (p : Int) (ao : Option Addr) (L cap : Nat) (cs : List Value)
    (h : DevAt w b (.slice (some ⟨g, 0, none⟩) n c) pm fused fuse down ops) (hk : k < n) (p1 : -9223372036854775808 ≤ p) (p2 : p < 9223372036854775808) (hL : L < 9223372036854775807)
    (hl : ∀ o, (Instr.lookup 66 pm (.int .i64 k) false).run Tryz.prog (w.alloc o) = .ok (.slice ao L cap) (w.alloc o)) (hp : pickR p L = 0)
    (hr : w.rangeAt g (k * 512) cs) (hc : cs.length = 512) (h1 : ∀ v ∈ cs, v.oneCell' = true) :
    Calls Tryz.prog 39 #[.pointer (some ⟨b, 0, none⟩), .int .i64 k, .int .i64 p] w fun e w' => e = .returned (.agg cs.toArray) ∧ Below w.heap.size w w' := by
  have HB := hide ((Below.refl w.heap.size w).alloc (Nat.le_refl _) (.cells (noughts 512) 84))
  have h' : DevAt (w.alloc (.cells (noughts 512) 84)) b (.slice (some ⟨g, 0, none⟩) n c) pm fused fuse down ops := h.below (unhide HB) h.lt
  have c0 := h'.c0
  have c1 := h'.c1
  have hl' := hl (.cells (noughts 512) 84)
  have HR := hide (World.rangeAt_alloc hr (.cells (noughts 512) 84))
  clear h h' hl hr
  have H0 := hide (heap_alloc_self w (.cells (noughts 512) 84))
  have HS : Hid (cs.toArray.size = 512) := hide (by simpa using hc)
  by_cases hn : p < 0
  · have ht : -((p + 1).tmod ((L : Int) + 1)) = 0 := by rw [tm_neg p hn L, hp]; rfl
    clear hp
    go_enter Tryz.func39, Tryz.ntmps39
    go_wp2_with (first | (refine wpList_alloc_block rfl rfl ?_) | (refine wpList_load_mid rfl 84 (.tmp 32) rfl g (k * 512) rfl cs _ (unhide HR) Tryz.underlying84 rfl (by rw [hc]; exact sizeBlock) ?_) | (refine wpList_store_row rfl 84 (.tmp 6) (.tmp 33) rfl w.heap.size cs.toArray rfl rfl 84 (noughts 512) (unhide H0) (by rw [unhide HS]; exact sizeBlock) (by rw [unhide HS, size_noughts]) (all_oneCell_toArray h1) ?_))
    refine bodyPost_ret (v := .agg cs.toArray) (results_cell_row rfl _ _ w.heap.size 84 cs.toArray (0, 0) _ rfl (setRow_heap _ _ _ _ _ _ (unhide H0)) Tryz.underlying84 rfl (by rw [unhide HS]; exact sizeBlock)) rfl ⟨rfl, ?_⟩
    exact (unhide HB).trans (below_setRowD _ _ _ _ (Nat.le_refl _))
  · have ht : p.tmod ((L : Int) + 1) = 0 := by rw [tm_pos p hn L, hp]; rfl
    clear hp
    go_enter Tryz.func39, Tryz.ntmps39
    go_wp2_with (first | (refine wpList_alloc_block rfl rfl ?_) | (refine wpList_load_mid rfl 84 (.tmp 32) rfl g (k * 512) rfl cs _ (unhide HR) Tryz.underlying84 rfl (by rw [hc]; exact sizeBlock) ?_) | (refine wpList_store_row rfl 84 (.tmp 6) (.tmp 33) rfl w.heap.size cs.toArray rfl rfl 84 (noughts 512) (unhide H0) (by rw [unhide HS]; exact sizeBlock) (by rw [unhide HS, size_noughts]) (all_oneCell_toArray h1) ?_))
    refine bodyPost_ret (v := .agg cs.toArray) (results_cell_row rfl _ _ w.heap.size 84 cs.toArray (0, 0) _ rfl (setRow_heap _ _ _ _ _ _ (unhide H0)) Tryz.underlying84 rfl (by rw [unhide HS]; exact sizeBlock)) rfl ⟨rfl, ?_⟩
    exact (unhide HB).trans (below_setRowD _ _ _ _ (Nat.le_refl _))

set_option maxRecDepth 20000 in
theorem kept_new {b : Nat} {fl pm : Value} {fused : Bool} {fuse : Int} {down : Bool} {ops : Int} (w : World) (k : Nat) (p : Int) (q L cap j : Nat) (cs : List Value)
    (h : DevAt w b fl pm fused fuse down ops) (p1 : -9223372036854775808 ≤ p) (p2 : p < 9223372036854775808) (hL : L < 9223372036854775807)
    (hl : ∀ o, (Instr.lookup 66 pm (.int .i64 k) false).run Tryz.prog (w.alloc o) = .ok (.slice (some ⟨q, 0, none⟩) L cap) (w.alloc o)) (hp : pickR p L = j + 1)
    (hr : w.rangeAt q (j * 512) cs) (hc : cs.length = 512) (h1 : ∀ v ∈ cs, v.oneCell' = true) :
    Calls Tryz.prog 39 #[.pointer (some ⟨b, 0, none⟩), .int .i64 k, .int .i64 p] w fun e w' => e = .returned (.agg cs.toArray) ∧ Below w.heap.size w w' := by
  have HB := hide ((Below.refl w.heap.size w).alloc (Nat.le_refl _) (.cells (noughts 512) 84))
  have h' : DevAt (w.alloc (.cells (noughts 512) 84)) b fl pm fused fuse down ops := h.below (unhide HB) h.lt
  have hlt : pickR p L < L + 1 := Nat.mod_lt _ (by omega)
  have hj : j < L := by omega
  clear hlt
  have c1 := h'.c1
  have hl' := hl (.cells (noughts 512) 84)
  have HR := hide (World.rangeAt_alloc hr (.cells (noughts 512) 84))
  clear h h' hl hr
  have H0 := hide (heap_alloc_self w (.cells (noughts 512) 84))
  have HS : Hid (cs.toArray.size = 512) := hide (by simpa using hc)
  by_cases hn : p < 0
  · have ht : -((p + 1).tmod ((L : Int) + 1)) = ((j : Int) + 1) := by rw [tm_neg p hn L, hp]; rfl
    clear hp
    go_enter Tryz.func39, Tryz.ntmps39
    go_wp2_with (first | (refine wpList_alloc_block rfl rfl ?_) | (refine wpList_load_mid rfl 84 (.tmp 37) rfl q (j * 512) rfl cs _ (unhide HR) Tryz.underlying84 rfl (by rw [hc]; exact sizeBlock) ?_) | (refine wpList_store_row rfl 84 (.tmp 6) (.tmp 38) rfl w.heap.size cs.toArray rfl rfl 84 (noughts 512) (unhide H0) (by rw [unhide HS]; exact sizeBlock) (by rw [unhide HS, size_noughts]) (all_oneCell_toArray h1) ?_))
    refine bodyPost_ret (v := .agg cs.toArray) (results_cell_row rfl _ _ w.heap.size 84 cs.toArray (0, 0) _ rfl (setRow_heap _ _ _ _ _ _ (unhide H0)) Tryz.underlying84 rfl (by rw [unhide HS]; exact sizeBlock)) rfl ⟨rfl, ?_⟩
    exact (unhide HB).trans (below_setRowD _ _ _ _ (Nat.le_refl _))
  · have ht : p.tmod ((L : Int) + 1) = ((j : Int) + 1) := by rw [tm_pos p hn L, hp]; rfl
    clear hp
    go_enter Tryz.func39, Tryz.ntmps39
    go_wp2_with (first | (refine wpList_alloc_block rfl rfl ?_) | (refine wpList_load_mid rfl 84 (.tmp 37) rfl q (j * 512) rfl cs _ (unhide HR) Tryz.underlying84 rfl (by rw [hc]; exact sizeBlock) ?_) | (refine wpList_store_row rfl 84 (.tmp 6) (.tmp 38) rfl w.heap.size cs.toArray rfl rfl 84 (noughts 512) (unhide H0) (by rw [unhide HS]; exact sizeBlock) (by rw [unhide HS, size_noughts]) (all_oneCell_toArray h1) ?_))
    refine bodyPost_ret (v := .agg cs.toArray) (results_cell_row rfl _ _ w.heap.size 84 cs.toArray (0, 0) _ rfl (setRow_heap _ _ _ _ _ _ (unhide H0)) Tryz.underlying84 rfl (by rw [unhide HS]; exact sizeBlock)) rfl ⟨rfl, ?_⟩
    exact (unhide HB).trans (below_setRowD _ _ _ _ (Nat.le_refl _))

end Go.Proofs.YtfnhhjpebilacaaGreat

/-
  DERIVED. Read.
-/
namespace Go.Proofs.YtfnhhjpebilacaaGreat
open Go.RowKit
set_option linter.unusedVariables false

section
variable {w : World} {b : Nat} {pm : Value} {fused : Bool} {fuse : Int} {down : Bool} {ops : Int} {a : Option Addr} {n c : Nat}

theorem Read_closed (k : Int) (h : DevAt w b (.slice a n c) pm fused fuse down ops) (hE : openE n down k ≠ 0) :
    Calls Tryz.prog 25 #[.pointer (some ⟨b, 0, none⟩), .int .i64 k] w fun e w' => e = .returned (.tuple #[.slice none 0 0, .int .i64 (openE n down k)]) ∧ w = w' := by
  have HD := hide h
  clear h
  have hne : (openE n down k != 0) = true := by rw [bne_iff_ne]; exact hE
  go_enter Tryz.func25, Tryz.ntmps25
  go_wp2_with (go_at_call 49; refine (open_dev k (unhide HD)).mono ?_; rintro e w' ⟨rfl, rfl⟩)
  go_ret2
  exact ⟨rfl, rfl⟩

theorem Read_burnt (k : Int) (h : DevAt w b (.slice a n c) pm fused fuse down ops) (hE : openE n down k = 0) (hB : burnE fused fuse ≠ 0) (f1 : 0 ≤ fuse) (f2 : fuse < 9223372036854775808) (o1 : 0 ≤ ops) (o2 : ops < 9223372036854775807) :
    Calls Tryz.prog 25 #[.pointer (some ⟨b, 0, none⟩), .int .i64 k] w fun e w' => e = .returned (.tuple #[.slice none 0 0, .int .i64 (burnE fused fuse)]) ∧ DevAt w' b (.slice a n c) pm fused (burnF fused fuse) (burnD fused fuse down) (burnO fused fuse ops) ∧ Only b w w' := by
  have HD := hide h
  clear h
  have hne : (burnE fused fuse != 0) = true := by rw [bne_iff_ne]; exact hB
  go_enter Tryz.func25, Tryz.ntmps25
  go_wp2_with (first | (go_at_call 49; refine (open_dev k (unhide HD)).mono ?_; rintro e w' ⟨rfl, rfl⟩; rw [hE]) | fail)
  refine (burn_dev (unhide HD) f1 f2 o1 o2).mono ?_
  rintro e w1 ⟨rfl, d1, o1⟩
  have H1 := hide (And.intro d1 o1)
  clear d1 o1
  go_wp2
  go_ret2
  exact ⟨rfl, unhide H1⟩

theorem Read_ok (k : Int) (cs : List Value) (h : DevAt w b (.slice a n c) pm fused fuse down ops) (hE : openE n down k = 0) (hB : burnE fused fuse = 0) (f1 : 0 ≤ fuse) (f2 : fuse < 9223372036854775808) (o1 : 0 ≤ ops) (o2 : ops < 9223372036854775807)
    (hc : cs.length = 512) (h1 : ∀ v ∈ cs, v.oneCell' = true)
    (hnew : ∀ w1, Only b w w1 → DevAt w1 b (.slice a n c) pm fused (burnF fused fuse) (burnD fused fuse down) (burnO fused fuse ops) → Calls Tryz.prog 51 #[.pointer (some ⟨b, 0, none⟩), .int .i64 k] w1 fun e w' => e = .returned (.agg cs.toArray) ∧ Below w1.heap.size w1 w') :
    Calls Tryz.prog 25 #[.pointer (some ⟨b, 0, none⟩), .int .i64 k] w fun e w' => ∃ w1 g, e = .returned (.tuple #[.slice (some ⟨g, 0, none⟩) 512 512, .int .i64 0]) ∧ Only b w w1 ∧ DevAt w1 b (.slice a n c) pm fused (burnF fused fuse) (burnD fused fuse down) (burnO fused fuse ops) ∧ Below w1.heap.size w1 w' ∧ w1.heap.size ≤ g ∧ w'.heap[g]? = some (.cells cs.toArray 84 (0, 0)) := by
  have HD := hide h
  have HN := hide hnew
  clear h hnew
  have HS : Hid (cs.toArray.size = 512) := hide (by simpa using hc)
  go_enter Tryz.func25, Tryz.ntmps25
  go_wp2_with (first | (go_at_call 49; refine (open_dev k (unhide HD)).mono ?_; rintro e w' ⟨rfl, rfl⟩; rw [hE]) | fail)
  refine (burn_dev (unhide HD) f1 f2 o1 o2).mono ?_
  rintro e w1 ⟨rfl, d1, o1⟩
  rw [hB]
  have HN1 := hide (unhide HN w1 o1 d1)
  have H1 := hide (And.intro o1 d1)
  clear d1 o1
  go_wp2_with fail
  refine (unhide HN1).mono ?_
  rintro e w2 ⟨rfl, b2⟩
  have H0 := hide (heap_alloc_self w2 (.cells (noughts 512) 84))
  have HB := hide (b2.trans ((Below.refl w1.heap.size w2).alloc b2.size (.cells (noughts 512) 84)))
  have s2 := b2.size
  clear b2
  go_wp2_with (first | (refine wpList_alloc_block rfl rfl ?_) | (refine wpList_store_row rfl 84 (.tmp 8) (.tmp 22) rfl w2.heap.size cs.toArray rfl rfl 84 (noughts 512) (unhide H0) (by rw [unhide HS]; exact sizeBlock) (by rw [unhide HS, size_noughts]) (all_oneCell_toArray h1) ?_))
  go_ret2
  exact ⟨w1, w2.heap.size, rfl, (unhide H1).1, (unhide H1).2, (unhide HB).trans (below_setRowD _ _ _ _ s2), s2, setRow_heap _ _ _ _ _ _ (unhide H0)⟩
end
end Go.Proofs.YtfnhhjpebilacaaGreat

/-
  DERIVED. The walks of check and newer.
-/
namespace Go.Proofs.YtfnhhjpebilacaaGreat
open Go.RowKit
set_option linter.unusedVariables false

theorem check_nil (at_ : Int) (v : Value) (w : World) : Calls Tryz.prog 61 #[.pointer none, .int .i64 at_, v] w fun e w' => e = .returned (.int .i64 1) ∧ w = w' := by
  go_enter Tryz.func61, Tryz.ntmps61
  go_wp2
  go_ret
  exact ⟨rfl, rfl⟩

/-- Which of two slots was written last. -/
def newR (s t : Slot) : Nat := if t.laid = true ∧ (s.laid = false ∨ (0 < (t.turn - s.turn : Int) % 4294967296 ∧ (t.turn - s.turn : Int) % 4294967296 < 2147483648)) then 1 else 0
abbrev twoC (s t : Slot) (a b : Value) : Array Value := #[.bool s.laid, .int .u32 (s.turn : Nat), .int .i64 s.count, a, .bool t.laid, .int .u32 (t.turn : Nat), .int .i64 t.count, b]

set_option maxHeartbeats 1000000 in
theorem follows_any (s t : Slot) (a b : Value) (g : Nat) (w : World) (h : w.heap[g]? = some (.cells (twoC s t a b) 102 (0, 0))) :
    Calls Tryz.prog 74 #[.int .i64 1, .int .i64 0, .pointer (some ⟨g, 0, none⟩)] w fun e w' => e = .returned (.bool (newR s t == 1)) ∧ ∀ B, Below B w w' := by
  have c0 : w.cell? ⟨g, 0, none⟩ = some (.bool s.laid) := by simp [World.cell?, h]
  have c1 : w.cell? ⟨g, 1, none⟩ = some (.int .u32 (s.turn : Nat)) := by simp [World.cell?, h]
  have c4 : w.cell? ⟨g, 4, none⟩ = some (.bool t.laid) := by simp [World.cell?, h]
  have c5 : w.cell? ⟨g, 5, none⟩ = some (.int .u32 (t.turn : Nat)) := by simp [World.cell?, h]
  clear h
  cases hs : s.laid <;> cases ht : t.laid <;> rw [hs] at c0 <;> rw [ht] at c4
  · have e : (newR s t == 1) = false := by unfold newR; rw [hs, ht]; simp
    rw [e]
    go_enter Tryz.func74, Tryz.ntmps74
    go_wp2
    go_quiet (fail)
    go_wp2
    go_ret
    exact ⟨rfl, fun B => below_drewN (Below.refl _ _) _⟩
  · have e : (newR s t == 1) = true := by unfold newR; rw [hs, ht]; simp
    rw [e]
    go_enter Tryz.func74, Tryz.ntmps74
    go_wp2
    go_quiet (fail)
    go_wp2
    go_ret
    exact ⟨rfl, fun B => below_drewN (Below.refl _ _) _⟩
  · have e : (newR s t == 1) = false := by unfold newR; rw [hs, ht]; simp
    rw [e]
    go_enter Tryz.func74, Tryz.ntmps74
    go_wp2
    go_quiet (fail)
    go_wp2
    go_ret
    exact ⟨rfl, fun B => below_drewN (Below.refl _ _) _⟩
  · have HE : Hid (decide (0 < wrap32 (((t.turn : Int) - (s.turn : Int)) % 4294967296)) = (newR s t == 1)) := hide (by
      unfold newR
      rw [hs, ht]
      have hx : 0 ≤ ((t.turn : Int) - (s.turn : Int)) % 4294967296 ∧ ((t.turn : Int) - (s.turn : Int)) % 4294967296 < 4294967296 := by omega
      generalize ((t.turn : Int) - (s.turn : Int)) % 4294967296 = x at hx ⊢
      by_cases h : 0 < x ∧ x < 2147483648
      · rw [if_pos (by simpa using h)]
        simp [wrap32]
        omega
      · rw [if_neg (by simpa using h)]
        simp [wrap32]
        omega)
    go_enter Tryz.func74, Tryz.ntmps74
    go_wp2
    go_quiet (fail)
    go_wp2
    go_ret
    exact ⟨by rw [unhide HE]; rfl, fun B => below_drewN (Below.refl _ _) _⟩

set_option maxHeartbeats 1000000 in
theorem newer_any (s t : Slot) (a b : Value) (w : World) : Calls Tryz.prog 64 #[.agg (twoC s t a b)] w fun e w' => e = .returned (.int .i64 (newR s t : Nat)) ∧ Below w.heap.size w w' := by
  have HW := hide (fun o => ((Below.refl w.heap.size w).alloc (Nat.le_refl _) o))
  by_cases h : newR s t = 1
  · have hq : (newR s t == 1) = true := by rw [h]; rfl
    go_enter Tryz.func64, Tryz.ntmps64
    go_wp2_with fail
    refine (follows_any s t a b w.heap.size _ (heap_alloc_self _ _)).mono ?_
    rintro e w1 ⟨rfl, b1⟩
    have HB := hide ((unhide HW _).trans (b1 _))
    clear b1
    go_wp2
    go_ret
    exact ⟨by rw [h]; rfl, unhide HB⟩
  · have hq : (newR s t == 1) = false := by simpa using h
    have h0 : newR s t = 0 := by unfold newR at h ⊢; split at h <;> simp_all
    go_enter Tryz.func64, Tryz.ntmps64
    go_wp2_with fail
    refine (follows_any s t a b w.heap.size _ (heap_alloc_self _ _)).mono ?_
    rintro e w1 ⟨rfl, b1⟩
    have HB := hide ((unhide HW _).trans (b1 _))
    clear b1
    go_wp2
    go_ret
    exact ⟨by rw [h0]; rfl, unhide HB⟩

section
variable {w : World} {b : Nat} {pm : Value} {fused : Bool} {fuse : Int} {down : Bool} {ops : Int} {a : Option Addr} {n c : Nat}
/-- What check says. -/
def chkE (n : Nat) (at_ : Int) (l : Nat) : Int := if at_ < 0 ∨ at_ > (n : Int) - 2 then 20 else if 400 < l then 31 else 0
set_option maxHeartbeats 1000000 in
theorem check_dev (at_ : Int) (x : Option Addr) (l q : Nat) (h : DevAt w b (.slice a n c) pm fused fuse down ops) (hn : n ≤ 512) :
    Calls Tryz.prog 61 #[.pointer (some ⟨b, 0, none⟩), .int .i64 at_, .slice x l q] w fun e w' => e = .returned (.int .i64 (chkE n at_ l)) ∧ ∀ B, Below B w w' := by
  have HD := hide h
  clear h
  unfold chkE
  by_cases h1 : at_ < 0
  · rw [if_pos (.inl h1)]
    go_enter Tryz.func61, Tryz.ntmps61
    go_wp2_with (first | (go_at_call 40; refine (Blocks_dev (unhide HD)).mono ?_; rintro e w' ⟨rfl, rfl⟩) | fail)
    go_ret
    exact ⟨rfl, fun B => Below.refl _ _⟩
  by_cases h2 : at_ > (n : Int) - 2
  · rw [if_pos (.inr h2)]
    go_enter Tryz.func61, Tryz.ntmps61
    go_wp2_with (first | (go_at_call 40; refine (Blocks_dev (unhide HD)).mono ?_; rintro e w' ⟨rfl, rfl⟩) | fail)
    go_ret
    exact ⟨rfl, fun B => Below.refl _ _⟩
  rw [if_neg (by omega)]
  by_cases h3 : 400 < l
  · rw [if_pos h3]
    go_enter Tryz.func61, Tryz.ntmps61
    go_wp2_with (first | (go_at_call 40; refine (Blocks_dev (unhide HD)).mono ?_; rintro e w' ⟨rfl, rfl⟩) | fail)
    go_ret
    exact ⟨rfl, fun B => Below.refl _ _⟩
  · rw [if_neg h3]
    go_enter Tryz.func61, Tryz.ntmps61
    go_wp2_with (first | (go_at_call 40; refine (Blocks_dev (unhide HD)).mono ?_; rintro e w' ⟨rfl, rfl⟩) | fail)
    go_ret
    exact ⟨rfl, fun B => Below.refl _ _⟩
end
end Go.Proofs.YtfnhhjpebilacaaGreat

/-
  DERIVED. The document's Pick, to the letter.
-/
namespace Go.Proofs.YtfnhhjpebilacaaGreat
open Go.RowKit
set_option linter.unusedVariables false

theorem Pick_eq (p : Int) (L : Nat) (w : World) (p1 : -9223372036854775808 ≤ p) (p2 : p < 9223372036854775808) (hL : L < 9223372036854775807) :
    Calls Tryz.prog 29 #[.int .i64 p, .int .i64 ((L : Int) + 1)] w fun e w' => e = .returned (.int .i64 (pickR p L)) ∧ w = w' := by
  have hpos : (L : Int) + 1 ≠ 0 := by omega
  by_cases hn : p < 0
  · have ht := tm_neg p hn L
    go_enter Tryz.func29, Tryz.ntmps29
    go_wp2
    go_ret
    exact ⟨rfl, rfl⟩
  · have ht := tm_pos p hn L
    go_enter Tryz.func29, Tryz.ntmps29
    go_wp2
    go_ret
    exact ⟨rfl, rfl⟩

theorem Pick_byte (p : Int) (w : World) (p1 : -9223372036854775808 ≤ p) (p2 : p < 9223372036854775808) :
    Calls Tryz.prog 29 #[.int .i64 p, .int .i64 256] w fun e w' => e = .returned (.int .i64 (pickR p 255)) ∧ w = w' :=
  Pick_eq p 255 w p1 p2 (by omega)
end Go.Proofs.YtfnhhjpebilacaaGreat

/-
  DERIVED. A block of memory that holds bytes; make([]byte, 512).
-/
namespace Go.Proofs.YtfnhhjpebilacaaGreat
open Go.RowKit
set_option linter.unusedVariables false

/-- A block of memory that holds these bytes and nothing else. -/
def Row (w : World) (g : Nat) (L : List UInt8) : Prop := w.heap[g]? = some (.cells (L.map bv).toArray 5 (0, 0))
theorem Row.cell {w : World} {g : Nat} {L : List UInt8} (h : Row w g L) (i : Nat) (hi : i < L.length) : w.cell? ⟨g, i, none⟩ = some (bv L[i]) := by
  unfold Row at h
  simp [World.cell?, h, List.getElem?_eq_getElem hi]
theorem Row.frozen {w : World} {g : Nat} {L : List UInt8} (h : Row w g L) (i : Nat) : w.frozen? ⟨g, i, none⟩ = false := frozen_of_row w g i _ _ h
theorem Row.set {w : World} {g : Nat} {L : List UInt8} (h : Row w g L) (i : Nat) (x : UInt8) : Row (w.setCell ⟨g, i, none⟩ (bv x)) g (L.set i x) := by
  unfold Row at h ⊢
  rw [heap_setCell_same w g i _ _ _ h]
  congr 2
  apply Array.ext'
  simp [List.map_set]
theorem Row.below {B : Nat} {w w' : World} {g : Nat} {L : List UInt8} (h : Row w g L) (hb : Below B w w') (hg : g < B) : Row w' g L := (hb.block g hg).trans h

theorem fill_set (x : UInt8) (i : Nat) (h : i < 512) : (List.replicate i x ++ List.replicate (512 - i) 0).set i x = List.replicate (i + 1) x ++ List.replicate (512 - (i + 1)) 0 := by
  rw [List.set_append_right _ _ (by simp)]
  have e : 512 - i = (512 - (i + 1)) + 1 := by omega
  rw [e, List.replicate_succ, List.length_replicate, Nat.sub_self, List.set_cons_zero, List.replicate_succ', List.append_assoc]
  rfl

theorem made_bytes : madeCells #[Value.int .u8 0] 512 = ((List.replicate 512 (0 : UInt8)).map bv).toArray := by
  apply Array.ext'
  rw [toList_madeCells_one, List.map_replicate]
  exact congrArg (List.replicate 512) (show Value.int .u8 0 = bv 0 from rfl)

theorem run_make_512 (w : World) : (Instr.makeSlice 34 (.int .i64 512) (.int .i64 512)).run Tryz.prog w = .ok (.slice (some ⟨w.heap.size, 0, none⟩) 512 512) (w.alloc (.cells ((List.replicate 512 (0 : UInt8)).map bv).toArray 5)) := by
  obtain ⟨i, hi, hh⟩ := Option.map_eq_some_iff.1 Tryz.info5
  simp only [Prod.mk.injEq] at hh
  have h := run_make (P := Tryz.prog) w 34 5 i _ Tryz.underlying34 hi hh.1 .i64 .i64 512 512 (by omega) (Int.le_refl _) (by rw [hh.2.2]; omega) (by omega)
  rw [h, hh.2.1]
  show Result.ok _ (w.alloc (.cells (madeCells #[Value.int .u8 0] 512) 5)) = _
  rw [made_bytes]
  rfl

end Go.Proofs.YtfnhhjpebilacaaGreat

/-
  DERIVED. The law's Block: a block of one byte, and a few at its beginning.
-/
namespace Go.Proofs.YtfnhhjpebilacaaGreat
open Go.RowKit
set_option linter.unusedVariables false

/-- So many bytes are filled. -/
def fillL (x : UInt8) (k : Nat) : List UInt8 := List.replicate k x ++ List.replicate (512 - k) 0
theorem fillL_len (x : UInt8) (k : Nat) (h : k ≤ 512) : (fillL x k).length = 512 := by simp [fillL]; omega
theorem fillL_set (x : UInt8) (k : Nat) (h : k < 512) : (fillL x k).set k x = fillL x (k + 1) := fill_set x k h

/-- The bytes of a string that go over, and those that stay. -/
def headL (s : ByteArray) (L : List UInt8) : List UInt8 := s.data.toList.take L.length ++ L.drop s.size

theorem run_copy_str (w : World) (ty : TypeId) (g cap : Nat) (L : List UInt8) (s : ByteArray) (hg : Row w g L) :
    ∃ w', (Builtin.copy_ #[34, 9] ty #[.slice (some ⟨g, 0, none⟩) L.length cap, .string s]).run Tryz.prog w = .ok (goInt (Nat.min s.size L.length)) w' ∧ Row w' g (headL s L) ∧ w' = w.setRow g ((headL s L).map bv).toArray := by
  obtain ⟨m, hm⟩ : ∃ m, m = Nat.min s.size L.length := ⟨_, rfl⟩
  obtain ⟨cs, hcs⟩ : ∃ cs : List Value, cs = List.take m (List.map bv s.data.toList) := ⟨_, rfl⟩
  have hsz : s.data.toList.length = s.size := Array.length_toList
  have hm1 : m ≤ s.size := by rw [hm]; exact Nat.min_le_left _ _
  have hm2 : m ≤ L.length := by rw [hm]; exact Nat.min_le_right _ _
  have hlen : cs.length = m := by rw [hcs, List.length_take, List.length_map, hsz]; exact Nat.min_eq_left hm1
  have h1 : ∀ v ∈ cs, v.oneCell' = true := by
    rw [hcs]
    intro v hv
    obtain ⟨x, _, rfl⟩ := List.mem_map.1 (List.mem_of_mem_take hv)
    rfl
  have hst := run_storeCells_at Tryz.prog g 0 5 cs 0 (L.map bv).toArray w hg (by simp [hlen]; exact hm2) h1
  have hfin : (cs ++ (L.map bv).drop cs.length) = (headL s L).map bv := by
    unfold headL
    rw [hlen, List.map_append, hcs, List.map_take, List.map_drop]
    rcases Nat.le_total s.size L.length with h | h
    · have e : m = s.size := by rw [hm]; exact Nat.min_eq_left h
      rw [e, List.take_of_length_le (by simp [hsz]), List.take_of_length_le (by simp only [List.length_map, hsz]; exact h)]
    · have e : m = L.length := by rw [hm]; exact Nat.min_eq_right h
      rw [e, List.drop_eq_nil_of_le (i := L.length) (by simp), List.drop_eq_nil_of_le (i := s.size) (by simpa using h)]
  obtain ⟨i, hi, hh⟩ := Option.map_eq_some_iff.1 Tryz.info5
  simp only [Prod.mk.injEq] at hh
  refine ⟨w.setRow g ((headL s L).map bv).toArray, ?_, setRow_heap _ _ _ _ _ _ hg, rfl⟩
  rw [← hfin]
  simp only [Nat.zero_add, List.take_zero, List.nil_append] at hst
  simp [Builtin.copy_, run_underlying Tryz.underlying34, Builtin.lenOf, Builtin.firstCells, sizeOf, typeInfo, hi, ← hm]
  rw [← hcs, hst]
  rfl

set_option maxRecDepth 20000 in
theorem Block_any (p : Int) (s : ByteArray) (w : World) (p1 : -9223372036854775808 ≤ p) (p2 : p < 9223372036854775808) :
    Calls Tryz.prog 10 #[.int .i64 p, .string s] w fun e w' => e = .returned (.slice (some ⟨w.heap.size, 0, none⟩) 512 512) ∧ Row w' w.heap.size (headL s (fillL (UInt8.ofNat (pickR p 255)) 512)) ∧ Below w.heap.size w w' := by
  have mk := run_make_512 w
  have HB := hide ((Below.refl w.heap.size w).alloc (Nat.le_refl _) (.cells ((List.replicate 512 (0 : UInt8)).map bv).toArray 5))
  have HR : Hid (Row (w.alloc (.cells ((List.replicate 512 (0 : UInt8)).map bv).toArray 5)) w.heap.size (fillL (UInt8.ofNat (pickR p 255)) 0)) := hide (heap_alloc_self _ _)
  obtain ⟨w0, hw0⟩ : ∃ w0, w0 = w.alloc (.cells ((List.replicate 512 (0 : UInt8)).map bv).toArray 5) := ⟨_, rfl⟩
  rw [← hw0] at mk HB HR
  clear hw0
  go_enter Tryz.func10, Tryz.ntmps10
  go_wp2
  go_loopw [6] (fun i wr => ∃ k : Nat, k ≤ 512 ∧ i = .int .i64 k ∧ Row wr w.heap.size (fillL (UInt8.ofNat (pickR p 255)) k) ∧ Below w.heap.size w wr) (fun i _ => 512 - (intOf i).toNat)
  case atStart => exact ⟨0, by omega, rfl, unhide HR, unhide HB⟩
  case round =>
    obtain ⟨k, hk, rfl, h0, hb⟩ := hrel
    by_cases h5 : k < 512
    · obtain ⟨y, hcl⟩ : ∃ y, wr.cell? ⟨w.heap.size, k, none⟩ = some (.int .u8 y) := ⟨_, h0.cell k (by rw [fillL_len _ _ hk]; exact h5)⟩
      have hfz := h0.frozen k
      have h2 := h0.set k (UInt8.ofNat (pickR p 255))
      rw [fillL_set _ _ h5] at h2
      have H1 := hide h2
      clear h2
      have HB1 := hide (hb.setCell (p := ⟨w.heap.size, k, none⟩) (by simp) (bv (UInt8.ofNat (pickR p 255))))
      clear h0 hb
      go_wp2_with (go_at_call 29; refine (Pick_byte p _ p1 p2).mono ?_; rintro e w' ⟨rfl, rfl⟩)
      have hb8 : ((pickR p 255 : Nat) : Int) % 256 = ((UInt8.ofNat (pickR p 255)).toNat : Int) := by rw [UInt8.toNat_ofNat']; omega
      rw [hb8]
      refine ⟨⟨k + 1, by omega, rfl, unhide H1, unhide HB1⟩, ?_⟩
      simp [intOf]
      omega
    · obtain rfl : k = 512 := by omega
      obtain ⟨w2, hcp, hr2, he2⟩ := run_copy_str wr 3 w.heap.size 512 _ s h0
      rw [fillL_len _ _ hk] at hcp
      have HX := hide (And.intro hr2 (hb.trans (show Below w.heap.size wr w2 by rw [he2]; exact below_setRowD _ _ _ _ (Nat.le_refl _))))
      clear hr2 he2 h0 hb HR mk
      go_wp2
      go_ret
      exact ⟨rfl, unhide HX⟩
end Go.Proofs.YtfnhhjpebilacaaGreat

/-
  DERIVED. The device in memory: what is flushed, what is pending, and which blocks of memory are its own.
-/
namespace Go.Proofs.YtfnhhjpebilacaaGreat
open Go.RowKit Go.Maps
set_option linter.unusedVariables false

abbrev nilS : Value := .slice none 0 0
/-- A map's element, as it is. -/
def rawE (v : Value) : Option (DataW Value × List MemPlace) := some (.held v, [])
/-- Blocks as cells. -/
def cellsOf (bs : List (List UInt8)) : List Value := bs.flatMap fun L => L.map bv
/-- Each is a whole block. -/
def Wide (bs : List (List UInt8)) : Prop := ∀ L ∈ bs, L.length = 512

theorem cellsOf_cons (L : List UInt8) (bs : List (List UInt8)) : cellsOf (L :: bs) = L.map bv ++ cellsOf bs := rfl
theorem cellsOf_append (xs bs : List (List UInt8)) : cellsOf (xs ++ bs) = cellsOf xs ++ cellsOf bs := by simp [cellsOf]
theorem cellsOf_snoc (xs : List (List UInt8)) (L : List UInt8) : cellsOf (xs ++ [L]) = cellsOf xs ++ L.map bv := by simp [cellsOf]
theorem Wide.cons {L : List UInt8} {bs : List (List UInt8)} (h : Wide (L :: bs)) : L.length = 512 ∧ Wide bs := ⟨h L (by simp), fun M hM => h M (by simp [hM])⟩
theorem Wide.snoc {L : List UInt8} {bs : List (List UInt8)} (h : Wide bs) (hL : L.length = 512) : Wide (bs ++ [L]) := by
  intro M hM
  rcases List.mem_append.1 hM with h1 | h1
  · exact h M h1
  · rw [List.mem_singleton.1 h1]; exact hL
theorem Wide.set {L : List UInt8} {bs : List (List UInt8)} (h : Wide bs) (hL : L.length = 512) (k : Nat) : Wide (bs.set k L) := by
  intro M hM
  rcases List.mem_or_eq_of_mem_set hM with h1 | h1
  · exact h M h1
  · rw [h1]; exact hL
theorem cellsOf_len : ∀ {bs : List (List UInt8)}, Wide bs → (cellsOf bs).length = bs.length * 512
  | [], _ => rfl
  | L :: r, h => by
    rw [cellsOf_cons, List.length_append, List.length_map, h.cons.1, cellsOf_len h.cons.2, List.length_cons]; omega
theorem cellsOf_one (bs : List (List UInt8)) : ∀ v ∈ cellsOf bs, v.oneCell' = true := by
  intro v hv
  obtain ⟨L, _, h⟩ := List.mem_flatMap.1 hv
  exact bv_one L v h
/-- The k-th block among the cells. -/
theorem cellsOf_at : ∀ {bs : List (List UInt8)}, Wide bs → ∀ (k : Nat) (hk : k < bs.length) (j : Nat), j < 512 → (cellsOf bs)[k * 512 + j]? = (bs[k].map bv)[j]?
  | [], _, k, hk, _, _ => by simp at hk
  | L :: r, h, 0, _, j, hj => by
    have hl : (L.map bv).length = 512 := by rw [List.length_map]; exact h.cons.1
    rw [cellsOf_cons, Nat.zero_mul, Nat.zero_add, List.getElem?_append_left (by rw [hl]; exact hj)]; rfl
  | L :: r, h, k + 1, hk, j, hj => by
    have hl : (L.map bv).length = 512 := by rw [List.length_map]; exact h.cons.1
    rw [cellsOf_cons, List.getElem?_append_right (by rw [hl]; omega), hl]
    have e : (k + 1) * 512 + j - 512 = k * 512 + j := by omega
    rw [e, cellsOf_at h.cons.2 k (by simpa using hk) j hj]
    rfl
theorem cellsOf_set : ∀ {bs : List (List UInt8)}, Wide bs → ∀ (k : Nat), k < bs.length → ∀ (L : List UInt8), L.length = 512 → cellsOf (bs.set k L) = (cellsOf bs).take (k * 512) ++ L.map bv ++ (cellsOf bs).drop (k * 512 + 512)
  | [], _, k, hk, _, _ => by simp at hk
  | M :: r, h, 0, _, L, hL => by
    have hl : (M.map bv).length = 512 := by rw [List.length_map]; exact h.cons.1
    have e : (M.map bv ++ cellsOf r).drop (0 * 512 + 512) = cellsOf r := by
      rw [List.drop_append_of_le_length (by rw [hl]; omega), List.drop_eq_nil_of_le (by rw [hl]; omega)]; rfl
    rw [List.set_cons_zero, cellsOf_cons, cellsOf_cons, e, Nat.zero_mul, List.take_zero]
    rfl
  | M :: r, h, k + 1, hk, L, hL => by
    have hl : (M.map bv).length = 512 := by rw [List.length_map]; exact h.cons.1
    rw [List.set_cons_succ, cellsOf_cons, cellsOf_cons, cellsOf_set h.cons.2 k (by simpa using hk) L hL]
    have e1 : (k + 1) * 512 = (M.map bv).length + k * 512 := by omega
    have e2 : (k + 1) * 512 + 512 = (M.map bv).length + (k * 512 + 512) := by rw [e1, Nat.add_assoc]
    rw [e2, e1, List.take_length_add_append, List.drop_length_add_append]
    simp [List.append_assoc]

/-- A row of blocks in memory. -/
abbrev Blks (w : World) (v : Value) (bs : List (List UInt8)) : Prop := w.ownsRow 0 84 512 v bs.length (cellsOf bs)

theorem Blks.range {w : World} {q cap : Nat} {bs : List (List UInt8)} {n : Nat} (hw : Wide bs) (h : Blks w (.slice (some ⟨q, 0, none⟩) n cap) bs) (k : Nat) (hk : k < bs.length) : w.rangeAt q (k * 512) (bs[k].map bv) := by
  intro j v hj
  have hjl : j < 512 := by
    have := (List.getElem?_eq_some_iff.1 hj).1
    rw [List.length_map, hw _ (List.getElem_mem hk)] at this
    exact this
  have h1 := World.ownsRow.cells h (g := q) rfl (k * 512 + j) v (by rw [cellsOf_at hw k hk j hjl]; exact hj)
  rw [addr_add, Nat.zero_add] at h1
  exact h1

/-- The writes that are pending: the map, and for each block the row of its writes. -/
structure PendAt (w : World) (F : Nat → Prop) (m g n N : Nat) (pend : Nat → List (List UInt8)) (vf : Nat → Value) (D : DataW Value) : Prop where
  own : w.ownsMap Tryz.prog 3 rawE m N D
  at_ : ∀ k : Nat, k < n → D.atKey (.int .i64 k) (.held nilS) = .held (vf k)
  has : ∀ kl, Maps.has D kl = true ↔ ∃ k : Nat, k < n ∧ pend k ≠ [] ∧ kl = .int .i64 k
  rows : ∀ k, Blks w (vf k) (pend k)
  len : ∀ k, (pend k).length ≤ N
  foot : ∀ k q, (vf k).ownBlock = some q → F q ∧ q ≠ g
  apart : ∀ k k' q, (vf k).ownBlock = some q → (vf k').ownBlock = some q → k = k'
  wide : ∀ k, Wide (pend k)
  out : ∀ k, n ≤ k → pend k = []

/-- What a device is. -/
structure St where
  safe : List (List UInt8)
  pend : Nat → List (List UInt8)
  fused : Bool
  fuse : Int
  down : Bool
  ops : Int

structure DevIn (w : World) (b : Nat) (F : Nat → Prop) (N : Nat) (S : St) (g c m : Nat) (vf : Nat → Value) (D : DataW Value) : Prop where
  dev : DevAt w b (.slice (some ⟨g, 0, none⟩) S.safe.length c) (.map (some m)) S.fused S.fuse S.down S.ops
  safe : Blks w (.slice (some ⟨g, 0, none⟩) S.safe.length c) S.safe
  wide : Wide S.safe
  pend : PendAt w F m g S.safe.length N S.pend vf D
  fb : F b
  fg : F g
  fm : F m
  f1 : 0 ≤ S.fuse
  f2 : S.fuse < 9223372036854775808
  o1 : 0 ≤ S.ops
  o2 : S.ops ≤ N
  n1 : 64 ≤ S.safe.length
  n2 : S.safe.length ≤ 512

/-- The device at block b, all that it has among the blocks of F; N: no list is longer. -/
def Dev (w : World) (b : Nat) (F : Nat → Prop) (N : Nat) (S : St) : Prop := ∃ g c m vf D, DevIn w b F N S g c m vf D

/-- Nothing that was there has turned but blocks of F. -/
structure Kept (F : Nat → Prop) (w w' : World) : Prop where
  os : w'.os = w.os
  tape : w'.tape = w.tape
  output : w'.output = w.output
  size : w.heap.size ≤ w'.heap.size
  block : ∀ k, k < w.heap.size → ¬ F k → w'.heap[k]? = w.heap[k]?

theorem Kept.refl (F : Nat → Prop) (w : World) : Kept F w w := ⟨rfl, rfl, rfl, Nat.le_refl _, fun _ _ _ => rfl⟩
theorem Kept.trans {F : Nat → Prop} {a b c : World} (h : Kept F a b) (k : Kept F b c) : Kept F a c :=
  ⟨k.os.trans h.os, k.tape.trans h.tape, k.output.trans h.output, Nat.le_trans h.size k.size, fun i hi hn => (k.block i (Nat.lt_of_lt_of_le hi h.size) hn).trans (h.block i hi hn)⟩
theorem Kept.mono {F G : Nat → Prop} {a b : World} (h : Kept F a b) (hFG : ∀ k, k < a.heap.size → F k → G k) : Kept G a b :=
  ⟨h.os, h.tape, h.output, h.size, fun i hi hn => h.block i hi fun hf => hn (hFG i hi hf)⟩
theorem Kept.below {F : Nat → Prop} {a b : World} {B : Nat} (h : Kept F a b) (hB : B ≤ a.heap.size) (hF : ∀ k, F k → B ≤ k) : Below B a b :=
  ⟨h.os, h.tape, h.output, h.size, fun i hi => h.block i (by omega) fun hf => by have := hF i hf; omega⟩
theorem Kept.of_below {F : Nat → Prop} {a b : World} (h : Below a.heap.size a b) : Kept F a b := ⟨h.os, h.tape, h.output, h.size, fun i hi _ => h.block i hi⟩
theorem Kept.of_only {F : Nat → Prop} {a b : World} {k : Nat} (h : Only k a b) (hk : F k) : Kept F a b :=
  ⟨(h.below 0 (Nat.zero_le _)).os, (h.below 0 (Nat.zero_le _)).tape, (h.below 0 (Nat.zero_le _)).output, by rw [h.size]; exact Nat.le_refl _, fun i hi hn => h.other i fun e => hn (e ▸ hk)⟩
theorem Kept.of_grown {F : Nat → Prop} {a b : World} {row : Option Nat} (h : a.grownBy b row) (hk : ∀ k, row = some k → F k) : Kept F a b :=
  ⟨h.os, h.tape, h.output, h.size, fun i hi hn => h.block i hi fun e => hn (hk i e.symm)⟩

/-- A row of blocks, where its block of memory stands. -/
theorem Blks.frame {w w' : World} {v : Value} {bs : List (List UInt8)} (h : Blks w v bs) (hk : ∀ q, v.ownBlock = some q → q < w.heap.size → w'.heap[q]? = w.heap[q]?) : Blks w' v bs := by
  obtain ⟨h1, h2⟩ := h
  refine ⟨h1, ?_⟩
  rcases h2 with h2 | ⟨q, cap, cur, rfl, hb, hg, r⟩
  · exact .inl h2
  · exact .inr ⟨q, cap, cur, rfl, hb, (hk q rfl (lt_of_block hg)).trans hg, r⟩

theorem ownsMap_frame {H : Type} {P : Program} {k : TypeId} {R : Value → Option (DataW H × List MemPlace)} {w w' : World} {b n : Nat} {D : DataW H} (h : w.ownsMap P k R b n D) (hk : w'.heap[b]? = w.heap[b]?) : w'.ownsMap P k R b n D := by
  obtain ⟨es, clock, hb, r⟩ := h
  exact ⟨es, clock, hk.trans hb, r⟩

theorem PendAt.frame {w w' : World} {F : Nat → Prop} {m g n N : Nat} {pend : Nat → List (List UInt8)} {vf : Nat → Value} {D : DataW Value} (h : PendAt w F m g n N pend vf D) (hm : F m) (hk : ∀ k, F k → k < w.heap.size → w'.heap[k]? = w.heap[k]?) : PendAt w' F m g n N pend vf D :=
  { h with own := ownsMap_frame h.own (hk m hm h.own.lt), rows := fun k => Blks.frame (h.rows k) fun q hq hlt => hk q (h.foot k q hq).1 hlt }

theorem DevIn.frame {w w' : World} {b : Nat} {F : Nat → Prop} {N : Nat} {S : St} {g c m : Nat} {vf : Nat → Value} {D : DataW Value} (h : DevIn w b F N S g c m vf D) (hk : ∀ k, F k → k < w.heap.size → w'.heap[k]? = w.heap[k]?) : DevIn w' b F N S g c m vf D :=
  { h with dev := (hk b h.fb h.dev.lt).trans h.dev, safe := Blks.frame h.safe fun q hq hlt => hk q (by cases hq; exact h.fg) hlt, pend := h.pend.frame h.fm hk }
theorem Dev.frame {w w' : World} {b : Nat} {F : Nat → Prop} {N : Nat} {S : St} (h : Dev w b F N S) (hk : ∀ k, F k → k < w.heap.size → w'.heap[k]? = w.heap[k]?) : Dev w' b F N S := by
  obtain ⟨g, c, m, vf, D, h⟩ := h
  exact ⟨g, c, m, vf, D, h.frame hk⟩
theorem Dev.grown {w w' : World} {b : Nat} {F : Nat → Prop} {N : Nat} {S : St} (h : Dev w b F N S) (hb : Below w.heap.size w w') : Dev w' b F N S := h.frame fun k _ hk => hb.block k hk
theorem PendAt.mono {w : World} {F G : Nat → Prop} {m g n N M : Nat} {pend : Nat → List (List UInt8)} {vf : Nat → Value} {D : DataW Value} (h : PendAt w F m g n N pend vf D) (hF : ∀ k, F k → G k) (hN : N ≤ M) : PendAt w G m g n M pend vf D :=
  { h with own := h.own.mono hN, len := fun k => Nat.le_trans (h.len k) hN, foot := fun k q hq => ⟨hF _ (h.foot k q hq).1, (h.foot k q hq).2⟩ }
theorem Dev.mono {w : World} {b : Nat} {F G : Nat → Prop} {N M : Nat} {S : St} (h : Dev w b F N S) (hF : ∀ k, F k → G k) (hN : N ≤ M) : Dev w b G M S := by
  obtain ⟨g, c, m, vf, D, h⟩ := h
  exact ⟨g, c, m, vf, D, { h with pend := h.pend.mono hF hN, fb := hF _ h.fb, fg := hF _ h.fg, fm := hF _ h.fm, o2 := by have := h.o2; omega }⟩

theorem keyedInt : Keyed Tryz.prog 3 := int_keyed Tryz.underlying3
theorem zeroBlocks (w : World) : (zeroValue 65).run Tryz.prog w = .ok nilS w := by kernel_rfl
theorem key_int (k : Nat) (h : k < 9223372036854775808) : keyOf Tryz.prog 3 (.int .i64 k) = some (.int .i64 k) := keyOf_int_mk Tryz.underlying3 (WalkArith.wf_i64 (by omega))

/-- What the map holds at a block's number. -/
theorem look_of {w : World} {m N : Nat} {D : DataW Value} {v : Value} (h : w.ownsMap Tryz.prog 3 rawE m N D) (k : Nat) (hk : k < 9223372036854775808) (hat : D.atKey (.int .i64 k) (.held nilS) = .held v) :
    (Instr.lookup 66 (.map (some m)) (.int .i64 k) false).run Tryz.prog w = .ok v w := by
  obtain ⟨u, ps, hrun, hv⟩ := h.lookup keyedInt Tryz.underlying66 (zeroBlocks w) (zd := .held nilS) (zp := []) rfl (key_int k hk)
  rw [hat] at hv
  simp only [rawE, Option.some.injEq, Prod.mk.injEq, DataW.held.injEq] at hv
  rw [hrun, hv.1]
theorem PendAt.look {w : World} {F : Nat → Prop} {m g n N : Nat} {pend : Nat → List (List UInt8)} {vf : Nat → Value} {D : DataW Value} (h : PendAt w F m g n N pend vf D) (k : Nat) (hk : k < n) (hn : n ≤ 512) :
    (Instr.lookup 66 (.map (some m)) (.int .i64 k) false).run Tryz.prog w = .ok (vf k) w := look_of h.own k (by omega) (h.at_ k hk)
end Go.Proofs.YtfnhhjpebilacaaGreat

/-
  DERIVED. A slice of one block, built.
-/
namespace Go.Proofs.YtfnhhjpebilacaaGreat
open Go.RowKit Go.Maps
set_option linter.unusedVariables false

theorem infoBlk : ∃ i, Tryz.prog.info? 84 = some i ∧ i.zero = some (.agg (noughts 512)) ∧ i.size = 512 ∧ i.bytes = 512 := by
  obtain ⟨i, hi, hh⟩ := Option.map_eq_some_iff.1 infoBlock
  simp only [Prod.mk.injEq] at hh
  exact ⟨i, hi, hh.1, hh.2.1, hh.2.2⟩

/-- A slice of one block, out of that block. -/
def mkOne (parts : Array (Nat × Value)) : Sem Value := Instr.buildSlice 65 1 parts
theorem mkOne_eq (parts : Array (Nat × Value)) : Instr.buildSlice 65 1 parts = mkOne parts := rfl
theorem fill_whole (cs : List Value) (z : Array Value) (hz : z.size = cs.length) : ∀ (a b : List Value), cs = a ++ b → ((b.zipIdx a.length).foldl (fun (r : Array Value) (p : Value × Nat) => r.setIfInBounds p.2 p.1) (a.toArray ++ z.extract a.length z.size)) = cs.toArray
  | a, [], h => by
    rw [List.append_nil] at h
    subst h
    simp [← hz]
  | a, x :: b, h => by
    rw [List.zipIdx_cons, List.foldl_cons]
    have hlen : a.length < z.size := by rw [hz, h]; simp
    have e : ((a.toArray ++ z.extract a.length z.size).setIfInBounds a.length x) = ((a ++ [x]).toArray ++ z.extract (a ++ [x]).length z.size) := by
      apply Array.ext
      · simp; omega
      · intro i h1 h2
        have h3 : i < (a.toArray ++ z.extract a.length z.size).size := by simpa using h1
        simp only [Array.size_setIfInBounds, Array.size_append, List.size_toArray, Array.size_extract] at h1
        rw [Array.getElem_setIfInBounds h3]
        by_cases hi : a.length = i
        · subst hi
          simp
        · rw [if_neg hi]
          by_cases hi2 : i < a.length
          · rw [Array.getElem_append_left (by simpa using hi2), Array.getElem_append_left (by simp; omega)]
            simp [List.getElem_append_left hi2]
          · rw [Array.getElem_append_right (by simpa using hi2), Array.getElem_append_right (by simp; omega)]
            simp only [Array.getElem_extract, List.size_toArray, List.length_append, List.length_singleton]
            congr 1
            omega
    rw [e]
    have := fill_whole cs z hz (a ++ [x]) b (by rw [h]; simp)
    rw [List.length_append, List.length_singleton] at this
    rw [List.length_append, List.length_singleton]
    exact this
theorem fill_one (cs : List Value) (hc : cs.length = 512) (z : Array Value) (hzs : z.size = cs.length) : Instr.fill (fun i => some (i * 512, 512)) z [(0, Value.agg cs.toArray)] = some cs.toArray := by
  have hf := fill_whole cs z hzs [] cs rfl
  have e1 : ¬ (((Value.agg cs.toArray).cells.size ≠ 512 || 0 * 512 + (Value.agg cs.toArray).cells.size > z.size) = true) := by
    show ¬ ((cs.toArray.size ≠ 512 || 0 * 512 + cs.toArray.size > z.size) = true)
    rw [List.size_toArray, hzs, hc]; decide
  unfold Instr.fill
  dsimp only
  rw [if_neg e1]
  unfold Instr.fill
  refine congrArg some (Eq.trans ?_ hf)
  show Array.foldl (fun (r : Array Value) (x : Value × Nat) => r.setIfInBounds (0 * 512 + x.snd) x.fst) z cs.toArray.zipIdx = _
  have e4 : ∀ j, 0 * 512 + j = j := fun j => by rw [Nat.zero_mul, Nat.zero_add]
  simp only [e4]
  have e2 : (#[] ++ z.extract ([] : List Value).length z.size : Array Value) = z := by simp
  rw [e2, ← Array.foldl_toList]
  have e3 : cs.toArray.zipIdx.toList = cs.zipIdx := by simp
  rw [e3]
  rfl
theorem run_zeroBlk (w : World) : (zeroValue 84).run Tryz.prog w = .ok (.agg (noughts 512)) w := by kernel_rfl
theorem run_sizeBlk (w : World) : (sizeOf 84).run Tryz.prog w = .ok 512 w := by
  obtain ⟨i, hi, hz, hs, hb⟩ := infoBlk
  simp [sizeOf, typeInfo, hi, hs]
theorem run_mkOne (cs : List Value) (hc : cs.length = 512) (w : World) : (mkOne #[(0, .agg cs.toArray)]).run Tryz.prog w = .ok (.slice (some ⟨w.heap.size, 0, none⟩) 1 1) (w.alloc (.cells cs.toArray 84)) := by
  have hfl := fun z hz => fill_one cs hc z hz
  have hzs : ((Array.range (1 * 512)).map ((noughts 512)[· % (noughts 512).size]!)).size = cs.length := by rw [Array.size_map, Array.size_range, hc]
  have h0 : ¬ (1 * 512 > 2 ^ 24) := by decide
  have h1 : ¬ (1 * 512 = 0) := by decide
  unfold mkOne Instr.buildSlice
  rw [Sem.run_bind, run_underlying Tryz.underlying65, Result.andThen_ok]
  dsimp only
  rw [Sem.run_bind, run_sizeBlk, Result.andThen_ok, if_neg h0, if_neg h1, Sem.run_bind, run_zeroBlk, Result.andThen_ok, Sem.run_bind, Sem.run_pure, Result.andThen_ok]
  show Sem.run Tryz.prog (match Instr.fill (fun i => some (i * 512, 512)) ((Array.range (1 * 512)).map ((noughts 512)[· % (noughts 512).size]!)) [(0, Value.agg cs.toArray)] with | some cells => _ | _ => _) w = _
  rw [hfl _ hzs]
  simp [newRow]
end Go.Proofs.YtfnhhjpebilacaaGreat

/-
  DERIVED. Write, where it writes.
-/
namespace Go.Proofs.YtfnhhjpebilacaaGreat
open Go.RowKit Go.Maps
set_option linter.unusedVariables false

theorem sizeU8 : (Tryz.prog.info? 5).map (·.size) = some 1 := by kernel_rfl

/-- A block's copy into a new array. -/
theorem copy_new (w : World) (ty : TypeId) (db off cap : Nat) (L : List UInt8) (hL : L.length = 512) (hlt : db < w.heap.size) (hc : ∀ i, (h : i < L.length) → w.cell? ⟨db, off + i, none⟩ = some (bv L[i])) :
    (Builtin.copy_ #[34, 34] ty #[.slice (some ⟨w.heap.size, 0, none⟩) 512 512, .slice (some ⟨db, off, none⟩) 512 cap]).run Tryz.prog (w.alloc (.cells (noughts 512) 84)) = .ok (goInt 512) (w.alloc (.cells (L.map bv).toArray 84)) := by
  have hl : (L.map bv).length = 512 := by rw [List.length_map]; exact hL
  have h := run_copy_row (P := Tryz.prog) (w.alloc (.cells (noughts 512) 84)) 34 34 ty 5 w.heap.size 0 512 512 ⟨db, off, none⟩ 512 cap (noughts 512) 84 (L.map bv) Tryz.underlying34 sizeU8 (heap_alloc_self w _) hl ?_ (by rw [hl, size_noughts]; exact Nat.le_refl _) (bv_one L)
  · rw [hl] at h
    rw [h, World.setRow_alloc_new]
    have e : ((noughts 512).toList.take 0 ++ L.map bv ++ (noughts 512).toList.drop (0 + 512)) = L.map bv := by
      rw [List.drop_eq_nil_of_le (by rw [Array.length_toList, size_noughts]; omega), List.append_nil]; rfl
    rw [e]
    rfl
  · intro j v hj
    rw [addr_add]
    have hjl : j < L.length := by have := (List.getElem?_eq_some_iff.1 hj).1; simpa using this
    rw [World.cell?_alloc_lt _ _ _ hlt, hc j hjl]
    simpa [hjl] using hj

theorem mark_ne {w : World} {b k : Nat} {A C : Array Value} {s t : TypeId} {p q : Nat × Nat} (h1 : w.heap[b]? = some (.cells A s p)) (h2 : w.heap[k]? = some (.cells C t q)) (hne : s ≠ t) : k ≠ b := by
  rintro rfl
  rw [h1] at h2
  simp only [Option.some.injEq, Obj.cells.injEq] at h2
  exact hne h2.2.1

theorem PendAt.frame' {w w' : World} {F : Nat → Prop} {m g n N : Nat} {pend : Nat → List (List UInt8)} {vf : Nat → Value} {D : DataW Value} (h : PendAt w F m g n N pend vf D) (hm : w'.heap[m]? = w.heap[m]?) (hk : ∀ k q, (vf k).ownBlock = some q → q < w.heap.size → w'.heap[q]? = w.heap[q]?) : PendAt w' F m g n N pend vf D :=
  { h with own := ownsMap_frame h.own hm, rows := fun k => Blks.frame (h.rows k) fun q hq hlt => hk k q hq hlt }

theorem Blks.mark {w : World} {v : Value} {bs : List (List UInt8)} (h : Blks w v bs) {q : Nat} (hq : v.ownBlock = some q) : ∃ cur, w.heap[q]? = some (.cells cur 84 (0, 0)) := by
  rcases h.2 with ⟨rfl, _⟩ | ⟨g, cap, cur, rfl, hb, hg, r⟩
  · cases hq
  · cases hq; exact ⟨cur, hg⟩

/-- The device where only its own six cells have turned. -/
theorem DevIn.turn {w w' : World} {b : Nat} {F : Nat → Prop} {N M : Nat} {S T : St} {g c m : Nat} {vf : Nat → Value} {D : DataW Value} (h : DevIn w b F N S g c m vf D) (ho : Only b w w') (hN : N ≤ M)
    (hd : DevAt w' b (.slice (some ⟨g, 0, none⟩) S.safe.length c) (.map (some m)) T.fused T.fuse T.down T.ops) (hs : T.safe = S.safe) (hp : T.pend = S.pend) (f1 : 0 ≤ T.fuse) (f2 : T.fuse < 9223372036854775808) (o1 : 0 ≤ T.ops) (o2 : T.ops ≤ M) : DevIn w' b F M T g c m vf D := by
  have hne : ∀ q, (∃ cur, w.heap[q]? = some (.cells cur 84 (0, 0))) → q ≠ b := fun q ⟨cur, hq⟩ => mark_ne h.dev hq (by decide)
  have hsm : w'.heap[m]? = w.heap[m]? := ho.other m (by
    rintro rfl
    obtain ⟨es, clock, hb, _⟩ := h.pend.own
    have := h.dev
    unfold DevAt at this
    rw [this] at hb; cases hb)
  have hp2 := (h.pend.frame' hsm fun k q hq _ => ho.other q (hne q ((h.pend.rows k).mark hq))).mono (fun _ hk => hk) hN
  exact { dev := by rw [hs]; exact hd, safe := by rw [hs]; exact Blks.frame h.safe fun q hq _ => ho.other q (hne q (Blks.mark h.safe hq)), wide := by rw [hs]; exact h.wide, pend := by rw [hs, hp]; exact hp2, fb := h.fb, fg := h.fg, fm := h.fm, f1, f2, o1, o2, n1 := by rw [hs]; exact h.n1, n2 := by rw [hs]; exact h.n2 }

/-- A device behind an operation that went, or that did not. -/
def St.burn (S : St) : St := { S with fuse := burnF S.fused S.fuse, down := burnD S.fused S.fuse S.down, ops := burnO S.fused S.fuse S.ops }
theorem burnF_lo (fused : Bool) (fuse : Int) (h : 0 ≤ fuse) : 0 ≤ burnF fused fuse := by
  unfold burnF; cases fused <;> by_cases e : fuse = 0 <;> simp_all; omega
theorem burnF_hi (fused : Bool) (fuse : Int) (h : fuse < 9223372036854775808) : burnF fused fuse < 9223372036854775808 := by
  unfold burnF; split <;> omega
theorem burnO_lo (fused : Bool) (fuse ops : Int) (h : 0 ≤ ops) : 0 ≤ burnO fused fuse ops := by unfold burnO; split <;> omega
theorem burnO_hi (fused : Bool) (fuse ops : Int) (N : Nat) (h : ops ≤ N) : burnO fused fuse ops ≤ ((N + 1 : Nat) : Int) := by unfold burnO; split <;> omega
theorem DevIn.burn {w w' : World} {b : Nat} {F : Nat → Prop} {N : Nat} {S : St} {g c m : Nat} {vf : Nat → Value} {D : DataW Value} (h : DevIn w b F N S g c m vf D) (ho : Only b w w')
    (hd : DevAt w' b (.slice (some ⟨g, 0, none⟩) S.safe.length c) (.map (some m)) S.fused (burnF S.fused S.fuse) (burnD S.fused S.fuse S.down) (burnO S.fused S.fuse S.ops)) : DevIn w' b F (N + 1) S.burn g c m vf D :=
  h.turn ho (Nat.le_succ _) hd rfl rfl (burnF_lo _ _ h.f1) (burnF_hi _ _ h.f2) (burnO_lo _ _ _ h.o1) (burnO_hi _ _ _ _ h.o2)

/-- Pending writes behind one more. -/
def putP (pend : Nat → List (List UInt8)) (k : Nat) (L : List UInt8) : Nat → List (List UInt8) := fun j => if j = k then pend k ++ [L] else pend j
def St.wrote (S : St) (k : Nat) (L : List UInt8) : St := { S with pend := putP S.pend k L }

/-- The map's store behind the append: all that the pending writes are. -/
theorem PendAt.put {w w1 w2 : World} {F : Nat → Prop} {m g n N : Nat} {pend : Nat → List (List UInt8)} {vf : Nat → Value} {D : DataW Value} (h : PendAt w F m g n N pend vf D) (k : Nat) (hk : k < n) (L : List UInt8) (hL : L.length = 512) (q cap : Nat)
    (hF : ∀ j, w.heap.size ≤ j → F j) (hg : g < w.heap.size) (hn : n ≤ 512)
    (hnew : Blks w1 (.slice (some ⟨q, 0, none⟩) ((pend k).length + 1) cap) (pend k ++ [L])) (hgr : w.grownBy w1 (vf k).ownBlock) (hat : (vf k).ownBlock = some q ∨ w.heap.size ≤ q)
    (hown : w2.ownsMap Tryz.prog 3 rawE m (N + 1) (D.put (.int .i64 k) (.held (.slice (some ⟨q, 0, none⟩) ((pend k).length + 1) cap)))) (hgr2 : w1.grownBy w2 (some m)) :
    PendAt w2 F m g n (N + 1) (putP pend k L) (fun j => if j = k then .slice (some ⟨q, 0, none⟩) ((pend k).length + 1) cap else vf j) (D.put (.int .i64 k) (.held (.slice (some ⟨q, 0, none⟩) ((pend k).length + 1) cap))) := by
  have hmap : IsMap D := by obtain ⟨es, clock, _, _, _, e⟩ := h.own; exact ⟨_, e⟩
  have hkl : WideAt.IsKeyLit (.int .i64 (k : Int)) := keyedInt.key (key_int k (by omega))
  have hne : ∀ j : Nat, j ≠ k → (Lit.int .i64 (j : Int)) ≠ .int .i64 (k : Int) := fun j hj e => hj (by injection e with _ e; omega)
  have hltq : ∀ j p, (vf j).ownBlock = some p → p < w.heap.size := fun j p hp => lt_of_block (Blks.mark (h.rows j) hp).choose_spec
  have hm1 : ∀ j p, j ≠ k → (vf j).ownBlock = some p → w2.heap[p]? = w.heap[p]? := fun j p hj hp => by
    have h1 : some p ≠ (vf k).ownBlock := fun e => hj (h.apart j k p hp e.symm)
    have h2 : p ≠ m := by
      rintro rfl
      obtain ⟨cur, hc⟩ := Blks.mark (h.rows j) hp
      obtain ⟨es, clock, hb, _⟩ := h.own
      rw [hc] at hb; cases hb
    exact (hgr2.block p (Nat.lt_of_lt_of_le (hltq j p hp) hgr.size) (by simpa using h2)).trans (hgr.block p (hltq j p hp) h1)
  have hqm : q ≠ m := by
    rintro rfl
    obtain ⟨cur, hc⟩ := Blks.mark hnew rfl
    obtain ⟨es, clock, hb, _⟩ := hown
    rcases hat with hat | hat
    · obtain ⟨cur2, hc2⟩ := Blks.mark (h.rows k) hat
      obtain ⟨es2, clock2, hb2, _⟩ := h.own
      rw [hc2] at hb2; cases hb2
    · have := h.own.lt; omega
  have hq2 : w2.heap[q]? = w1.heap[q]? := hgr2.block q (lt_of_block (Blks.mark hnew rfl).choose_spec) (by simpa using hqm)
  have hqo : ∀ j, j ≠ k → (vf j).ownBlock ≠ some q := fun j hj e => by
    rcases hat with hat | hat
    · exact hj (h.apart j k q e hat)
    · have := hltq j q e; omega
  refine { own := hown, at_ := ?_, has := ?_, rows := ?_, len := ?_, foot := ?_, apart := ?_, wide := ?_, out := ?_ }
  · intro j hj
    by_cases e : j = k
    · subst e
      rw [atKey_put_same hmap hkl, if_pos rfl]
    · rw [atKey_put_other (hne j e), if_neg e]; exact h.at_ j hj
  · intro kl
    by_cases e : kl = .int .i64 (k : Int)
    · subst e
      refine ⟨fun _ => ⟨k, hk, by simp [putP], rfl⟩, fun _ => has_put_same hmap hkl _⟩
    · rw [has_put_other e, h.has]
      constructor
      · rintro ⟨j, h1, h2, rfl⟩
        have hj : j ≠ k := fun e2 => e (by rw [e2])
        exact ⟨j, h1, by simpa [putP, hj] using h2, rfl⟩
      · rintro ⟨j, h1, h2, rfl⟩
        have hj : j ≠ k := fun e2 => e (by rw [e2])
        exact ⟨j, h1, by simpa [putP, hj] using h2, rfl⟩
  · intro j
    by_cases e : j = k
    · subst e
      simp only [putP, if_true]
      exact Blks.frame (by simpa using hnew) fun p hp _ => by cases hp; exact hq2
    · simp only [putP, if_neg e]
      exact Blks.frame (h.rows j) fun p hp _ => hm1 j p e hp
  · intro j
    by_cases e : j = k
    · subst e
      simp only [putP, if_true, List.length_append, List.length_singleton]
      have := h.len j; omega
    · simp only [putP, if_neg e]
      have := h.len j; omega
  · intro j p hp
    by_cases e : j = k
    · subst e
      simp only [if_true] at hp
      cases hp
      rcases hat with hat | hat
      · exact h.foot j q hat
      · exact ⟨hF q hat, show q ≠ g by omega⟩
    · simp only [if_neg e] at hp
      exact h.foot j p hp
  · intro j j' p hp hp'
    by_cases e : j = k
    · by_cases e' : j' = k
      · rw [e, e']
      · simp only [if_neg e'] at hp'
        rw [if_pos e] at hp
        cases hp
        exact absurd hp' (hqo j' e')
    · by_cases e' : j' = k
      · simp only [if_neg e] at hp
        rw [if_pos e'] at hp'
        cases hp'
        exact absurd hp (hqo j e)
      · simp only [if_neg e] at hp
        simp only [if_neg e'] at hp'
        exact h.apart j j' p hp hp'
  · intro j
    by_cases e : j = k
    · subst e
      simp only [putP, if_true]
      exact (h.wide j).snoc hL
    · simp only [putP, if_neg e]
      exact h.wide j
  · intro j hj
    have e : j ≠ k := by omega
    simp only [putP, if_neg e]
    exact h.out j hj

theorem DevAt.no_byte {w : World} {b : Nat} {fl pm : Value} {fused : Bool} {fuse : Int} {down : Bool} {ops : Int} (h : DevAt w b fl pm fused fuse down ops) (o : Nat) (x : UInt8) (hf : ∃ a n c, fl = .slice a n c) (hp : ∃ r, pm = .map r) : w.cell? ⟨b, o, none⟩ ≠ some (bv x) := by
  unfold DevAt at h
  obtain ⟨_, _, _, rfl⟩ := hf
  obtain ⟨_, rfl⟩ := hp
  simp only [World.cell?, h]
  match o with
  | 0 => simp
  | 1 => simp
  | 2 => simp
  | 3 => simp
  | 4 => simp
  | 5 => simp
  | n + 6 => simp

theorem DevIn.ne_map {w : World} {b : Nat} {F : Nat → Prop} {N : Nat} {S : St} {g c m : Nat} {vf : Nat → Value} {D : DataW Value} (h : DevIn w b F N S g c m vf D) : b ≠ m ∧ g ≠ m ∧ g ≠ b := by
  obtain ⟨es, clock, hb, _⟩ := h.pend.own
  obtain ⟨cur, hg⟩ := Blks.mark h.safe rfl
  have hd := h.dev
  unfold DevAt at hd
  refine ⟨?_, ?_, mark_ne hd hg (by decide)⟩
  · rintro rfl; rw [hd] at hb; cases hb
  · rintro rfl; rw [hg] at hb; cases hb

theorem DevIn.wrote {w W3 W4 : World} {b : Nat} {F : Nat → Prop} {N : Nat} {S : St} {g c m : Nat} {vf : Nat → Value} {D : DataW Value} (h : DevIn w b F N S g c m vf D) (k : Nat) (hk : k < S.safe.length) (L : List UInt8) (hL : L.length = 512) (q cap : Nat)
    (hF : ∀ j, w.heap.size ≤ j → F j)
    (hnew : Blks W3 (.slice (some ⟨q, 0, none⟩) ((S.pend k).length + 1) cap) (S.pend k ++ [L])) (hgr : w.grownBy W3 (vf k).ownBlock) (hat : (vf k).ownBlock = some q ∨ w.heap.size ≤ q)
    (hown : W4.ownsMap Tryz.prog 3 rawE m (N + 1) (D.put (.int .i64 k) (.held (.slice (some ⟨q, 0, none⟩) ((S.pend k).length + 1) cap)))) (hgr2 : W3.grownBy W4 (some m)) :
    Dev W4 b F (N + 1) (S.wrote k L) ∧ Kept F w W4 := by
  obtain ⟨n1, n2, n3⟩ := h.ne_map
  obtain ⟨cur, hcur⟩ := Blks.mark h.safe rfl
  have hgl : g < w.heap.size := lt_of_block hcur
  have hb2 : ∀ j, j < w.heap.size → j ≠ m → some j ≠ (vf k).ownBlock → W4.heap[j]? = w.heap[j]? := fun j h1 h2 h3 =>
    (hgr2.block j (Nat.lt_of_lt_of_le h1 hgr.size) (by simpa using h2)).trans (hgr.block j h1 h3)
  have hbq : some b ≠ (vf k).ownBlock := fun e => by
    obtain ⟨cur, hcur⟩ := Blks.mark (h.pend.rows k) e.symm
    exact mark_ne h.dev hcur (by decide) rfl
  refine ⟨⟨g, c, m, _, _, { h with dev := (hb2 b h.dev.lt n1 hbq).trans h.dev, safe := ?_, pend := h.pend.put k hk L hL q cap hF hgl h.n2 hnew hgr hat hown hgr2, o2 := ?_ }⟩, ?_⟩
  · exact Blks.frame h.safe fun j hj hl => by
      cases hj
      exact hb2 g hgl n2 fun e => (h.pend.foot k g e.symm).2 rfl
  · have := h.o2; show S.ops ≤ ((N + 1 : Nat) : Int); omega
  · refine (Kept.of_grown hgr fun j hj => (h.pend.foot k j hj).1).trans (Kept.of_grown hgr2 fun j hj => ?_)
    cases hj
    exact h.fm

attribute [local go_sem ↓] mkOne_eq
set_option maxRecDepth 100000 in
set_option maxHeartbeats 3200000 in
theorem Write_in {w : World} {b : Nat} {F : Nat → Prop} {N : Nat} {S : St} {g c m : Nat} {vf : Nat → Value} {D : DataW Value} (k : Nat) (L : List UInt8) (v : Value) (h : DevIn w b F N S g c m vf D) (hk : k < S.safe.length) (hd : S.down = false) (hB : burnE S.fused S.fuse = 0)
    (hv : Sl w v L) (hL : L.length = 512) (hN : N < 1000000) (hF : ∀ j, w.heap.size ≤ j → F j) :
    Calls Tryz.prog 28 #[.pointer (some ⟨b, 0, none⟩), .int .i64 k, v] w fun e w' => e = .returned (.int .i64 0) ∧ Dev w' b F (N + 2) (S.burn.wrote k L) ∧ Kept F w w' := by
  obtain ⟨db, off, cap, rfl, hdb, hcl⟩ : ∃ db off cap, v = .slice (some ⟨db, off, none⟩) 512 cap ∧ db < w.heap.size ∧ ∀ i, (h : i < L.length) → w.cell? ⟨db, off + i, none⟩ = some (bv L[i]) := by
    rcases hv.cases with ⟨rfl, _⟩ | ⟨db, off, cap, rfl, _, _, h1, h2⟩
    · simp at hL
    · exact ⟨db, off, cap, by rw [hL], h1, h2⟩
  have hE : openE S.safe.length S.down k = 0 := by unfold openE; rw [hd, if_neg (by simp), if_pos (by omega)]
  have HD := hide h
  have HC := hide hcl
  clear h hcl hv
  go_enter Tryz.func28, Tryz.ntmps28
  go_wp2_with (first | (go_at_call 49; refine (open_dev k (unhide HD).dev).mono ?_; rintro e w' ⟨rfl, rfl⟩; rw [hE]) | fail)
  refine (burn_dev (unhide HD).dev (unhide HD).f1 (unhide HD).f2 (unhide HD).o1 (by have := (unhide HD).o2; omega)).mono ?_
  rintro e w1 ⟨rfl, d1, o1⟩
  rw [hB]
  have H1 := hide ((unhide HD).burn o1 d1)
  have HK := hide (Kept.of_only (F := F) o1 (unhide HD).fb)
  have hsz : w.heap.size ≤ w1.heap.size := Nat.le_of_eq o1.size.symm
  have hcp := fun ty => copy_new w1 ty db off cap L hL (by omega) (fun i hi => by
    by_cases e : db = b
    · subst e
      exact absurd (unhide HC i hi) (DevAt.no_byte (unhide HD).dev _ _ ⟨_, _, _, rfl⟩ ⟨_, rfl⟩)
    · rw [World.cell?_of_block (o1.other _ (by exact e))]; exact unhide HC i hi)
  clear d1 o1
  obtain ⟨cs, hcs⟩ : ∃ cs, cs = L.map bv := ⟨_, rfl⟩
  have hc5 : cs.length = 512 := by rw [hcs, List.length_map]; exact hL
  have h1c : ∀ v ∈ cs, v.oneCell' = true := by rw [hcs]; exact bv_one L
  rw [← hcs] at hcp
  have HCS := hide hcs
  clear hcs
  obtain ⟨w2, hw2⟩ : ∃ w2, w2 = w1.alloc (.cells cs.toArray 84) := ⟨_, rfl⟩
  rw [← hw2] at hcp
  have hB2 : Below w1.heap.size w1 w2 := by rw [hw2]; exact (Below.refl _ _).alloc (Nat.le_refl _) _
  have H2 := hide ((unhide H1).frame (w' := w2) fun j _ hj => hB2.block j hj)
  have hr2 : w2.rangeAt w1.heap.size 0 cs := by
    have := World.rangeAt_of_block (w := w2) (b := w1.heap.size) (C := cs.toArray) (t := 84) (fr := (0, 0)) (by rw [hw2]; exact heap_alloc_self _ _) 0 512
    have e : (cs.toArray.extract 0 (0 + 512)).toList = cs := by simp [← hc5]
    rw [e] at this; exact this
  have HK2 := hide ((unhide HK).trans (Kept.of_below hB2))
  have hs2 : w1.heap.size < w2.heap.size := by rw [hw2]; simp
  clear hw2 hB2
  have c1 := (unhide H2).dev.c1
  have hl : ∀ W : World, W.heap[m]? = w2.heap[m]? → (Instr.lookup 66 (.map (some m)) (.int .i64 k) false).run Tryz.prog W = .ok (vf k) W := fun W hW =>
    look_of (ownsMap_frame (unhide H2).pend.own hW) k (by have := (unhide H2).n2; have : k < S.safe.length := hk; have : S.safe.length ≤ 512 := (unhide HD).n2; omega) ((unhide H2).pend.at_ k hk)
  have hu := Tryz.underlying84
  have hi : (Tryz.prog.info? 84).map (·.size) = some cs.length := by rw [hc5]; exact sizeBlock
  have hmlt := (unhide H2).pend.own.lt
  have hblt := (unhide H2).dev.lt
  have hlA := hl w2.drew rfl
  have hlB := hl (w2.alloc (.cells cs.toArray 84)).drew (Below.heap_alloc _ _ _ hmlt)
  clear hl
  obtain ⟨i0, hi0, hz0, hz1, hz2⟩ := infoBlk
  have hmk := run_mkOne cs hc5
  have hmark : ∀ q, (vf k).ownBlock = some q → q ≠ b ∧ q ≠ w1.heap.size ∧ q ≠ m := fun q hq => by
    obtain ⟨cur, hcur⟩ := Blks.mark ((unhide H2).pend.rows k) hq
    obtain ⟨cur1, hcur1⟩ := Blks.mark ((unhide H1).pend.rows k) hq
    refine ⟨mark_ne (unhide H2).dev hcur (by decide), Nat.ne_of_lt (lt_of_block hcur1), ?_⟩
    rintro rfl
    obtain ⟨es, clock, hb, _⟩ := (unhide H2).pend.own
    rw [hcur] at hb; cases hb
  have HO : Hid (∀ o, ((w2.alloc o).drew).ownsRow 0 84 512 (vf k) (S.pend k).length (cellsOf (S.pend k))) := hide fun o => World.ownsRow.alloc ((unhide H2).pend.rows k) o
  have HS3 : Hid (∀ W3, (w2.alloc (.cells cs.toArray 84)).drew.grownBy W3 (vf k).ownBlock → W3.cell? ⟨b, 1, none⟩ = some (.map (some m)) ∧ W3.rangeAt w1.heap.size 0 cs) := hide fun W3 hg => by
    refine ⟨(hg.cell_far ⟨b, 1, none⟩ (by show b < (w2.alloc _).heap.size; simp; omega) (fun e => (hmark b e.symm).1 rfl)).trans ((World.cell?_alloc_lt _ _ _ hblt).trans c1), fun j v hj => ?_⟩
    exact (hg.cell_far ⟨w1.heap.size, 0 + j, none⟩ (by show w1.heap.size < (w2.alloc _).heap.size; simp; omega) (fun e => (hmark _ e.symm).2.1 rfl)).trans ((World.cell?_alloc_lt _ _ _ hs2).trans (hr2 j v hj))
  have hbm : b ≠ m := by
    rintro rfl
    obtain ⟨es, clock, hb, _⟩ := (unhide H2).pend.own
    have := (unhide H2).dev
    unfold DevAt at this
    rw [this] at hb; cases hb
  have hwm : w1.heap.size ≠ m := by have := (unhide H1).pend.own.lt; omega
  have HU : Hid (∀ (W3 : World) (u : Value), (w2.alloc (.cells cs.toArray 84)).drew.grownBy W3 (vf k).ownBlock → ∃ W4, (Instr.mapUpdate 66 (.map (some m)) (.int .i64 k) u).run Tryz.prog W3 = .ok () W4 ∧ W4.ownsMap Tryz.prog 3 rawE m (N + 1 + 1) (D.put (.int .i64 k) (.held u)) ∧ W3.grownBy W4 (some m)) := hide fun W3 u hg =>
    (ownsMap_frame (unhide H2).pend.own ((hg.block m (by show m < (w2.alloc _).heap.size; simp; omega) (fun e => (hmark m e.symm).2.2 rfl)).trans (Below.heap_alloc _ _ _ hmlt))).update keyedInt Tryz.underlying66 (by unfold maxLen; omega) (key_int k (by have : S.safe.length ≤ 512 := (unhide HD).n2; omega)) rfl
  have hpl : (S.pend k).length ≤ N + 1 := (unhide H1).pend.len k
  go_wp2_with (first | (refine wpList_alloc_block rfl rfl ?_) | fail)
  go_region_held3 (fun w' => w'.cell? ⟨b, 1, none⟩ = some (.map (some m)) ∧ w'.rangeAt w1.heap.size 0 cs)
    (first | exact ⟨c1, hr2⟩ | exact ⟨(World.cell?_alloc_lt _ _ _ hblt).trans c1, World.rangeAt_alloc hr2 _⟩ | exact unhide HS3 _ hgrow | exact ⟨(hmg.cell_far ⟨b, 1, none⟩ (by have := hgrow.size; simp at this; show b < W3.heap.size; omega) (fun e => hbm (Option.some.inj e))).trans (unhide HS3 _ hgrow).1, fun j v hj => (hmg.cell_far ⟨w1.heap.size, 0 + j, none⟩ (by have := hgrow.size; simp at this; show w1.heap.size < W3.heap.size; omega) (fun e => hwm (Option.some.inj e))).trans ((unhide HS3 _ hgrow).2 j v hj)⟩)
    ((refine step_append_lies _ (by rfl) _ _ _ (by rfl) 0 84 i0 _ 512 512 Tryz.underlying65 hi0 hz0 hz1 hz2 (by rfl) (by omega) (vf k) (S.pend k).length (cellsOf (S.pend k)) (by rfl) (unhide HO _) ⟨w2.heap.size, 0, none⟩ 1 1 cs (by rfl) (by rw [hc5]) (World.news_of_block (cs := cs.toArray) (t := 84) (fr := (0, 0)) (heap_alloc_new w2 _)) h1c (by omega) (by unfold maxLen; omega) (by omega) (Nat.zero_le _) (w2.heap.size + 1) (by simp) ?_; intro gg cap2 W3 hown3 hgrow hat hlt; obtain ⟨W4, hmu, hmo, hmg⟩ := unhide HU W3 (.slice (some ⟨gg, 0, none⟩) ((S.pend k).length + 1) cap2) hgrow))
  all_goals
    have hX : Dev W4 b F (N + 2) (S.burn.wrote k L) ∧ Kept F w W4 := by
      have hb3 : Below w2.heap.size w2 (w2.alloc (.cells cs.toArray 84)).drew := ((Below.refl _ _).alloc (Nat.le_refl _) _).drew
      have h3 := (unhide H2).frame (w' := (w2.alloc (.cells cs.toArray 84)).drew) fun j _ hj => hb3.block j hj
      have e : cellsOf (S.pend k ++ [L]) = cellsOf (S.pend k) ++ cs := by rw [cellsOf_snoc, unhide HCS]
      have hz := (unhide HK2).size
      obtain ⟨r1, r2⟩ := h3.wrote k hk L hL gg cap2 (fun j hj => hF j (by have := hb3.size; omega)) (by show W3.ownsRow 0 84 512 (.slice (some ⟨gg, 0, none⟩) ((S.pend k).length + 1) cap2) (S.pend k ++ [L]).length (cellsOf (S.pend k ++ [L])); rw [e, List.length_append]; exact hown3) hgrow (hat.imp id (fun h => by show (w2.alloc _).heap.size ≤ gg; simp; omega)) hmo hmg
      exact ⟨r1, (unhide HK2).trans ((Kept.of_below hb3).trans r2)⟩
    clear hmu hmo hmg hgrow hown3
    go_wp2
    go_ret
    exact ⟨rfl, hX⟩
end Go.Proofs.YtfnhhjpebilacaaGreat

/-
  DERIVED. The numbers of this dump for the library's slices.Sorted(maps.Keys(m)), written out by the guide's own tool.
-/
namespace Go.Proofs.YtfnhhjpebilacaaGreat
open Go.Shelf
def Tryz.keysA_ren : Go.Shelf.Ren := ⟨fun | 7 => 58 | 10 => 69 | n => n, fun | 23 => 66 | 26 => 3 | 3 => 65 | 28 => 93 | 0 => 0 | 27 => 92 | 33 => 70 | 4 => 4 | n => n, fun | n => n⟩
theorem Tryz.keysA : Go.Proofs.SlLaysZI.n7 Tryz.prog Tryz.keysA_ren := {
  mixed := by kernel_rfl
  f7 := ⟨Tryz.f58.name, by decide, Tryz.func58.trans (congrArg some (by kernel_rfl))⟩
  f10 := ⟨Tryz.f69.name, by decide, Tryz.func69.trans (congrArg some (by kernel_rfl))⟩
  t0 := Tryz.underlying0
  a0 := Tryz.isAgg0
  z0 := Tryz.sizeOf0
  v0 := Tryz.zeroValue0
  t4 := Tryz.underlying4
  a4 := Tryz.isAgg4
  z4 := Tryz.sizeOf4
  v4 := Tryz.zeroValue4
  t23 := Tryz.underlying66
  a23 := Tryz.isAgg66
  z23 := Tryz.sizeOf66
  v23 := Tryz.zeroValue66
  t26 := Tryz.underlying3
  a26 := Tryz.isAgg3
  z26 := Tryz.sizeOf3
  v26 := Tryz.zeroValue3
  t27 := Tryz.underlying92
  a27 := Tryz.isAgg92
  z27 := Tryz.sizeOf92
  v27 := Tryz.zeroValue92
  t28 := Tryz.underlying93
  a28 := Tryz.isAgg93
  z28 := Tryz.sizeOf93
  v28 := Tryz.zeroValue93
  t33 := Tryz.underlying70
  a33 := Tryz.isAgg70
  z33 := Tryz.sizeOf70
  v33 := Tryz.zeroValue70 }
def Tryz.sortedA_ren : Go.Shelf.Ren := ⟨fun | 6 => 57 | 8 => 67 | 9 => 68 | 11 => 78 | 13 => 80 | 12 => 79 | 23 => 97 | 24 => 98 | 14 => 88 | 15 => 89 | 16 => 90 | 17 => 91 | 18 => 92 | 19 => 93 | 20 => 94 | 21 => 95 | 22 => 96 | 25 => 102 | 26 => 103 | 27 => 104 | 28 => 105 | 29 => 106 | 30 => 107 | 31 => 110 | n => n, fun | 26 => 3 | 28 => 93 | 24 => 31 | 0 => 0 | 3 => 3 | 37 => 120 | 48 => 99 | 50 => 122 | 4 => 4 | 40 => 136 | 39 => 135 | 45 => 140 | 5 => 5 | 9 => 9 | 51 => 150 | 55 => 154 | 57 => 156 | 58 => 157 | 33 => 70 | n => n, fun | n => n⟩
theorem Tryz.sortedA : Go.Proofs.SlLaysZI.n6 Tryz.prog Tryz.sortedA_ren := {
  mixed := by kernel_rfl
  f6 := ⟨Tryz.f57.name, by decide, Tryz.func57.trans (congrArg some (by kernel_rfl))⟩
  f8 := ⟨Tryz.f67.name, by decide, Tryz.func67.trans (congrArg some (by kernel_rfl))⟩
  f11 := ⟨Tryz.f78.name, by decide, Tryz.func78.trans (congrArg some (by kernel_rfl))⟩
  t0 := Tryz.underlying0
  a0 := Tryz.isAgg0
  z0 := Tryz.sizeOf0
  v0 := Tryz.zeroValue0
  t24 := Tryz.underlying31
  a24 := Tryz.isAgg31
  z24 := Tryz.sizeOf31
  v24 := Tryz.zeroValue31
  t26 := Tryz.underlying3
  a26 := Tryz.isAgg3
  z26 := Tryz.sizeOf3
  v26 := Tryz.zeroValue3
  t28 := Tryz.underlying93
  a28 := Tryz.isAgg93
  z28 := Tryz.sizeOf93
  v28 := Tryz.zeroValue93
  i26 := by kernel_rfl }
def Tryz.sortA_ren : Go.Shelf.Ren := ⟨fun | 5 => 68 | 8 => 80 | 7 => 79 | 19 => 97 | 20 => 98 | 10 => 88 | 11 => 89 | 12 => 90 | 13 => 91 | 14 => 92 | 15 => 93 | 16 => 94 | 17 => 95 | 18 => 96 | 30 => 102 | 31 => 103 | 32 => 104 | 33 => 105 | 34 => 106 | 35 => 107 | 40 => 110 | n => n, fun | 23 => 31 | 25 => 3 | 3 => 3 | 32 => 120 | 22 => 31 | 0 => 0 | 44 => 99 | 46 => 122 | 4 => 4 | 36 => 136 | 35 => 135 | 41 => 140 | 5 => 5 | 9 => 9 | 53 => 150 | 57 => 154 | 63 => 156 | 64 => 157 | n => n, fun | n => n⟩
theorem Tryz.sortA : Go.Proofs.SlLaysM.n5 Tryz.prog Tryz.sortA_ren := {
  mixed := by kernel_rfl
  f5 := ⟨Tryz.f68.name, by decide, Tryz.func68.trans (congrArg some (by kernel_rfl))⟩
  f7 := ⟨Tryz.f79.name, by decide, Tryz.func79.trans (congrArg some (by kernel_rfl))⟩
  f8 := Tryz.func80.trans (congrArg some (by kernel_rfl))
  f10 := ⟨Tryz.f88.name, by decide, Tryz.func88.trans (congrArg some (by kernel_rfl))⟩
  f11 := ⟨Tryz.f89.name, by decide, Tryz.func89.trans (congrArg some (by kernel_rfl))⟩
  f12 := ⟨Tryz.f90.name, by decide, Tryz.func90.trans (congrArg some (by kernel_rfl))⟩
  f13 := ⟨Tryz.f91.name, by decide, Tryz.func91.trans (congrArg some (by kernel_rfl))⟩
  f14 := ⟨Tryz.f92.name, by decide, Tryz.func92.trans (congrArg some (by kernel_rfl))⟩
  f15 := ⟨Tryz.f93.name, by decide, Tryz.func93.trans (congrArg some (by kernel_rfl))⟩
  f16 := ⟨Tryz.f94.name, by decide, Tryz.func94.trans (congrArg some (by kernel_rfl))⟩
  f17 := ⟨Tryz.f95.name, by decide, Tryz.func95.trans (congrArg some (by kernel_rfl))⟩
  f18 := ⟨Tryz.f96.name, by decide, Tryz.func96.trans (congrArg some (by kernel_rfl))⟩
  f19 := Tryz.func97.trans (congrArg some (by kernel_rfl))
  f20 := Tryz.func98.trans (congrArg some (by kernel_rfl))
  f30 := ⟨Tryz.f102.name, by decide, Tryz.func102.trans (congrArg some (by kernel_rfl))⟩
  f31 := Tryz.func103.trans (congrArg some (by kernel_rfl))
  f32 := Tryz.func104.trans (congrArg some (by kernel_rfl))
  f33 := ⟨Tryz.f105.name, by decide, Tryz.func105.trans (congrArg some (by kernel_rfl))⟩
  f34 := ⟨Tryz.f106.name, by decide, Tryz.func106.trans (congrArg some (by kernel_rfl))⟩
  f35 := ⟨Tryz.f107.name, by decide, Tryz.func107.trans (congrArg some (by kernel_rfl))⟩
  f40 := ⟨Tryz.f110.name, by decide, Tryz.func110.trans (congrArg some (by kernel_rfl))⟩
  t0 := Tryz.underlying0
  a0 := Tryz.isAgg0
  z0 := Tryz.sizeOf0
  v0 := Tryz.zeroValue0
  t3 := Tryz.underlying3
  a3 := Tryz.isAgg3
  z3 := Tryz.sizeOf3
  v3 := Tryz.zeroValue3
  t4 := Tryz.underlying4
  a4 := Tryz.isAgg4
  z4 := Tryz.sizeOf4
  v4 := Tryz.zeroValue4
  t5 := Tryz.underlying5
  a5 := Tryz.isAgg5
  z5 := Tryz.sizeOf5
  v5 := Tryz.zeroValue5
  t9 := Tryz.underlying9
  a9 := Tryz.isAgg9
  z9 := Tryz.sizeOf9
  v9 := Tryz.zeroValue9
  t22 := Tryz.underlying31
  a22 := Tryz.isAgg31
  z22 := Tryz.sizeOf31
  v22 := Tryz.zeroValue31
  t23 := Tryz.underlying31
  a23 := Tryz.isAgg31
  z23 := Tryz.sizeOf31
  v23 := Tryz.zeroValue31
  t25 := Tryz.underlying3
  a25 := Tryz.isAgg3
  z25 := Tryz.sizeOf3
  v25 := Tryz.zeroValue3
  t32 := Tryz.underlying120
  a32 := Tryz.isAgg120
  z32 := Tryz.sizeOf120
  v32 := Tryz.zeroValue120
  t35 := Tryz.underlying135
  a35 := Tryz.isAgg135
  z35 := Tryz.sizeOf135
  v35 := Tryz.zeroValue135
  t36 := Tryz.underlying136
  a36 := Tryz.isAgg136
  z36 := Tryz.sizeOf136
  v36 := Tryz.zeroValue136
  t41 := Tryz.underlying140
  a41 := Tryz.isAgg140
  z41 := Tryz.sizeOf140
  v41 := Tryz.zeroValue140
  t44 := Tryz.underlying99
  a44 := Tryz.isAgg99
  z44 := Tryz.sizeOf99
  v44 := Tryz.zeroValue99
  t46 := Tryz.underlying122
  a46 := Tryz.isAgg122
  z46 := Tryz.sizeOf122
  v46 := Tryz.zeroValue122
  t53 := Tryz.underlying150
  a53 := Tryz.isAgg150
  z53 := Tryz.sizeOf150
  v53 := Tryz.zeroValue150
  t57 := Tryz.underlying154
  a57 := Tryz.isAgg154
  z57 := Tryz.sizeOf154
  v57 := Tryz.zeroValue154
  t63 := Tryz.underlying156
  a63 := Tryz.isAgg156
  z63 := Tryz.sizeOf156
  v63 := Tryz.zeroValue156
  t64 := Tryz.underlying157
  a64 := Tryz.isAgg157
  z64 := Tryz.sizeOf157
  v64 := Tryz.zeroValue157 }
end Go.Proofs.YtfnhhjpebilacaaGreat

/-
  DERIVED. Pending: the blocks with writes, rising: the library's maps.Keys, slices.Sorted, slices.Sort by the shelf's contracts.
-/
namespace Go.Proofs.YtfnhhjpebilacaaGreat
open Go.RowKit Go.Maps Go.Sort Go.Shelf
set_option linter.unusedVariables false

/-- slices.Sort's two contracts here, at the fence that asks nothing. -/
theorem Tryz.sortsA (m : Nat) : AnyZI.SortsIn Tryz.prog Tryz.sortedA_ren Fence.wide m :=
  ⟨fun blk off cap ss W hH hblk hsz => callsIn_wide.2 (AnyM.slices_Sort_int Tryz.sortA blk off cap ss W hH hblk hsz),
   fun p cap W => callsIn_wide.2 (AnyM.slices_Sort_int_none Tryz.sortA p cap W)⟩

set_option maxHeartbeats 1000000 in
theorem Pending_map {H : Type} (b mb nn : Nat) (D0 : DataW H) (R : Value → Option (DataW H × List MemPlace)) (w : World) (hc : w.cell? ⟨b, 1, none⟩ = some (.map (some mb))) (hown : w.ownsMap Tryz.prog 3 R mb nn D0) (hmax : Maps.size D0 ≤ maxLen) (hbytes : Maps.size D0 * 8 ≤ 140737488355328) :
    Calls Tryz.prog 38 #[.pointer (some ⟨b, 0, none⟩)] w fun e w' => ∃ (v : Value) (ss : List Int), e = .returned v ∧ ss.Perm (intKeys D0) ∧
      w'.ownsRow w.heap.size 3 1 v ss.length ((ss.mergeSort (fun x y => decide (x ≤ y))).map encZ) ∧ (v = .slice none 0 0 ↔ ss = []) ∧ Below w.heap.size w w' := by
  refine (callsIn_wide (n := 6)).1 ?_
  have hbl := hown.lt
  have hseq : SeqGives Fence.wide 2 Tryz.prog 69 #[.pointer (some ⟨w.heap.size, 0, none⟩)] encZ (fun ss => ss.Perm (intKeys D0)) (Maps.size D0) (w.alloc (.cells #[.map (some mb)] 66)) :=
    AnyZI.keys_gives (ρ := Tryz.keysA_ren) { Tryz.keysA with } Fence.wide _ trivial rfl (by omega) w.heap.size mb nn D0 _ (by simp) (by simp) (by
      obtain ⟨es, clock, hb, Ft, hs, hD⟩ := hown
      exact ⟨es, clock, (Below.heap_alloc _ _ mb hbl).trans hb, Ft, hs, hD⟩)
  have cK : ∀ q W, CallsIn Fence.wide 5 Tryz.prog 58 #[.map q] W fun e w' => e = .returned (.func (.func 69) #[] #[.pointer (some ⟨W.heap.size, 0, none⟩)]) ∧ w' = W.alloc (.cells #[.map q] 66) := fun q W => AnyZI.keys_in Tryz.keysA Fence.wide 5 trivial rfl q W
  have cS := AnyZI.sorted_in Tryz.sortedA Fence.wide 5 trivial trivial trivial trivial rfl (by omega) (Tryz.sortsA _) (enters_of Tryz.func68 (by kernel_rfl) rfl) 69 #[.pointer (some ⟨w.heap.size, 0, none⟩)] trivial (enters_of Tryz.func69 (by kernel_rfl) rfl) _ _ hmax hbytes _ hseq
  change CallsIn _ _ Tryz.prog 57 _ _ _ at cS
  have hfK : Fence.wide.fn 58 := trivial
  have hfS : Fence.wide.fn 57 := trivial
  refine callsIn_of_wp Tryz.func38 rfl trivial ?_ rfl
  simp only [Tryz.ntmps38, List.size_toArray, List.length_cons, List.length_nil, Nat.reduceAdd, Nat.reduceSub, Array.replicate_succ, Array.replicate_zero, List.push_toArray, List.append_toArray, List.nil_append, List.cons_append]
  gi_wp2_with (first
    | (gi_at_call 58; refine (cK _ _).mono ?_; rintro e w' ⟨rfl, rfl⟩)
    | (gi_at_call 57; refine cS.mono ?_; rintro e w' ⟨v, ss, rfl, hS, hrow, hnil, hb⟩))
  go_ret
  exact ⟨v, ss, rfl, hS, ownsRow_base_a hrow (by simp), hnil, ((Below.refl _ w).alloc (Nat.le_refl _) _).trans (hb.mono (by simp))⟩
end Go.Proofs.YtfnhhjpebilacaaGreat
