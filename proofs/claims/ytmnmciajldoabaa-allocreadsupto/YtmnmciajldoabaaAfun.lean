/-
  DERIVED. New, Blocks, Commit, Reset, runAt, use.
-/
import Derived.Test.YtmnmciajldoabaaAmem
namespace Go.Proofs.Ytmnmciajldoabaa
open Go.RowKit
set_option linter.unusedVariables false

def none? : Nat → Bool := fun _ => false

theorem run_build_map (w : World) (B : Nat) : (Instr.build 52 #[(0, .int .i64 (B : Int))]).run Try.prog w = .ok (.agg (mcells B none? none?)) w := by
  refine run_build w 52 #[(0, .int .i64 (B : Int))] _ ?_
  kernel_rfl
theorem run_box_map (w : World) (B : Nat) (U V : Nat → Bool) : (Instr.box 52 (.agg (mcells B U V))).run Try.prog w = .ok (.pointer (some ⟨w.heap.size, 0, none⟩)) (w.alloc (.cells (mcells B U V) 52)) := by
  simp [Instr.box, newVar, newRow, Value.cells]
theorem run_alloc_map (w : World) : (Instr.alloc 52 true (.tuple #[])).run Try.prog w = .ok (.pointer (some ⟨w.heap.size, 0, none⟩)) (w.alloc (.cells (mcells 0 none? none?) 52)) := by kernel_rfl
theorem wpList_build_map {ops : Array Oper} {rest : List Oper} {o : Oper} {a : Act} {w : World} {Q : Exit → Act → World → Prop} (hgd : o.guard = none) (x : Operand) (B : Nat)
    (ho : o.op = .build 52 #[(0, x)]) (hx : a.eval x = .int .i64 (B : Int)) (h : wpList Try.prog ops Q rest (a.put o.dst (.agg (mcells B none? none?))) w) : wpList Try.prog ops Q (o :: rest) a w := by
  refine wpList_plain hgd fun K hK => ?_
  unfold Oper.wp execOp
  have e : (Instr.build 52 (#[(0, x)].map fun (i, x) => (i, a.eval x))).run Try.prog w = .ok (.agg (mcells B none? none?)) w := by
    rw [show (#[(0, x)].map fun (i, x) => (i, a.eval x)) = #[(0, .int .i64 (B : Int))] by simp [hx]]
    exact run_build_map w B
  simp only [ho, Sem.run_bind, Sem.run_pure, e, Result.andThen_ok]
  exact hK _ _ h
theorem wpList_box_map {ops : Array Oper} {rest : List Oper} {o : Oper} {a : Act} {w : World} {Q : Exit → Act → World → Prop} (hgd : o.guard = none) (x : Operand) (B : Nat) (U V : Nat → Bool)
    (ho : o.op = .box 52 x) (hx : a.eval x = .agg (mcells B U V)) (h : wpList Try.prog ops Q rest (a.put o.dst (.pointer (some ⟨w.heap.size, 0, none⟩))) (w.alloc (.cells (mcells B U V) 52))) : wpList Try.prog ops Q (o :: rest) a w := by
  refine wpList_plain hgd fun K hK => ?_
  unfold Oper.wp execOp
  simp only [ho, hx, Sem.run_bind, Sem.run_pure, run_box_map, Result.andThen_ok]
  exact hK _ _ h

theorem New_any (B : Nat) (w : World) (hB : B ≤ 512) :
    Calls Try.prog 6 #[.int .i64 (B : Int)] w fun e w' => e = .returned (.pointer (some ⟨w.heap.size, 0, none⟩)) ∧ MapAt w' w.heap.size B none? none? ∧ w.grownBy w' none := by
  have hB' : (B : Int) ≤ 512 := by omega
  go_enter Try.func6, Try.ntmps6
  go_wp2_with (first | (refine wpList_build_map rfl (.tmp 9) B rfl rfl ?_) | (refine wpList_box_map rfl (.tmp 10) B none? none? rfl rfl ?_))
  go_ret
  exact ⟨rfl, ⟨heap_alloc_new _ _, hB⟩, World.grownBy_alloc _ _ _⟩
theorem New_no (n : Int) (w : World) (hn : n < 0 ∨ 512 < n) (h1 : -9223372036854775808 ≤ n) (h2 : n ≤ 9223372036854775807) :
    Calls Try.prog 6 #[.int .i64 n] w fun e w' => e = .returned (.pointer none) ∧ w' = w := by
  rcases hn with hn | hn
  · go_enter Try.func6, Try.ntmps6
    go_wp2
    go_ret
    exact ⟨rfl, rfl⟩
  · have hn' : ¬ n < 0 := by omega
    go_enter Try.func6, Try.ntmps6
    go_wp2
    go_ret
    exact ⟨rfl, rfl⟩

theorem Blocks_any (w : World) (b B : Nat) (U V : Nat → Bool) (h : MapAt w b B U V) :
    Calls Try.prog 33 #[.pointer (some ⟨b, 0, none⟩)] w fun e w' => e = .returned (.int .i64 (B : Int)) ∧ w' = w := by
  have c0 := h.num
  go_enter Try.func33, Try.ntmps33
  go_wp2
  go_ret
  exact ⟨rfl, rfl⟩
theorem Blocks_nil (w : World) : Calls Try.prog 33 #[.pointer none] w fun e w' => e = .returned (.int .i64 0) ∧ w' = w := by
  go_enter Try.func33, Try.ntmps33
  go_wp2
  go_ret
  exact ⟨rfl, rfl⟩

set_option maxRecDepth 20000 in
theorem Commit_any (w : World) (b B : Nat) (U V : Nat → Bool) (h : MapAt w b B U V) :
    Calls Try.prog 15 #[.pointer (some ⟨b, 0, none⟩)] w fun e w' => (∃ v, e = .returned v) ∧ MapAt w' b B U U ∧ w.grownBy w' (some b) := by
  have HR := hide h.rangeU
  have HT : Hid (w.there b 513 (bs U).toArray.size) := hide (by simpa [bs_len] using h.thereV)
  have HS := hide (h.setV U)
  go_enter Try.func15, Try.ntmps15
  go_wp2_with (first | (refine wpList_load_mid rfl 50 (.tmp 7) rfl b 1 rfl (bs U) _ (unhide HR) Try.underlying50 rfl (by rw [bs_len]; exact info512) ?_) | (refine wpList_store_mid rfl 50 (.tmp 10) (.tmp 8) rfl b 513 (bs U).toArray rfl rfl (unhide HT) (by simpa [bs_len] using info512) (all_oneCell_toArray (bs_one U)) ?_))
  go_end0
  exact ⟨⟨_, rfl⟩, unhide HS, setCells_grown b _ _ _⟩
theorem Commit_nil (w : World) : Calls Try.prog 15 #[.pointer none] w fun e w' => (∃ v, e = .returned v) ∧ w' = w := by
  go_enter Try.func15, Try.ntmps15
  go_wp2
  go_end0
  exact ⟨⟨_, rfl⟩, rfl⟩

set_option maxRecDepth 20000 in
theorem Reset_any (w : World) (b B : Nat) (U V : Nat → Bool) (h : MapAt w b B U V) :
    Calls Try.prog 17 #[.pointer (some ⟨b, 0, none⟩)] w fun e w' => (∃ v, e = .returned v) ∧ MapAt w' b B V V ∧ w.grownBy w' (some b) := by
  have HR := hide h.rangeV
  have HT : Hid (w.there b 1 (bs V).toArray.size) := hide (by simpa [bs_len] using h.thereU)
  have HS := hide (h.setU V)
  go_enter Try.func17, Try.ntmps17
  go_wp2_with (first | (refine wpList_load_mid rfl 50 (.tmp 7) rfl b 513 rfl (bs V) _ (unhide HR) Try.underlying50 rfl (by rw [bs_len]; exact info512) ?_) | (refine wpList_store_mid rfl 50 (.tmp 10) (.tmp 8) rfl b 1 (bs V).toArray rfl rfl (unhide HT) (by simpa [bs_len] using info512) (all_oneCell_toArray (bs_one V)) ?_))
  go_end0
  exact ⟨⟨_, rfl⟩, unhide HS, setCells_grown b _ _ _⟩
theorem Reset_nil (w : World) : Calls Try.prog 17 #[.pointer none] w fun e w' => (∃ v, e = .returned v) ∧ w' = w := by
  go_enter Try.func17, Try.ntmps17
  go_wp2
  go_end0
  exact ⟨⟨_, rfl⟩, rfl⟩
end Go.Proofs.Ytmnmciajldoabaa
