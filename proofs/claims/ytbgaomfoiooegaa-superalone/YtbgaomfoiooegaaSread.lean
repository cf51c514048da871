/-
  DERIVED. The walk of read: where the device refuses at once.
-/
import Derived.Test.YtbgaomfoiooegaaSlay
import Derived.Test.YtbgaomfoiooegaaDops
import Derived.LoopN
namespace Go.Proofs.Ytbgaomfoiooegaa
open Go.RowKit
set_option linter.unusedVariables false

abbrev two0 : Array Value := #[.bool false, .int .u32 0, .int .i64 0, .slice none 0 0, .bool false, .int .u32 0, .int .i64 0, .slice none 0 0]
theorem sizeTwo : (Try.prog.info? 62).map (·.size) = some 8 := by kernel_rfl
theorem one_two0 : two0.all (·.oneCell') = true := by simp [two0, Value.oneCell']

/-- A row that is answered, and a value beside it. -/
theorem results_row_tmp {fn : Func} {p u : Tmp} {ty : TypeId} (h : fn.results = #[.cell p ty, .tmp u]) (tmps : Array Value) (w : World) (g : Nat) (cs : Array Value) (y : Value)
    (hp : tmps.getD p undef = .pointer (some ⟨g, 0, none⟩)) (hy : tmps.getD u undef = y) (hl : (loadVar ty ⟨g, 0, none⟩).run Try.prog w = .ok (.agg cs) w) :
    (results fn tmps).run Try.prog w = .ok (.tuple #[.agg cs, y]) w := by
  have hp' : tmps[p]?.getD undef = .pointer (some ⟨g, 0, none⟩) := by simpa using hp
  have hy' : tmps[u]?.getD undef = y := by simpa using hy
  simp [results, h, hp', hy', asAddr, hl]

set_option maxHeartbeats 2000000 in
theorem read_shut {w : World} {b : Nat} {F : Nat → Prop} {N : Nat} {S : St} (h : Dev w b F N S) (k : Nat) (hk : k + 1 < S.safe.length) (hs : S.safe.length ≤ 512) (hd : S.down = false) (hB : burnE S.fused S.fuse ≠ 0) (hN : N < 1000000) (hF : ∀ k, F k → k < w.heap.size) :
    Calls Try.prog 24 #[.pointer (some ⟨b, 0, none⟩), .int .i64 k] w fun e w' => e = .returned (.tuple #[.agg two0, .int .i64 2]) ∧ Dev w' b F (N + 1) S.burn ∧ Kept F w w' := by
  have HD := hide h
  clear h
  obtain ⟨W, hW⟩ : ∃ W, W = (w.alloc (.cells two0 62)).alloc (.cells two0 62) := ⟨_, rfl⟩
  have HW : Hid (Below w.heap.size w W) := hide (by rw [hW]; exact ((Below.refl _ _).alloc (Nat.le_refl _) _).alloc (by simp) _)
  have HZ : Hid (W.heap[w.heap.size]? = some (.cells two0 62 (0, 0))) := hide (by rw [hW, Below.heap_alloc _ _ _ (by simp)]; exact heap_alloc_self _ _)
  have sW : W.heap.size = w.heap.size + 2 := by rw [hW]; simp
  go_enter Try.func24, Try.ntmps24
  go_wp2_with fail
  rw [← hW]
  clear hW
  refine wp_loop_rounds 1 ?_
  rw [rounds_succ]
  go_wp2_with fail
  refine (Read_dev_burnt ((unhide HD).grown (unhide HW)) k (by omega) hd hB hN).mono ?_
  rintro e w1 ⟨rfl, d1, k1⟩
  have HZ1 : Hid (w1.heap[w.heap.size]? = some (.cells two0 62 (0, 0))) := hide ((k1.block _ (by omega) (fun h => by have := hF _ h; omega)).trans (unhide HZ))
  have H1 := hide (And.intro d1 k1)
  clear d1 k1
  go_wp2_with (refine wpList_store_row rfl 62 (.tmp 4) (.tmp 23) rfl w.heap.size two0 rfl rfl 62 two0 (unhide HZ1) sizeTwo rfl one_two0 ?_)
  (try simp only [Exit.inBlock, Exit.then])
  refine bodyPost_ret (v := .tuple #[.agg two0, .int .i64 2]) (results_row_tmp rfl _ _ w.heap.size two0 _ rfl rfl (run_loadVar_row _ w.heap.size 62 62 two0 (0, 0) _ (setRow_heap _ _ _ _ _ _ (unhide HZ1)) Try.underlying62 rfl sizeTwo)) rfl ⟨rfl, ?_, ?_⟩
  · exact (unhide H1).1.frame fun j hj _ => setRow_other _ _ _ _ (by have := hF _ hj; omega)
  · have hB1 := unhide HW
    have hK1 := (unhide H1).2
    refine ⟨hK1.os.trans hB1.os, hK1.tape.trans hB1.tape, hK1.output.trans hB1.output, ?_, fun j hj hn => ?_⟩
    · have := hK1.size
      simp [World.setRow]
      omega
    · rw [setRow_other _ _ _ _ (by omega), hK1.block j (by omega) hn, hB1.block j hj]
end Go.Proofs.Ytbgaomfoiooegaa
