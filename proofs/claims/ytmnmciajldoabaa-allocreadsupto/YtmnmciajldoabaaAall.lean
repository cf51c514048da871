/-
  DERIVED. All, and the function that it gives: what a range over it goes through.
-/
import Derived.Test.YtmnmciajldoabaaAgive
import Derived.RangeFuncNested
import Derived.RangeFuncBound
import Derived.RangeFuncCalls
import Derived.RangeFuncLeaves
import Derived.Shelf.Abstract
import Derived.Shelf.RegionOpen
import Derived.OwnWalkIn
import Derived.TacticsInMore
import Derived.LoopNIn
import Derived.LoopIn
namespace Go.Proofs.Ytmnmciajldoabaa
open Go.RowKit Go.Shelf
set_option linter.unusedVariables false
attribute [local go_sem] Oper.semAt_some

theorem All_any (w : World) (p : Option Addr) :
    Calls Try.prog 24 #[.pointer p] w fun e w' => e = .returned (.func (.func 40) #[] #[.pointer (some ⟨w.heap.size, 0, none⟩)]) ∧ w' = w.alloc (.cells #[.pointer p] 24) := by
  go_enter Try.func24, Try.ntmps24
  go_wp2
  go_ret
  exact ⟨rfl, rfl⟩

/-! ### Steps of a fenced walk over many cells -/
section
variable {F : Fence} {n : Nat} {ops : Array Oper} {rest : List Oper} {o : Oper} {a : Act} {w : World} {Q : Exit → Act → World → Prop}
theorem wpListIn_load_map (hgd : o.guard = none) (x : Operand) (ho : o.op = .load 52 x) (b B : Nat) (U V : Nat → Bool) (hx : a.eval x = .pointer (some ⟨b, 0, none⟩)) (hm : MapAt w b B U V)
    (h : wpListIn F n Try.prog ops Q rest (a.put o.dst (.agg (mcells B U V))) w) : wpListIn F n Try.prog ops Q (o :: rest) a w := by
  refine wpListIn_plain hgd fun K hK => ?_
  unfold Oper.wpIn
  refine ⟨?_, ?_⟩
  · simp [Oper.about, ho]
  · rw [Oper.semAt_plain F _ _ (by rw [ho]; intro c hc; cases hc)]
    unfold execOp
    simp only [ho, hx, Instr.loadAt, Instr.sureAddr, Sem.run_bind, Sem.run_pure, Result.andThen_ok, run_loadVar_row w b 52 52 (mcells B U V) (0, 0) _ hm.blk Try.underlying52 rfl (by rw [mcells_size]; exact infoMap)]
    exact hK _ _ h
theorem wpListIn_alloc_map (hgd : o.guard = none) (ho : o.op = .alloc 52) (h : wpListIn F n Try.prog ops Q rest (a.put o.dst (.pointer (some ⟨w.heap.size, 0, none⟩))) (w.alloc (.cells (mcells 0 none? none?) 52))) : wpListIn F n Try.prog ops Q (o :: rest) a w := by
  refine wpListIn_plain hgd fun K hK => ?_
  unfold Oper.wpIn
  refine ⟨?_, ?_⟩
  · simp [Oper.about, ho]
  · rw [Oper.semAt_plain F _ _ (by rw [ho]; intro c hc; cases hc)]
    unfold execOp
    simp only [ho, Sem.run_bind, Sem.run_pure, run_alloc_map, Result.andThen_ok]
    exact hK _ _ h
theorem wpListIn_store_map (hgd : o.guard = none) (x y : Operand) (ho : o.op = .store 52 x y) (g B : Nat) (U V : Nat → Bool) (old : Array Value) (hx : a.eval x = .pointer (some ⟨g, 0, none⟩)) (hy : a.eval y = .agg (mcells B U V)) (hg : w.heap[g]? = some (.cells old 52 (0, 0))) (hs : old.size = 1025)
    (h : wpListIn F n Try.prog ops Q rest (a.put o.dst undef) (w.setRow g (mcells B U V))) : wpListIn F n Try.prog ops Q (o :: rest) a w := by
  refine wpListIn_plain hgd fun K hK => ?_
  unfold Oper.wpIn
  refine ⟨?_, ?_⟩
  · simp [Oper.about, ho]
  · rw [Oper.semAt_plain F _ _ (by rw [ho]; intro c hc; cases hc)]
    unfold execOp
    simp only [ho, hx, hy, Instr.storeAt, Instr.sureAddr, Sem.run_bind, Sem.run_pure, Result.andThen_ok, run_storeVar_row w g 52 52 old (mcells B U V) hg (by rw [mcells_size]; exact infoMap) (by rw [mcells_size, hs]) (mcells_one B U V)]
    exact hK _ _ h
end

/-! ### What a round keeps -/
/-- The row of the slice that a variable holds. -/
def arr (tb : Nat) (W : World) (j : Nat) : Prop := ∃ len cap, W.cell? ⟨tb, 0, none⟩ = some (.slice (some ⟨j, 0, none⟩) len cap)
structure Kp (w0 tb : Nat) (W W' : World) : Prop where
  size : W.heap.size ≤ W'.heap.size
  keep : ∀ j C t fr, w0 ≤ j → W.heap[j]? = some (.cells C t fr) → ¬ arr tb W j → W'.heap[j]? = W.heap[j]?
  arrs : ∀ j, arr tb W' j → arr tb W j ∨ (W.heap.size ≤ j ∧ j < W'.heap.size)
theorem Kp.refl (w0 tb : Nat) (W : World) : Kp w0 tb W W := ⟨Nat.le_refl _, fun _ _ _ _ _ _ _ => rfl, fun _ h => .inl h⟩
theorem Kp.trans {w0 tb : Nat} {A B C : World} (h : Kp w0 tb A B) (k : Kp w0 tb B C) : Kp w0 tb A C := by
  refine ⟨Nat.le_trans h.size k.size, fun j D t fr hj hc ha => ?_, fun j ha => ?_⟩
  · have h1 := h.keep j D t fr hj hc ha
    refine (k.keep j D t fr hj (h1.trans hc) fun hb => ?_).trans h1
    rcases h.arrs j hb with h2 | h2
    · exact ha h2
    · have := lt_of_block hc; omega
  · have s1 := h.size
    have s2 := k.size
    rcases k.arrs j ha with h1 | h1
    · rcases h.arrs j h1 with h2 | h2
      · exact .inl h2
      · exact .inr ⟨h2.1, by omega⟩
    · exact .inr ⟨by omega, h1.2⟩
theorem arr_of_cell {tb : Nat} {W W' : World} {j : Nat} (h : W'.cell? ⟨tb, 0, none⟩ = W.cell? ⟨tb, 0, none⟩) : arr tb W' j ↔ arr tb W j := by simp only [arr, h]
theorem Kp.of_grown {w0 tb : Nat} {W W' : World} (h : W.grownBy W' none) (htb : tb < W.heap.size) : Kp w0 tb W W' :=
  ⟨h.size, fun j _ _ _ _ hc _ => h.block j (lt_of_block hc) (by simp), fun j ha => .inl ((arr_of_cell (World.cell?_of_block (h.block tb htb (by simp)))).1 ha)⟩
theorem Kp.book {w0 tb : Nat} {w : World} (htb : tb < w.heap.size) (W : World) (l : Nat) (o o' : Obj) (hl : w.heap.size ≤ l) (h : W.heap[l]? = some o) (hc : o.isCells = false) (hw : o.isWalk = false) : Kp w0 tb W (W.putObj l o') := by
  have hg := grownBy_putObj' W l o'
  refine ⟨hg.size, fun j C t fr _ hj _ => hg.block j (lt_of_block hj) (fun e => ?_), fun j ha => .inl ((arr_of_cell (World.cell?_of_block ?_)).1 ha)⟩
  · cases e
    rw [hj] at h
    cases h
    cases hc
  · exact World.putObj_heap_other (show tb ≠ l by omega)

theorem runsF_pre {f : Nat → Bool} {B n : Nat} {xs pre : List (Nat × Nat)} (h : xs = pre ++ runsF f (B - n) n) (hn : n < B) :
    (0 < runL f (B - n) n → xs = (pre ++ [(n, runL f (B - n) n)]) ++ runsF f (B - (n + runL f (B - n) n + 1)) (n + runL f (B - n) n + 1)) ∧ (runL f (B - n) n = 0 → xs = pre ++ runsF f (B - (n + 1)) (n + 1)) := by
  constructor
  · intro h0
    rw [h, runsF_run f (B - n) n h0, List.append_assoc, show B - n - (runL f (B - n) n + 1) = B - (n + runL f (B - n) n + 1) by omega]
    rfl
  · intro h0
    have e : B - n = (B - (n + 1)) + 1 := by omega
    rw [h]
    rw [e] at h0 ⊢
    rw [runsF_none f _ n h0]

set_option maxHeartbeats 2000000 in
set_option maxRecDepth 100000 in
theorem AllIt_in (n l b B Bx tb w0 : Nat) (U V : Nat → Bool) (J Jx : List (Nat × Nat) → World → Prop) (W : World)
    (hY : ∀ pre x W1, J pre W1 → pre.length < (runsOf B U V).length → YieldAt Fence.wide (n - 1) Try.prog l #[rv (cl x)] W1 fun e W' =>
      (e = .returned (.bool true) ∧ J (pre ++ [x]) W' ∧ Kp w0 tb W1 W') ∨ (e = .returned (.bool false) ∧ Jx (pre ++ [x]) W'))
    (hJ : ∀ s A A', J s A → A.grownBy A' none → J s A')
    (hBx : W.cell? ⟨Bx, 0, none⟩ = some (.pointer (some ⟨b, 0, none⟩))) (hm : MapAt W b B U V) (htb : tb < w0) (hw0 : w0 ≤ W.heap.size) (harr : ∀ j, ¬ arr tb W j) (h0 : J [] W) :
    CallsIn Fence.wide n Try.prog 40 #[.func (.yield l) #[] #[], .pointer (some ⟨Bx, 0, none⟩)] W fun e W' => (∃ v, e = .returned v) ∧
      ((∃ ys, ys = runsOf B U V ∧ J ys W') ∨ (∃ pre, pre <+: runsOf B U V ∧ Jx pre W')) := by
  have hB := hm.le
  refine callsIn_of_wp Try.func40 rfl trivial ?_ rfl
  simp only [Try.ntmps40, List.size_toArray, List.length_cons, List.length_nil, Nat.reduceAdd, Nat.reduceSub, Array.replicate_succ, Array.replicate_zero, List.push_toArray, List.append_toArray, List.nil_append, List.cons_append]
  have HM := hide hm
  have HC := hide (copy_laid W B U V hm.le)
  have HN : Hid ((W.alloc (.cells (mcells 0 none? none?) 52)).heap[W.heap.size]? = some (.cells (mcells 0 none? none?) 52)) := hide (heap_alloc_new _ _)
  have HA : Hid (∀ j, ¬ arr tb ((W.alloc (.cells (mcells 0 none? none?) 52)).setRow W.heap.size (mcells B U V)) j) := hide (fun j h => harr j ((arr_of_cell (World.cell?_of_block ((unhide HC).2.block tb (by omega) (by simp)))).1 h))
  have HJ0 := hide (hJ [] _ _ h0 (unhide HC).2)
  have HY := hide hY
  have HJ := hide hJ
  clear hm h0 hY hJ harr
  gi_wp2_with (first | (refine wpListIn_load_map rfl (.tmp 9) rfl b B U V rfl (unhide HM) ?_) | (refine wpListIn_alloc_map rfl rfl ?_) | (refine wpListIn_store_map rfl (.tmp 3) (.tmp 10) rfl W.heap.size B U V _ rfl rfl (unhide HN) (mcells_size _ _ _) ?_))
  gi_loopw [4] (fun i wr => ∃ (m : Nat) (pre : List (Nat × Nat)), i = .int .i64 (m : Int) ∧ m ≤ B + 1 ∧ Hid (runsOf B U V = pre ++ runsF (may U V) (B - m) m) ∧ Hid (J pre wr) ∧ MapAt wr W.heap.size B U V ∧ Hid (∀ j, arr tb wr j → j < wr.heap.size ∧ j ≠ W.heap.size)) (fun i _ => B + 1 - (intOf i).toNat)
  case atStart => exact ⟨0, [], rfl, by omega, hide rfl, HJ0, (unhide HC).1, hide (fun j h => absurd h (unhide HA j))⟩
  case round =>
    obtain ⟨m, pre, rfl, hmB, HX, HJs, hmT, HAr⟩ := hrel
    have c0 := hmT.num
    clear HC HN HA HJ0 HM hBx
    by_cases hlt : m < B
    · have hlt' : (m : Int) < (B : Int) := by omega
      have hm5 : (m : Int) ≤ 512 := by omega
      have HP := hide (runsF_pre (unhide HX) hlt)
      obtain ⟨L, hL⟩ : ∃ L, L = runL (may U V) (B - m) m := ⟨_, rfl⟩
      rw [← hL] at HP
      have hLle : L ≤ B - m := by rw [hL]; exact runL_le _ _ _
      have HT := hide hmT
      have HL := hide hL
      clear hmT hL HX
      gi_wp2_with fail
      refine ⟨trivial, (fun h => by cases h), (callsIn_wide.2 (runAt_any wr W.heap.size B m U V (unhide HT) (by omega))).mono ?_⟩
      rintro e w2 ⟨rfl, hg2⟩
      rw [← unhide HL]
      unfold rv
      simp only
      have hgz : wr.grownBy (w2.alloc (.cells #[.int .i64 (m : Int), .int .i64 (L : Int)] 36)) none := hg2.trans (World.grownBy_alloc _ _ _)
      have HT2 := hide ((unhide HT).grown hgz (by simp))
      have HJ2 := hide (unhide HJ pre _ _ (unhide HJs) hgz)
      have HAr2 : Hid (∀ j, arr tb (w2.alloc (.cells #[.int .i64 (m : Int), .int .i64 (L : Int)] 36)) j → j < w2.heap.size ∧ j ≠ W.heap.size) := hide (fun j h => by
        have hlt2 : tb < wr.heap.size := by have := (unhide HT).lt; omega
        have := unhide HAr j ((arr_of_cell (World.cell?_of_block (hgz.block tb hlt2 (by simp)))).1 h)
        have := hg2.size
        omega)
      have hTlt : W.heap.size < w2.heap.size := by have := (unhide HT).lt; have := hg2.size; omega
      have HRb : Hid ((w2.alloc (.cells #[.int .i64 (m : Int), .int .i64 (L : Int)] 36)).heap[w2.heap.size]? = some (.cells #[.int .i64 (m : Int), .int .i64 (L : Int)] 36)) := hide (heap_alloc_new _ _)
      clear hg2 hgz HJs HAr HT HL c0
      by_cases hL0 : 0 < L
      · have hL0' : (0 : Int) < (L : Int) := by omega
        have HX2 := hide ((unhide HP).1 hL0)
        obtain ⟨fn, tmps, assign, body, hy, hR⟩ := unhide HY pre (m, L) _ (unhide HJ2) (by rw [unhide HX2]; simp)
        rw [cl_id (x := (m, L)) (by simp only; omega) (by simp only; omega)] at hy
        unfold rv at hy
        simp only at hy
        clear HP HY
        gi_wp2
        refine ⟨(fun h => by cases h), hR.mono ?_⟩
        rintro e W3 (⟨rfl, hJ3, hk3⟩ | ⟨rfl, hJx3⟩)
        · have hRt : ¬ arr tb (w2.alloc (.cells #[.int .i64 (m : Int), .int .i64 (L : Int)] 36)) w2.heap.size := fun h => by have := unhide HAr2 _ h; omega
          have hTt : ¬ arr tb (w2.alloc (.cells #[.int .i64 (m : Int), .int .i64 (L : Int)] 36)) W.heap.size := fun h => by have := unhide HAr2 _ h; omega
          have hr3 := (hk3.keep w2.heap.size _ _ _ (by omega) (unhide HRb) hRt).trans (unhide HRb)
          have d1 : W3.cell? ⟨w2.heap.size, 1, none⟩ = some (.int .i64 (L : Int)) := by rw [cell_of_row _ _ _ _ _ _ hr3]; rfl
          have HT3 : Hid (MapAt W3 W.heap.size B U V) := hide ((unhide HT2).of (hk3.keep W.heap.size _ _ _ (by omega) (unhide HT2).blk hTt))
          have HAr3 : Hid (∀ j, arr tb W3 j → j < W3.heap.size ∧ j ≠ W.heap.size) := hide (fun j h => by
            have hs := hk3.size
            simp at hs
            rcases hk3.arrs j h with h1 | h1
            · have := unhide HAr2 j h1
              omega
            · simp at h1
              omega)
          have HJ3 := hide hJ3
          clear hJ3 hk3 hr3 hR hy HAr2 HT2 HJ2 HRb
          gi_wp2
          go_roundw
          case rel => exact ⟨m + L + 1, pre ++ [(m, L)], by congr 1, by omega, HX2, HJ3, unhide HT3, HAr3⟩
          case measure => simp [intOf]; omega
        · have HX3 := hide hJx3
          clear hR hy HAr2 HT2 HJ2 HRb hJx3
          gi_wp2
          refine bodyPost_ret (results_none rfl _ _ _) rfl ?_
          exact ⟨⟨_, rfl⟩, .inr ⟨pre ++ [(m, L)], ⟨_, (unhide HX2).symm⟩, unhide HX3⟩⟩
      · have hL0' : ¬ (0 : Int) < (L : Int) := by omega
        obtain rfl : L = 0 := by omega
        have HX2 := hide ((unhide HP).2 rfl)
        clear HP HY
        gi_wp2
        refine ⟨fun _ h => (by cases h), ?_⟩
        gi_wp2
        go_roundw
        case rel => exact ⟨m + 1, pre, rfl, by omega, HX2, HJ2, unhide HT2, hide (fun j h => by have := unhide HAr2 j h; simp; omega)⟩
        case measure => simp [intOf]; omega
    · have hlt' : ¬ (m : Int) < (B : Int) := by omega
      have HX2 : Hid (runsOf B U V = pre) := hide (by rw [unhide HX, show B - m = 0 by omega]; simp [runsF])
      clear HX HAr hmT
      gi_wp2
      go_end0
      exact ⟨⟨_, rfl⟩, .inl (by rw [unhide HX2]; exact unhide HJs)⟩

theorem AllIt_stops (n b B Bx tb w0 : Nat) (U V : Nat → Bool) (w : World) (hBx : w.cell? ⟨Bx, 0, none⟩ = some (.pointer (some ⟨b, 0, none⟩))) (hBl : Bx < w.heap.size) (hm : MapAt w b B U V) (htb : tb < w0) (hw0 : w0 ≤ w.heap.size) (harr : ∀ j, ¬ arr tb w j) :
    SeqStopsK Fence.wide n Try.prog 40 #[.pointer (some ⟨Bx, 0, none⟩)] (fun x : Nat × Nat => #[rv (cl x)]) (Kp w0 tb) (fun ys => ys = runsOf B U V) (fun pre => pre <+: runsOf B U V) (runsOf B U V).length w := fun l J Jx W hW hJ _ hY h0 =>
  AllIt_in n l b B Bx tb w0 U V J Jx W hY (fun s A A' h hg => hJ s A A' none h hg (fun r e => by cases e)) ((hW.cell (p := ⟨Bx, 0, none⟩) hBl).trans hBx) (hm.below hW hm.lt) htb (by have := hW.size; omega) (fun j h => harr j ((arr_of_cell (hW.cell (p := ⟨tb, 0, none⟩) (show tb < w.heap.size by omega))).1 h)) h0

set_option maxHeartbeats 1000000 in
theorem AllIt_nil (n Bx : Nat) (Kp : World → World → Prop) (w : World) (hBx : w.cell? ⟨Bx, 0, none⟩ = some (.pointer none)) (hBl : Bx < w.heap.size) :
    SeqStopsK Fence.wide n Try.prog 40 #[.pointer (some ⟨Bx, 0, none⟩)] (fun x : Nat × Nat => #[rv (cl x)]) Kp (fun ys => ys = []) (fun pre => pre <+: []) 0 w := fun l J Jx W hW _ _ _ h0 => by
  have hc : W.cell? ⟨Bx, 0, none⟩ = some (.pointer none) := (hW.cell (p := ⟨Bx, 0, none⟩) hBl).trans hBx
  have HJ := hide h0
  clear h0
  refine callsIn_of_wp Try.func40 rfl trivial ?_ rfl
  simp only [Try.ntmps40, List.size_toArray, List.length_cons, List.length_nil, Nat.reduceAdd, Nat.reduceSub, Array.replicate_succ, Array.replicate_zero, List.push_toArray, List.append_toArray, List.nil_append, List.cons_append]
  gi_wp2
  refine bodyPost_ret (results_none rfl _ _ _) rfl ?_
  exact ⟨⟨_, rfl⟩, .inl (unhide HJ)⟩
end Go.Proofs.Ytmnmciajldoabaa
