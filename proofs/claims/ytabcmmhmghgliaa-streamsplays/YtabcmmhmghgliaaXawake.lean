/-
  DERIVED. The walk of awake.
-/
import Derived.Test.YtabcmmhmghgliaaXkeyed
namespace Go.Proofs.Ytabcmmhmghgliaa
open Go.RowKit Go.Maps
set_option linter.unusedVariables false

abbrev opS : List UInt8 := [111, 112, 101, 110, 101, 100]
def opE : Evn := ⟨opS, 1, []⟩
theorem opE_ok : okEv opE := ⟨by unfold okName opE; decide, by unfold opE; decide, by unfold opE; decide, by unfold opE; decide, fun j hj => by simp [opE] at hj⟩
theorem opE_fit : fitE opE := ⟨by unfold opE; decide, fun f hf => by simp [opE] at hf⟩
theorem opE_16 : opE.fields.length ≤ 16 := by unfold opE; decide

/-- One or two such events in a block. -/
theorem evl_one {w : World} {b : Nat} (h : w.heap[b]? = some (.cells (ev opS 1 none 0 0) 49 (0, 0))) : EvL w (.slice (some ⟨b, 0, none⟩) 1 1) [opE] := by
  refine ⟨some ⟨b, 0, none⟩, 1, rfl, by decide, by decide, fun _ => ⟨b, 0, rfl, lt_of_block h, fun i hi => ?_⟩⟩
  obtain rfl : i = 0 := by simp at hi; exact hi
  exact ⟨(cell_of_row _ _ _ _ _ _ h).trans rfl, (cell_of_row _ _ _ _ _ _ h).trans rfl, none, 0, 0, (cell_of_row _ _ _ _ _ _ h).trans rfl, none, 0, rfl, Nat.le_refl 0, by decide, fun h => absurd rfl h⟩
theorem evl_two {w : World} {b : Nat} (h : w.heap[b]? = some (.cells #[sv opS, .int .i64 1, .slice none 0 0, sv opS, .int .i64 1, .slice none 0 0] 49 (0, 0))) : EvL w (.slice (some ⟨b, 0, none⟩) 2 2) [opE, opE] := by
  refine ⟨some ⟨b, 0, none⟩, 2, rfl, by decide, by decide, fun _ => ⟨b, 0, rfl, lt_of_block h, fun i hi => ?_⟩⟩
  have hi2 : i = 0 ∨ i = 1 := by simp at hi; omega
  rcases hi2 with rfl | rfl
  · exact ⟨(cell_of_row _ _ _ _ _ _ h).trans rfl, (cell_of_row _ _ _ _ _ _ h).trans rfl, none, 0, 0, (cell_of_row _ _ _ _ _ _ h).trans rfl, none, 0, rfl, Nat.le_refl 0, by decide, fun h => absurd rfl h⟩
  · exact ⟨(cell_of_row _ _ _ _ _ _ h).trans rfl, (cell_of_row _ _ _ _ _ _ h).trans rfl, none, 0, 0, (cell_of_row _ _ _ _ _ _ h).trans rfl, none, 0, rfl, Nat.le_refl 0, by decide, fun h => absurd rfl h⟩

noncomputable def aw1 : Ix := Ix.new.added [97] [107] 0 [opE, opE]
theorem aw_try : tryOk Ix.new [97] (-1) [107] [opE, opE] := ⟨by unfold okNames; decide, rfl, ⟨by decide, by decide, fun e he => by simp at he; rw [he]; exact opE_ok⟩, by decide, .inl rfl⟩
theorem aw_ver0 : Ix.new.ver [97] = 0 := rfl
theorem aw_chk : chkA Ix.new [97] [107] (0 : Nat) [opE, opE] = 0 := by
  unfold chkA
  rw [if_neg (fun h => h aw_try.1), if_neg (by simp [Ix.new]), if_neg (fun h => h aw_try.2.2.1), if_neg (fun h => h rfl)]
theorem aw_again : tryA aw1 [97] 7 [107] [] = (apV 0 0 2 true, 0) := by
  unfold tryA
  rw [if_neg (fun h => h (by unfold okNames; decide))]
  have : aw1.key [107] = some ⟨[97], 0, 0, 2⟩ := by unfold aw1; rw [added_key, if_pos ⟨by decide, rfl⟩]; rfl
  rw [this]
  simp only []
  rw [if_neg (fun h => h rfl)]
  rfl
theorem aw_ver : tryA aw1 [98] 1 [] [opE] = (apV 0 0 0 false, 103) := by
  unfold tryA
  rw [if_neg (fun h => h (by unfold okNames; decide))]
  have : aw1.key [] = none := by unfold aw1; rw [added_key, if_neg (by decide)]; rfl
  have hv : aw1.ver [98] = 0 := by unfold aw1; rw [added_ver, if_neg (by decide)]; rfl
  rw [this, hv]
  simp only []
  rw [if_neg (fun h => h ⟨by decide, by decide, fun e he => by simp at he; rw [he]; exact opE_ok⟩), if_neg (by decide), if_pos (by decide)]
theorem aw_len : aw1.all.length = 2 := by unfold aw1; rw [added_len]; rfl

set_option maxRecDepth 20000 in
set_option maxHeartbeats 4000000 in
theorem awake_go (w : World) : Calls Try.prog 4 #[] w fun e w' => e = .returned (.bool true) ∧ Below w.heap.size w w' := by
  go_enter Try.func4, Try.ntmps4
  go_wp2_with fail
  refine (New_go w).mono ?_
  rintro e w1 ⟨x, rfl, hi1, b1⟩
  obtain ⟨F, hF⟩ : ∃ F : Nat → Prop, F = (fun k => w.heap.size ≤ k ∧ k < w1.heap.size) := ⟨_, rfl⟩
  rw [← hF] at hi1
  have hFl : ∀ q, F q → w.heap.size ≤ q ∧ q < w1.heap.size := fun q hq => by rw [hF] at hq; exact hq
  have HI1 := hide hi1
  have B1 := hide b1
  have HFL := hide hFl
  clear hi1 b1 hFl hF
  go_wp2_with fail
  refine (Opened_go w1).mono ?_
  rintro e w2 ⟨rfl, b2⟩
  have B2 := hide b2
  clear b2
  go_wp2_with fail
  refine (Opened_go w2).mono ?_
  rintro e w3 ⟨rfl, b3⟩
  have B3 := hide ((unhide B2).trans (b3.mono (unhide B2).size))
  clear b3 B2
  go_wp2_with fail
  obtain ⟨w4, hw4⟩ : ∃ w4, w4 = w3.alloc (.cells #[sv [111, 112, 101, 110, 101, 100], .int .i64 1, .slice none 0 0, sv [111, 112, 101, 110, 101, 100], .int .i64 1, .slice none 0 0] 49) := ⟨_, rfl⟩
  have b4 : Below w1.heap.size w1 w4 := by rw [hw4]; exact (unhide B3).alloc (unhide B3).size _
  have l4 : EvL w4 (.slice (some ⟨w3.heap.size, 0, none⟩) 2 2) [opE, opE] := evl_two (by rw [hw4]; exact heap_alloc_self _ _)
  have i4 : IxAt w4 F x 0 Ix.new := (unhide HI1).frame fun q _ hl => b4.block q hl
  rw [← hw4]
  clear hw4
  have HI4 := hide i4
  have B4 := hide b4
  have C4 := hide (Try_ok i4 [97] (by decide) (-1) [107] (by decide) _ 2 2 [opE, opE] l4 (fun e he => by simp at he; rw [he]; exact opE_fit) (fun e he => by simp at he; rw [he]; exact opE_16) aw_try)
  clear i4 b4 l4 B3 HI1
  refine (unhide C4).mono ?_
  clear C4
  rintro e w5 ⟨q, ys, rfl, b5, g5⟩
  rw [aw_ver0, show Ix.new.all.length = 0 from rfl]
  have B5 := hide b5
  have G5 := hide g5
  have HI5 := hide ((unhide HI4).frame (w' := w5) fun q _ hl => b5.block q hl)
  clear b5 g5 HI4
  simp only [List.length_cons, List.length_nil, Nat.zero_add, Nat.reduceAdd]
  go_wp2_with fail
  obtain ⟨w6, hw6⟩ : ∃ w6, w6 = (w5.alloc (.cells (apV 0 0 2 false) 44)).alloc (.cells (bt [97] [107] 0 (some ⟨q, 0, none⟩) 2 2) 33) := ⟨_, rfl⟩
  have b6 : Below w5.heap.size w5 w6 := by rw [hw6]; exact ((Below.refl _ _).alloc (Nat.le_refl _) _).alloc (by simp) _
  have z6 : w6.heap.size = w5.heap.size + 2 := by rw [hw6]; simp
  have a6 : ABox w6 w5.heap.size 0 0 2 false := by unfold ABox; rw [hw6, Below.heap_alloc _ _ _ (by simp)]; exact heap_alloc_self _ _
  have i6 : IxAt w6 F x 0 Ix.new := (unhide HI5).frame fun q _ hl => b6.block q hl
  have hF6 : ∀ q, F q → q < w4.heap.size := fun q hq => by have := (unhide HFL q hq).2; have := (unhide B4).size; omega
  have f6 := (unhide G5).far hF6 b6 (by decide)
  have hs5 := (unhide B5).size
  have C6 := hide (Add_ok i6 (fun q hq => by have := hF6 q hq; omega) (by decide) [97] (by decide) 0 (by decide) [107] (by decide) _ 2 2 [opE, opE] f6 (fun e he => by simp at he; rw [he]; exact opE_fit) (fun e he => by simp at he; rw [he]; exact opE_16) aw_chk (by decide) (by decide))
  have hst : w.heap.size ≤ w5.heap.size := by have := (unhide B1).size; have := (unhide B4).size; omega
  have HW : Hid (∀ w7, Kept F w6 w7 → ABox w7 w5.heap.size 0 0 2 false ∧ Below w.heap.size w w7) := hide (fun w7 k7 => by
    have k5 : w.heap.size ≤ w1.heap.size := (unhide B1).size
    have k4 := (unhide B4).size
    refine ⟨a6.same (k7.block _ (by omega) (fun hf => by have := hF6 _ hf; omega)), ?_⟩
    have t1 : Below w.heap.size w w4 := (unhide B1).trans ((unhide B4).mono k5)
    have t2 : Below w.heap.size w w5 := t1.trans ((unhide B5).mono (by omega))
    have t3 : Below w.heap.size w w6 := t2.trans (b6.mono (by omega))
    exact t3.trans (k7.below (by omega) (fun q hq => (unhide HFL q hq).1)))
  rw [← hw6]
  clear hw6 b6 a6 i6 hF6 f6 HI5 G5
  refine (unhide C6).mono ?_
  clear C6
  rintro e w7 ⟨rfl, k7, i7⟩
  have H7 := hide (unhide HW w7 k7)
  have i7' : IxAt w7 (fun q => (F q ∨ w6.heap.size ≤ q) ∧ q < w7.heap.size) x 3 aw1 := i7
  have HI7 := hide i7'
  clear k7 i7 i7' HW
  go_wp2_with fail
  refine (Try_bad (unhide HI7) [97] (by decide) 7 [107] (by decide) none 0 0 [] (EvL.nil _) (fun e he => by simp at he) 0 0 2 true 0 aw_again (.inr rfl)).mono ?_
  rintro e w8 ⟨rfl, b8⟩
  have B8 := hide b8
  have HI8 := hide ((unhide HI7).frame (w' := w8) fun q _ hl => b8.block q hl)
  have H8 := hide (And.intro ((unhide H7).1.same (b8.block _ (lt_of_block (unhide H7).1))) ((unhide H7).2.trans (b8.mono (unhide H7).2.size)))
  clear b8 H7 HI7 B8
  go_wp2_with fail
  obtain ⟨w9, hw9⟩ : ∃ w9, w9 = (w8.alloc (.cells (apV 0 0 2 true) 44)).alloc (.cells (bt [] [] 0 none 0 0) 33) := ⟨_, rfl⟩
  have b9 : Below w8.heap.size w8 w9 := by rw [hw9]; exact ((Below.refl _ _).alloc (Nat.le_refl _) _).alloc (by simp) _
  have a9 : ABox w9 w8.heap.size 0 0 2 true := by unfold ABox; rw [hw9, Below.heap_alloc _ _ _ (by simp)]; exact heap_alloc_self _ _
  have HI9 := hide ((unhide HI8).frame (w' := w9) fun q _ hl => b9.block q hl)
  have H9 := hide (And.intro ((unhide H8).1.same (b9.block _ (lt_of_block (unhide H8).1))) (And.intro a9 ((unhide H8).2.trans (b9.mono (unhide H8).2.size))))
  rw [← hw9]
  clear hw9 b9 a9 HI8 H8
  refine (Opened_go w9).mono ?_
  rintro e w10 ⟨rfl, b10⟩
  have H10 := hide (And.intro ((unhide H9).1.same (b10.block _ (lt_of_block (unhide H9).1))) (And.intro ((unhide H9).2.1.same (b10.block _ (lt_of_block (unhide H9).2.1))) ((unhide H9).2.2.trans (b10.mono (unhide H9).2.2.size))))
  have HI10 := hide ((unhide HI9).frame (w' := w10) fun q _ hl => b10.block q hl)
  clear b10 H9 HI9
  go_wp2_with fail
  obtain ⟨w11, hw11⟩ : ∃ w11, w11 = w10.alloc (.cells (ev [111, 112, 101, 110, 101, 100] 1 none 0 0) 49) := ⟨_, rfl⟩
  have b11 : Below w10.heap.size w10 w11 := by rw [hw11]; exact (Below.refl _ _).alloc (Nat.le_refl _) _
  have l11 : EvL w11 (.slice (some ⟨w10.heap.size, 0, none⟩) 1 1) [opE] := evl_one (by rw [hw11]; exact heap_alloc_self _ _)
  have H11 := hide (And.intro ((unhide H10).1.same (b11.block _ (lt_of_block (unhide H10).1))) (And.intro ((unhide H10).2.1.same (b11.block _ (lt_of_block (unhide H10).2.1))) ((unhide H10).2.2.trans (b11.mono (unhide H10).2.2.size))))
  have i11 := (unhide HI10).frame (w' := w11) fun q _ hl => b11.block q hl
  have HI11 := hide i11
  have C11 := hide (Try_bad i11 [98] (by decide) 1 [] (by decide) _ 1 1 [opE] l11 (fun e he => by simp at he; rw [he]; exact opE_fit) 0 0 0 false 103 aw_ver (.inl (by decide)))
  rw [← hw11]
  clear hw11 b11 l11 i11 HI10 H10
  refine (unhide C11).mono ?_
  clear C11
  rintro e w12 ⟨rfl, b12⟩
  have H12 := hide (And.intro ((unhide H11).1.same (b12.block _ (lt_of_block (unhide H11).1))) (And.intro ((unhide H11).2.1.same (b12.block _ (lt_of_block (unhide H11).2.1))) ((unhide H11).2.2.trans (b12.mono (unhide H11).2.2.size))))
  have HI12 := hide ((unhide HI11).frame (w' := w12) fun q _ hl => b12.block q hl)
  clear b12 H11 HI11
  obtain ⟨w13, hw13⟩ : ∃ w13, w13 = (w12.alloc (.cells (apV 0 0 0 false) 44)).alloc (.cells (bt [] [] 0 none 0 0) 33) := ⟨_, rfl⟩
  have b13 : Below w12.heap.size w12 w13 := by rw [hw13]; exact ((Below.refl _ _).alloc (Nat.le_refl _) _).alloc (by simp) _
  have H13 := And.intro ((unhide H12).1.same (b13.block _ (lt_of_block (unhide H12).1))) (And.intro ((unhide H12).2.1.same (b13.block _ (lt_of_block (unhide H12).2.1))) ((unhide H12).2.2.trans (b13.mono (unhide H12).2.2.size)))
  have HI13 := hide ((unhide HI12).frame (w' := w13) fun q _ hl => b13.block q hl)
  obtain ⟨c0, c1, c2, c3, c4⟩ := H13.1.cells
  obtain ⟨d0, d1, d2, d3, d4⟩ := H13.2.1.cells
  have BB := hide H13.2.2
  clear b13 H12 HI12 H13
  go_upto_region 8 with fail
  rw [← hw13]
  clear hw13
  go_wp2_with fail
  refine (Len_go (unhide HI13)).mono ?_
  rintro e w14 ⟨rfl, b14⟩
  rw [aw_len]
  have B14 := hide ((unhide BB).trans (b14.mono (unhide BB).size))
  clear b14 BB HI13 c0 c1 c2 c3 c4 d0 d1 d2 d3 d4
  go_wp2
  go_ret
  exact ⟨rfl, unhide B14⟩
end Go.Proofs.Ytabcmmhmghgliaa
