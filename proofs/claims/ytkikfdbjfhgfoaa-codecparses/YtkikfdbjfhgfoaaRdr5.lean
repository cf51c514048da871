/-
  DERIVED. codec.Batch: a batch that was laid is read; of other bytes none is.
-/
import Derived.Test.YtkikfdbjfhgfoaaRdr4
import Derived.Test.YtkikfdbjfhgfoaaBat2
namespace Go.Proofs.Ytkikfdbjfhgfoaa
open Go.RowKit
set_option linter.unusedVariables false

theorem list_beq (l m : List UInt8) : (l == m) = decide (l = m) := by
  by_cases h : l = m
  · subst h; simp
  · rw [decide_eq_false h]; exact beq_eq_false_iff_ne.2 h
set_option maxHeartbeats 1000000 in
theorem Equal_any (w : World) (v u : Value) (l m : List UInt8) (hv : Sl w v l) (hu : Sl w u m) :
    Calls Try.prog 29 #[v, u] w fun e w' => e = .returned (.bool (decide (l = m))) ∧ w' = w := by
  have s1 := hv.str
  have s2 := hu.str
  have hb := list_beq l m
  clear hv hu
  go_enter Try.func29, Try.ntmps29
  go_wp2
  go_ret
  rw [← hb]
  exact ⟨rfl, rfl⟩

theorem layBt_fit {x : Bat} (h : putE x = 0) (hf : ∀ e ∈ x.events, fitE e) : goodB x := by
  unfold putE at h
  by_cases hz : batE x = 0
  · obtain ⟨h1, h2⟩ := batE_zero hz
    exact ⟨h1, fun e he => ⟨h2 e he, fun f hf' => ((hf e he).2 f hf').2⟩⟩
  · rw [if_pos hz] at h; exact absurd h hz
/-- What a reading of a batch comes to, of all bytes. -/
def Reads (w : World) (l : List UInt8) (o : Ending) (w' : World) : Prop := ∃ (s k : List UInt8) (fi : Int) (a : Option Addr) (n c : Nat) (es : List Evn) (z : Int), o = .returned (.tuple #[.agg (bt s k fi a n c), .int .i64 z]) ∧ Below w.heap.size w w' ∧ EvL w' (.slice a n c) es ∧
  ((z = 0 ∧ goodB ⟨s, k, fi, es⟩ ∧ (layBt ⟨s, k, fi, es⟩).length ≤ 2000 ∧ layBt ⟨s, k, fi, es⟩ = l) ∨ (z = 11 ∧ s = [] ∧ k = [] ∧ fi = 0 ∧ es = [] ∧ ∀ y, goodB y → (layBt y).length ≤ 2000 → layBt y ≠ l))
theorem EvL_none (w : World) : EvL w (.slice none 0 0) [] := ⟨none, 0, rfl, Nat.le_refl _, by omega, fun h => absurd rfl h⟩
set_option maxHeartbeats 4000000 in
theorem Batch_any (a : Option Addr) (m c : Nat) (l : List UInt8) (w : World) (hv : Sl w (.slice a m c) l) (hl : l.length ≤ 140737488355328) :
    Calls Try.prog 10 #[.slice a m c] w (Reads w l) := by
  obtain ⟨w2, hw2⟩ : ∃ w2, w2 = (w.alloc (.cells (bt [] [] 0 none 0 0) 25)).alloc (.cells #[.slice a m c] 65) := ⟨_, rfl⟩
  have g2 : w.grownBy w2 none := by rw [hw2]; exact (World.grownBy_alloc _ _ _).trans (World.grownBy_alloc _ _ _)
  have HR : Hid (RrAt w w2 (w.heap.size + 1) l) := hide ⟨⟨_, by
    rw [hw2]
    have := heap_alloc_self (w.alloc (.cells (bt [] [] 0 none 0 0) 25)) (.cells #[.slice a m c] 65)
    simpa using this, hv⟩, Nat.le_succ _, g2⟩
  have HX : Hid (BBox w2 w.heap.size [] [] 0 (.slice none 0 0)) := hide (by
    unfold BBox; rw [hw2, Below.heap_alloc _ _ _ (by simp)]; exact heap_alloc_self _ _)
  have HW2 := hide hw2
  have HV := hide hv
  clear hw2 hv
  go_enter Try.func10, Try.ntmps10
  go_wp2_with fail
  rw [← unhide HW2]
  refine (batch_any w w2 (w.heap.size + 1) l (unhide HR)).mono ?_
  rintro e w3 ⟨s, k, fi, q, n, xs, rfl, g3, g23, ev3, hxn, hn16, hs3, hf3, hc3⟩
  obtain ⟨es, hes⟩ : ∃ es, es = xs.map (·.1) := ⟨_, rfl⟩
  rw [← hes] at hf3 hc3
  have X3 : BBox w3 w.heap.size [] [] 0 (.slice none 0 0) := (unhide HX).same (g23.block _ (lt_of_block (unhide HX)) (fun e => by have := Option.some.inj e; omega))
  have l3 := lt_of_block X3
  obtain ⟨w4, hw4⟩ : ∃ w4, w4 = w3.alloc (.cells (bt s k fi (some ⟨q, 0, none⟩) n n) 25) := ⟨_, rfl⟩
  have g34 : w3.grownBy w4 none := by rw [hw4]; exact World.grownBy_alloc _ _ _
  have K4 := hide (ev3.same (g34.block _ ev3.lt (by simp)) (fun x hx => g34.block _ (ev3.2 x hx).1.lt (by simp)))
  have E4 : Hid (EvL w4 (.slice (some ⟨q, 0, none⟩) n n) es) := hide (by rw [hes]; exact (unhide K4).evl hxn hn16)
  have B4 : Hid (BBox w4 w3.heap.size s k fi (.slice (some ⟨q, 0, none⟩) n n)) := hide (by unfold BBox; rw [hw4]; exact heap_alloc_self _ _)
  have X4 := hide (X3.same (g34.block _ l3 (by simp)))
  have G4 := hide (g3.trans g34)
  have HW4 := hide hw4
  have HC3 := hide hc3
  have HF3 := hide hf3
  clear hw4 g34 ev3 g3 g23 X3 hc3 hf3 HX HR HW2 g2
  go_wp2_with fail
  rw [← unhide HW4]
  have s4 := lt_of_block (unhide B4)
  obtain ⟨z, hz⟩ : ∃ z, putE ⟨s, k, fi, es⟩ = z := ⟨_, rfl⟩
  refine (PutBatch_any (.slice none 0 0) [] s k fi (some ⟨q, 0, none⟩) n n es w4 (nil_sl _) (by simp) (by omega) (unhide E4) (unhide HF3)).mono ?_
  rintro e w5 ⟨v5, rfl, b5, n5, o5⟩
  rw [hz] at n5 o5 ⊢
  have B5 : BBox w5 w3.heap.size s k fi (.slice (some ⟨q, 0, none⟩) n n) := (unhide B4).same (b5.block _ s4)
  have X5 : BBox w5 w.heap.size [] [] 0 (.slice none 0 0) := (unhide X4).same (b5.block _ (by omega))
  obtain ⟨y0, y1, y2, y3, y4⟩ := B5.cells
  obtain ⟨d0, d1, d2, d3, d4⟩ := X5.cells
  have G5 := hide ((unhide G4).trans (grown_of_below b5))
  have K5 := hide ((unhide K4).same (b5.block _ (unhide K4).lt) (fun x hx => b5.block _ ((unhide K4).2 x hx).1.lt))
  have V5 := hide ((unhide HV).kept (unhide G5))
  have HX5 := hide X5
  have hzl : z = 0 → goodB ⟨s, k, fi, es⟩ ∧ (layBt ⟨s, k, fi, es⟩).length ≤ 2000 := fun h => by
    subst h
    refine ⟨layBt_fit hz (unhide HF3), ?_⟩
    obtain ⟨h1, h2⟩ := layBt_fit hz (unhide HF3)
    unfold putE at hz
    by_cases hb : batE ⟨s, k, fi, es⟩ = 0
    · rw [hb, if_neg (by simp)] at hz
      by_cases h20 : 2000 < (layBt ⟨s, k, fi, es⟩).length
      · rw [if_pos h20] at hz; cases hz
      · omega
    · rw [if_pos hb] at hz; exact absurd hz hb
  have HNO : Hid ((z ≠ 0 ∨ layBt ⟨s, k, fi, es⟩ ≠ l) → ∀ y, goodB y → (layBt y).length ≤ 2000 → layBt y ≠ l) := hide (fun hno y hy hyl he => by
    have := unhide HC3 y he.symm hy
    rw [this] at hz hno
    rcases hno with hno | hno
    · apply hno
      rw [← hz]
      unfold putE
      rw [batE_ok hy.1 (fun e he => (hy.2 e he).1), if_neg (by simp), if_neg (by omega)]
    · exact hno he)
  have NOK : Hid ((z ≠ 0 ∨ layBt ⟨s, k, fi, es⟩ ≠ l) → Reads w l (.returned (.tuple #[.agg (bt [] [] 0 none 0 0), .int .i64 11])) ((((w5.setCell ⟨w.heap.size, 0, none⟩ (sv [])).setCell ⟨w.heap.size, 1, none⟩ (sv [])).setCell ⟨w.heap.size, 2, none⟩ (.int .i64 0)).setCell ⟨w.heap.size, 3, none⟩ (.slice none 0 0)) ∧ BBox ((((w5.setCell ⟨w.heap.size, 0, none⟩ (sv [])).setCell ⟨w.heap.size, 1, none⟩ (sv [])).setCell ⟨w.heap.size, 2, none⟩ (.int .i64 0)).setCell ⟨w.heap.size, 3, none⟩ (.slice none 0 0)) w.heap.size [] [] 0 (.slice none 0 0)) := hide (fun hno => by
    refine ⟨⟨[], [], 0, none, 0, 0, [], 11, rfl, ?_, EvL_none _, .inr ⟨rfl, rfl, rfl, rfl, rfl, unhide HNO hno⟩⟩, ((((unhide HX5).set0 _).set1 _).set2 _).set3 _⟩
    exact below_of_grown (own_step (own_step (own_step (own_step (unhide G5) (Nat.le_refl _) (setCell_grown _ _ _ _)) (Nat.le_refl _) (setCell_grown _ _ _ _)) (Nat.le_refl _) (setCell_grown _ _ _ _)) (Nat.le_refl _) (setCell_grown _ _ _ _)))
  have YES : Hid (z = 0 → layBt ⟨s, k, fi, es⟩ = l → Reads w l (.returned (.tuple #[.agg (bt s k fi (some ⟨q, 0, none⟩) n n), .int .i64 0])) ((((w5.setCell ⟨w.heap.size, 0, none⟩ (sv s)).setCell ⟨w.heap.size, 1, none⟩ (sv k)).setCell ⟨w.heap.size, 2, none⟩ (.int .i64 fi)).setCell ⟨w.heap.size, 3, none⟩ (.slice (some ⟨q, 0, none⟩) n n)) ∧ BBox ((((w5.setCell ⟨w.heap.size, 0, none⟩ (sv s)).setCell ⟨w.heap.size, 1, none⟩ (sv k)).setCell ⟨w.heap.size, 2, none⟩ (.int .i64 fi)).setCell ⟨w.heap.size, 3, none⟩ (.slice (some ⟨q, 0, none⟩) n n)) w.heap.size s k fi (.slice (some ⟨q, 0, none⟩) n n)) := hide (fun h0 he => by
    refine ⟨⟨s, k, fi, _, n, n, es, 0, rfl, ?_, ?_, .inl ⟨rfl, (hzl h0).1, (hzl h0).2, he⟩⟩, ((((unhide HX5).set0 _).set1 _).set2 _).set3 _⟩
    · exact below_of_grown (own_step (own_step (own_step (own_step (unhide G5) (Nat.le_refl _) (setCell_grown _ _ _ _)) (Nat.le_refl _) (setCell_grown _ _ _ _)) (Nat.le_refl _) (setCell_grown _ _ _ _)) (Nat.le_refl _) (setCell_grown _ _ _ _))
    · have hset : ∀ (X : World) (i : Nat) (v : Value), (∀ p, p ≠ w.heap.size → X.heap[p]? = w5.heap[p]?) → (∀ p, p ≠ w.heap.size → (X.setCell ⟨w.heap.size, i, none⟩ v).heap[p]? = w5.heap[p]?) := fun X i v x2 p hp => (heap_setCell_other _ _ _ _ (show p ≠ w.heap.size from hp)).trans (x2 p hp)
      have y2 := hset _ 3 (.slice (some ⟨q, 0, none⟩) n n) (hset _ 2 (.int .i64 fi) (hset _ 1 (sv k) (hset w5 0 (sv s) fun _ _ => rfl)))
      rw [hes]
      exact ((unhide K5).same (y2 q ((unhide K5).kind (unhide HX5) (by decide))) (fun x hx => y2 x.2 (((unhide K5).2 x hx).1.kind (unhide HX5) (by decide)))).evl hxn hn16)
  have HO5 := hide o5
  have HN5 := hide n5
  clear B5 X5 b5 n5 o5 hzl HNO HC3 HX5 B4 X4 E4 G4 hes hxn K4 K5
  by_cases h0 : z = 0
  · subst h0
    have O5 := unhide HO5 rfl
    rw [List.nil_append] at O5
    have EQ := hide (fun w' (h : w' = w5) => Equal_any w' v5 (.slice a m c) (layBt ⟨s, k, fi, es⟩) l (h ▸ O5.sl) (h ▸ unhide V5))
    clear O5 HO5 HN5
    by_cases he : layBt ⟨s, k, fi, es⟩ = l
    · have F := hide (unhide YES rfl he)
      have he' : decide (layBt ⟨s, k, fi, es⟩ = l) = true := decide_eq_true he
      have EQ2 : Hid (Calls Try.prog 29 #[v5, .slice a m c] w5 fun e w' => e = .returned (.bool true) ∧ w' = w5) := hide (by have := unhide EQ w5 rfl; rw [he'] at this; exact this)
      clear he he' EQ YES NOK hz
      go_wp2_with fail
      refine (unhide EQ2).mono ?_
      rintro e w6 ⟨rfl, rfl⟩
      go_wp2
      refine bodyPost_ret (v := .tuple #[.agg (bt s k fi (some ⟨q, 0, none⟩) n n), .int .i64 0]) ?_ rfl (unhide F).1
      obtain ⟨t0, t1, t2, t3, t4⟩ := (unhide F).2.cells
      simp [results, Try.results10, go_sem, t0, t1, t2, t3]
    · have F := hide (unhide NOK (.inr he))
      have he' : decide (layBt ⟨s, k, fi, es⟩ = l) = false := decide_eq_false he
      have EQ2 : Hid (Calls Try.prog 29 #[v5, .slice a m c] w5 fun e w' => e = .returned (.bool false) ∧ w' = w5) := hide (by have := unhide EQ w5 rfl; rw [he'] at this; exact this)
      clear he he' EQ YES NOK hz
      go_wp2_with fail
      refine (unhide EQ2).mono ?_
      rintro e w6 ⟨rfl, rfl⟩
      go_wp2
      refine bodyPost_ret (v := .tuple #[.agg (bt [] [] 0 none 0 0), .int .i64 11]) ?_ rfl (unhide F).1
      obtain ⟨t0, t1, t2, t3, t4⟩ := (unhide F).2.cells
      simp [results, Try.results10, go_sem, t0, t1, t2, t3]
  · have F := hide (unhide NOK (.inl h0))
    have hne : (z != 0) = true := by rw [bne_iff_ne]; exact h0
    have e5 := unhide HN5 h0
    subst e5
    clear HN5 HO5 YES NOK hz h0
    go_wp2
    refine bodyPost_ret (v := .tuple #[.agg (bt [] [] 0 none 0 0), .int .i64 11]) ?_ rfl (unhide F).1
    obtain ⟨t0, t1, t2, t3, t4⟩ := (unhide F).2.cells
    simp [results, Try.results10, go_sem, t0, t1, t2, t3]
end Go.Proofs.Ytkikfdbjfhgfoaa
