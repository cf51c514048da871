/-
  DERIVED. The walk of read: where both blocks are read.
-/
import Derived.Test.YtfnhhjpebilacaaGreatM3
import Derived.Test.YtfnhhjpebilacaaGreatM2
import Derived.Test.YtfnhhjpebilacaaGreatM1
import Derived.Deep.MidRow
import Derived.Deep.WholeRow
import Derived.Deep.RegionHeld3
namespace Go.Proofs.YtfnhhjpebilacaaGreat
open Go.RowKit
set_option linter.unusedVariables false

theorem Sl.ofRow {w : World} {q : Nat} {L : List UInt8} {t : TypeId} {fz : Nat × Nat} (hL : L.length = 512) (h : w.heap[q]? = some (.cells (L.map bv).toArray t fz)) : Sl w (.slice (some ⟨q, 0, none⟩) 512 512) L :=
  ⟨_, 512, by rw [hL], by omega, by simp [maxLen], fun _ => ⟨q, 0, rfl, lt_of_block h, fun i hi => by simp [World.cell?, h, hi]⟩⟩
theorem there_row {w : World} {g : Nat} {cs : Array Value} {t : TypeId} (h : w.heap[g]? = some (.cells cs t (0, 0))) (o n : Nat) (hn : o + n ≤ cs.size) : w.there g o n := fun j hj => by
  have : o + j < cs.size := by omega
  constructor
  · simp [World.cell?, h, this]
  · simp [World.frozen?, h]
theorem one_two (s t : Slot) (x y : Option Addr) (n c m d : Nat) : (twoC s t (.slice x n c) (.slice y m d)).all (·.oneCell') = true := by simp [twoC, Value.oneCell']
theorem one_slotL (s : Slot) (x : Option Addr) (n c : Nat) : (slotC s (.slice x n c)).all (·.oneCell') = true := one_slot _ _ _ _ _ _

theorem Sl.kept {F : Nat → Prop} {w w' : World} {a : Option Addr} {n c : Nat} {l : List UInt8} (h : Sl w (.slice a n c) l) (hk : Kept F w w') (hF : ∀ ad, a = some ad → ¬ F ad.block) : Sl w' (.slice a n c) l := by
  obtain ⟨ao, cap, e, h1, h2, h4⟩ := h
  refine ⟨ao, cap, e, h1, h2, fun hc => ?_⟩
  obtain ⟨b', off', e', h5, h6⟩ := h4 hc
  have ea : a = some ⟨b', off', none⟩ := by rw [← e']; injection e
  refine ⟨b', off', e', Nat.lt_of_lt_of_le h5 hk.size, fun i hi => ?_⟩
  exact (World.cell?_of_block (w := w) (hk.block b' h5 (hF _ ea))).trans (h6 i hi)
theorem kept_cells (w : World) (g o : Nat) (vs : List Value) : Kept (fun k => k = g) w (w.setCells g o vs) := Kept.of_grown (grown_setCells g vs o w) (fun k h => by injection h with h; exact h.symm)

set_option maxHeartbeats 4000000 in
theorem read_ok {w : World} {b : Nat} {F : Nat → Prop} {N : Nat} {S : St} (h : Dev w b F N S) (k : Nat) (hk : k + 1 < S.safe.length) (hs : S.safe.length ≤ 512) (hd : S.down = false) (hB : burnE S.fused S.fuse = 0) (hd2 : S.burn.down = false) (hB2 : burnE S.burn.fused S.burn.fuse = 0) (hN : N < 900000) (hF : ∀ k, F k → k < w.heap.size)
    (hL : (S.newest k).length = 512) (hL2 : (S.burn.newest (k + 1)).length = 512) (hsb : S.burn.safe = S.safe) :
    Calls Tryz.prog 62 #[.pointer (some ⟨b, 0, none⟩), .int .i64 k] w fun e w' => ∃ a1 n1 c1 a2 n2 c2, e = .returned (.tuple #[.agg (twoC (unl k (S.newest k)) (unl k (S.burn.newest (k + 1))) (.slice a1 n1 c1) (.slice a2 n2 c2)), .int .i64 0]) ∧
      (∀ ad, a1 = some ad → w.heap.size ≤ ad.block) ∧ (∀ ad, a2 = some ad → w.heap.size ≤ ad.block) ∧ Sl w' (.slice a1 n1 c1) (unl k (S.newest k)).data ∧ Sl w' (.slice a2 n2 c2) (unl k (S.burn.newest (k + 1))).data ∧ Dev w' b F (N + 1 + 1) S.burn.burn ∧ Kept F w w' := by
  have HD := hide h
  clear h
  obtain ⟨s1, hs1⟩ : ∃ s, unl k (S.newest k) = s := ⟨_, rfl⟩
  obtain ⟨s2, hs2⟩ : ∃ s, unl k (S.burn.newest (k + 1)) = s := ⟨_, rfl⟩
  obtain ⟨W, hW⟩ : ∃ W, W = (w.alloc (.cells two0 102)).alloc (.cells two0 102) := ⟨_, rfl⟩
  have HW : Hid (Below w.heap.size w W) := hide (by rw [hW]; exact ((Below.refl _ _).alloc (Nat.le_refl _) _).alloc (by simp) _)
  have HZ : Hid (W.heap[w.heap.size]? = some (.cells two0 102 (0, 0))) := hide (by rw [hW, Below.heap_alloc _ _ _ (by simp)]; exact heap_alloc_self _ _)
  have HY : Hid (W.heap[w.heap.size + 1]? = some (.cells two0 102 (0, 0))) := hide (by rw [hW]; have := heap_alloc_self (w.alloc (.cells two0 102)) (.cells two0 102); simpa using this)
  have sW : W.heap.size = w.heap.size + 2 := by rw [hW]; simp
  rw [hs1, hs2]
  go_enter Tryz.func62, Tryz.ntmps62
  go_wp2_with fail
  rw [← hW]
  clear hW
  refine wp_loop_rounds 3 ?_
  rw [rounds_succ]
  go_wp2_with fail
  refine (Read_dev ((unhide HD).grown (unhide HW)) k (by omega) hd hB (by omega)).mono ?_
  rintro e w1 ⟨q, rfl, hq, hq1, d1, k1⟩
  have z1 : w1.heap.size ≥ W.heap.size := k1.size
  have lq := lt_of_block hq1
  have HZ1 : Hid (w1.heap[w.heap.size]? = some (.cells two0 102 (0, 0))) := hide ((k1.block _ (by omega) (fun h => by have := hF _ h; omega)).trans (unhide HZ))
  have HY1 : Hid (w1.heap[w.heap.size + 1]? = some (.cells two0 102 (0, 0))) := hide ((k1.block _ (by omega) (fun h => by have := hF _ h; omega)).trans (unhide HY))
  have H1 := hide (And.intro d1 k1)
  have HS1 := hide (Sl.ofRow hL hq1)
  clear d1 k1 hq1 HZ HY
  go_wp2_with fail
  refine (unlay_any _ (S.newest k) k w1 (unhide HS1) (by omega) (by omega)).mono ?_
  rintro e w2 ⟨a1, n1, c1, rfl, fr1, sl1, b2⟩
  rw [hs1] at sl1 ⊢
  have z2 := b2.size
  have HZ2 : Hid (w2.heap[w.heap.size]? = some (.cells two0 102 (0, 0))) := hide ((b2.block _ (by omega)).trans (unhide HZ1))
  have HY2 : Hid (w2.heap[w.heap.size + 1]? = some (.cells two0 102 (0, 0))) := hide ((b2.block _ (by omega)).trans (unhide HY1))
  have H2 := hide (And.intro fr1 (And.intro sl1 b2))
  clear fr1 sl1 b2 HZ1 HY1 HS1
  have HT2 := hide (there_row (unhide HY2) 0 4 (by decide))
  go_wp2_with (first | (refine wpList_store_mid rfl 101 (.tmp 29) (.tmp 28) rfl (w.heap.size + 1) 0 (slotC s1 (.slice a1 n1 c1)) rfl rfl (unhide HT2) sizeSlot (one_slotL _ _ _ _) ?_) | fail)
  obtain ⟨w3, hw3⟩ : ∃ w3, w3 = w2.setCells (w.heap.size + 1) 0 (slotC s1 (.slice a1 n1 c1)).toList := ⟨_, rfl⟩
  rw [← hw3]
  have K3 : Kept (fun j => j = w.heap.size + 1) w2 w3 := by rw [hw3]; exact kept_cells _ _ _ _
  have HY3 : Hid (w3.heap[w.heap.size + 1]? = some (.cells (twoC s1 noSlot (.slice a1 n1 c1) (.slice none 0 0)) 102 (0, 0))) := hide (by rw [hw3]; exact heap_setCells_row _ _ _ 0 _ _ (unhide HY2) (by show 0 + 4 ≤ 8; omega))
  have HZ3 : Hid (w3.heap[w.heap.size]? = some (.cells two0 102 (0, 0))) := hide ((K3.block _ (by omega) (by omega)).trans (unhide HZ2))
  have HL3 : Hid (Sl w3 (.slice a1 n1 c1) s1.data) := hide ((unhide H2).2.1.kept K3 (fun ad h => by have := (unhide H2).1 ad h; omega))
  have HD3 : Hid (Dev w3 b F (N + 1) S.burn) := hide (((unhide H1).1.grown (unhide H2).2.2).frame fun j hj hl => K3.block j hl (by have := hF _ hj; omega))
  have HK3 : Hid (Kept F w w3) := hide (by
    refine ⟨K3.os.trans ((unhide H2).2.2.os.trans ((unhide H1).2.os.trans (unhide HW).os)), K3.tape.trans ((unhide H2).2.2.tape.trans ((unhide H1).2.tape.trans (unhide HW).tape)), K3.output.trans ((unhide H2).2.2.output.trans ((unhide H1).2.output.trans (unhide HW).output)), ?_, fun j hj hn => ?_⟩
    · have := K3.size; omega
    · rw [K3.block j (by omega) (by omega), (unhide H2).2.2.block j (by omega), (unhide H1).2.block j (by omega) hn, (unhide HW).block j hj])
  have z3 := K3.size
  have HR1 : Hid (∀ ad, a1 = some ad → w.heap.size + 2 ≤ ad.block) := hide (fun ad h => by have := (unhide H2).1 ad h; omega)
  clear hw3 K3 HY2 HZ2 H2 H1 HW HT2
  rw [rounds_succ]
  go_wp2_with fail
  have RD := Read_dev (unhide HD3) (k + 1) (by rw [hsb]; omega) hd2 hB2 (by omega)
  rw [show ((k + 1 : Nat) : Int) = (k : Int) + 1 by omega] at RD
  refine RD.mono ?_
  clear RD
  rintro e w4 ⟨q4, rfl, hq4, hq41, d4, k4⟩
  have z4 := k4.size
  have HZ4 : Hid (w4.heap[w.heap.size]? = some (.cells two0 102 (0, 0))) := hide ((k4.block _ (by omega) (fun h => by have := hF _ h; omega)).trans (unhide HZ3))
  have HY4 : Hid (w4.heap[w.heap.size + 1]? = some (.cells (twoC s1 noSlot (.slice a1 n1 c1) (.slice none 0 0)) 102 (0, 0))) := hide ((k4.block _ (by omega) (fun h => by have := hF _ h; omega)).trans (unhide HY3))
  have HL4 : Hid (Sl w4 (.slice a1 n1 c1) s1.data) := hide ((unhide HL3).kept k4 (fun ad h hf => by have := (unhide HR1) ad h; have := hF _ hf; omega))
  have HK4 := hide ((unhide HK3).trans k4)
  have HD4 := hide d4
  have HS4 := hide (Sl.ofRow hL2 hq41)
  clear d4 k4 hq41 HZ3 HY3 HL3 HK3 HD3
  go_wp2_with fail
  refine (unlay_any _ (S.burn.newest (k + 1)) k w4 (unhide HS4) (by omega) (by omega)).mono ?_
  rintro e w5 ⟨a2, n2, c2, rfl, fr2, sl2, b5⟩
  rw [hs2] at sl2 ⊢
  have z5 := b5.size
  have HZ5 : Hid (w5.heap[w.heap.size]? = some (.cells two0 102 (0, 0))) := hide ((b5.block _ (by omega)).trans (unhide HZ4))
  have HY5 : Hid (w5.heap[w.heap.size + 1]? = some (.cells (twoC s1 noSlot (.slice a1 n1 c1) (.slice none 0 0)) 102 (0, 0))) := hide ((b5.block _ (by omega)).trans (unhide HY4))
  have H5 := hide (And.intro fr2 (And.intro sl2 b5))
  clear fr2 sl2 b5 HZ4 HY4 HS4
  have HT5 := hide (there_row (unhide HY5) 4 4 (by show 4 + 4 ≤ 8; omega))
  go_wp2_with (first | (refine wpList_store_mid rfl 101 (.tmp 29) (.tmp 28) rfl (w.heap.size + 1) 4 (slotC s2 (.slice a2 n2 c2)) rfl rfl (unhide HT5) sizeSlot (one_slotL _ _ _ _) ?_) | fail)
  obtain ⟨w6, hw6⟩ : ∃ w6, w6 = w5.setCells (w.heap.size + 1) 4 (slotC s2 (.slice a2 n2 c2)).toList := ⟨_, rfl⟩
  rw [← hw6]
  have K6 : Kept (fun j => j = w.heap.size + 1) w5 w6 := by rw [hw6]; exact kept_cells _ _ _ _
  have HY6 : Hid (w6.heap[w.heap.size + 1]? = some (.cells (twoC s1 s2 (.slice a1 n1 c1) (.slice a2 n2 c2)) 102 (0, 0))) := hide (by rw [hw6]; exact heap_setCells_row _ _ _ 4 _ _ (unhide HY5) (by show 4 + 4 ≤ 8; omega))
  have HZ6 : Hid (w6.heap[w.heap.size]? = some (.cells two0 102 (0, 0))) := hide ((K6.block _ (by omega) (by omega)).trans (unhide HZ5))
  have z6 := K6.size
  have H6 := hide K6
  clear hw6 K6 HY5 HZ5 HT5
  rw [rounds_succ]
  go_wp2_with (first | (refine wpList_load_row rfl 102 (.tmp 6) rfl (w.heap.size + 1) rfl 102 (twoC s1 s2 (.slice a1 n1 c1) (.slice a2 n2 c2)) (0, 0) _ (unhide HY6) Tryz.underlying102 rfl sizeTwo ?_) | (refine wpList_store_row rfl 102 (.tmp 4) (.tmp 31) rfl w.heap.size (twoC s1 s2 (.slice a1 n1 c1) (.slice a2 n2 c2)) rfl rfl 102 two0 (unhide HZ6) sizeTwo rfl (one_two _ _ _ _ _ _ _ _) ?_))
  (try simp only [Exit.inBlock, Exit.then])
  have KR : Kept (fun j => j = w.heap.size) w6 (w6.setRow w.heap.size (twoC s1 s2 (.slice a1 n1 c1) (.slice a2 n2 c2))) := ⟨rfl, rfl, rfl, by simp [World.setRow], fun j _ hn => setRow_other _ _ _ _ hn⟩
  have H5' := unhide H5
  have H6' := unhide H6
  have HD5 := ((unhide HD4).grown H5'.2.2).frame (fun j hj hl => H6'.block j hl (by have := hF _ hj; omega))
  refine bodyPost_ret (v := .tuple #[.agg (twoC s1 s2 (.slice a1 n1 c1) (.slice a2 n2 c2)), .int .i64 0]) (results_row_tmp rfl _ _ w.heap.size _ _ rfl rfl (run_loadVar_row _ w.heap.size 102 102 (twoC s1 s2 (.slice a1 n1 c1) (.slice a2 n2 c2)) (0, 0) _ (setRow_heap _ _ _ _ _ _ (unhide HZ6)) Tryz.underlying102 rfl sizeTwo)) rfl ⟨a1, n1, c1, a2, n2, c2, rfl, ?_, ?_, ?_, ?_, ?_, ?_⟩
  · exact fun ad h => by have := unhide HR1 ad h; omega
  · exact fun ad h => by have := H5'.1 ad h; omega
  · exact (((unhide HL4).below H5'.2.2 (Nat.le_refl _)).kept H6' (fun ad h => by have := unhide HR1 ad h; omega)).kept KR (fun ad h => by have := unhide HR1 ad h; omega)
  · exact (H5'.2.1.kept H6' (fun ad h => by have := H5'.1 ad h; omega)).kept KR (fun ad h => by have := H5'.1 ad h; omega)
  · exact HD5.frame fun j hj hl => KR.block j hl (by have := hF _ hj; omega)
  · have K4 := unhide HK4
    refine ⟨KR.os.trans (H6'.os.trans (H5'.2.2.os.trans K4.os)), KR.tape.trans (H6'.tape.trans (H5'.2.2.tape.trans K4.tape)), KR.output.trans (H6'.output.trans (H5'.2.2.output.trans K4.output)), ?_, fun j hj hn => ?_⟩
    · have := KR.size; omega
    · rw [KR.block j (by omega) (by omega), H6'.block j (by omega) (by omega), H5'.2.2.block j (by omega), K4.block j hj hn]
end Go.Proofs.YtfnhhjpebilacaaGreat

/-
  DERIVED. The walk of read: where the device stops at the second block.
-/
namespace Go.Proofs.YtfnhhjpebilacaaGreat
open Go.RowKit
set_option linter.unusedVariables false

set_option maxHeartbeats 4000000 in
theorem read_half {w : World} {b : Nat} {F : Nat → Prop} {N : Nat} {S : St} (h : Dev w b F N S) (k : Nat) (hk : k + 1 < S.safe.length) (hs : S.safe.length ≤ 512) (hd : S.down = false) (hB : burnE S.fused S.fuse = 0) (hd2 : S.burn.down = false) (hB2 : burnE S.burn.fused S.burn.fuse ≠ 0) (hN : N < 900000) (hF : ∀ k, F k → k < w.heap.size)
    (hL : (S.newest k).length = 512) (hsb : S.burn.safe = S.safe) :
    Calls Tryz.prog 62 #[.pointer (some ⟨b, 0, none⟩), .int .i64 k] w fun e w' => e = .returned (.tuple #[.agg two0, .int .i64 2]) ∧ Dev w' b F (N + 1 + 1) S.burn.burn ∧ Kept F w w' := by
  have HD := hide h
  clear h
  obtain ⟨s1, hs1⟩ : ∃ s, unl k (S.newest k) = s := ⟨_, rfl⟩
  obtain ⟨W, hW⟩ : ∃ W, W = (w.alloc (.cells two0 102)).alloc (.cells two0 102) := ⟨_, rfl⟩
  have HW : Hid (Below w.heap.size w W) := hide (by rw [hW]; exact ((Below.refl _ _).alloc (Nat.le_refl _) _).alloc (by simp) _)
  have HZ : Hid (W.heap[w.heap.size]? = some (.cells two0 102 (0, 0))) := hide (by rw [hW, Below.heap_alloc _ _ _ (by simp)]; exact heap_alloc_self _ _)
  have HY : Hid (W.heap[w.heap.size + 1]? = some (.cells two0 102 (0, 0))) := hide (by rw [hW]; have := heap_alloc_self (w.alloc (.cells two0 102)) (.cells two0 102); simpa using this)
  have sW : W.heap.size = w.heap.size + 2 := by rw [hW]; simp
  go_enter Tryz.func62, Tryz.ntmps62
  go_wp2_with fail
  rw [← hW]
  clear hW
  refine wp_loop_rounds 2 ?_
  rw [rounds_succ]
  go_wp2_with fail
  refine (Read_dev ((unhide HD).grown (unhide HW)) k (by omega) hd hB (by omega)).mono ?_
  rintro e w1 ⟨q, rfl, hq, hq1, d1, k1⟩
  have z1 : w1.heap.size ≥ W.heap.size := k1.size
  have lq := lt_of_block hq1
  have HZ1 : Hid (w1.heap[w.heap.size]? = some (.cells two0 102 (0, 0))) := hide ((k1.block _ (by omega) (fun h => by have := hF _ h; omega)).trans (unhide HZ))
  have HY1 : Hid (w1.heap[w.heap.size + 1]? = some (.cells two0 102 (0, 0))) := hide ((k1.block _ (by omega) (fun h => by have := hF _ h; omega)).trans (unhide HY))
  have H1 := hide (And.intro d1 k1)
  have HS1 := hide (Sl.ofRow hL hq1)
  clear d1 k1 hq1 HZ HY
  go_wp2_with fail
  refine (unlay_any _ (S.newest k) k w1 (unhide HS1) (by omega) (by omega)).mono ?_
  rintro e w2 ⟨a1, n1, c1, rfl, fr1, sl1, b2⟩
  rw [hs1] at sl1 ⊢
  have z2 := b2.size
  have HZ2 : Hid (w2.heap[w.heap.size]? = some (.cells two0 102 (0, 0))) := hide ((b2.block _ (by omega)).trans (unhide HZ1))
  have HY2 : Hid (w2.heap[w.heap.size + 1]? = some (.cells two0 102 (0, 0))) := hide ((b2.block _ (by omega)).trans (unhide HY1))
  have H2 := hide (And.intro fr1 (And.intro sl1 b2))
  clear fr1 sl1 b2 HZ1 HY1 HS1
  have HT2 := hide (there_row (unhide HY2) 0 4 (by decide))
  go_wp2_with (first | (refine wpList_store_mid rfl 101 (.tmp 29) (.tmp 28) rfl (w.heap.size + 1) 0 (slotC s1 (.slice a1 n1 c1)) rfl rfl (unhide HT2) sizeSlot (one_slotL _ _ _ _) ?_) | fail)
  obtain ⟨w3, hw3⟩ : ∃ w3, w3 = w2.setCells (w.heap.size + 1) 0 (slotC s1 (.slice a1 n1 c1)).toList := ⟨_, rfl⟩
  rw [← hw3]
  have K3 : Kept (fun j => j = w.heap.size + 1) w2 w3 := by rw [hw3]; exact kept_cells _ _ _ _
  have HY3 : Hid (w3.heap[w.heap.size + 1]? = some (.cells (twoC s1 noSlot (.slice a1 n1 c1) (.slice none 0 0)) 102 (0, 0))) := hide (by rw [hw3]; exact heap_setCells_row _ _ _ 0 _ _ (unhide HY2) (by show 0 + 4 ≤ 8; omega))
  have HZ3 : Hid (w3.heap[w.heap.size]? = some (.cells two0 102 (0, 0))) := hide ((K3.block _ (by omega) (by omega)).trans (unhide HZ2))
  have HL3 : Hid (Sl w3 (.slice a1 n1 c1) s1.data) := hide ((unhide H2).2.1.kept K3 (fun ad h => by have := (unhide H2).1 ad h; omega))
  have HD3 : Hid (Dev w3 b F (N + 1) S.burn) := hide (((unhide H1).1.grown (unhide H2).2.2).frame fun j hj hl => K3.block j hl (by have := hF _ hj; omega))
  have HK3 : Hid (Kept F w w3) := hide (by
    refine ⟨K3.os.trans ((unhide H2).2.2.os.trans ((unhide H1).2.os.trans (unhide HW).os)), K3.tape.trans ((unhide H2).2.2.tape.trans ((unhide H1).2.tape.trans (unhide HW).tape)), K3.output.trans ((unhide H2).2.2.output.trans ((unhide H1).2.output.trans (unhide HW).output)), ?_, fun j hj hn => ?_⟩
    · have := K3.size; omega
    · rw [K3.block j (by omega) (by omega), (unhide H2).2.2.block j (by omega), (unhide H1).2.block j (by omega) hn, (unhide HW).block j hj])
  have z3 := K3.size
  have HR1 : Hid (∀ ad, a1 = some ad → w.heap.size + 2 ≤ ad.block) := hide (fun ad h => by have := (unhide H2).1 ad h; omega)
  clear hw3 K3 HY2 HZ2 H2 H1 HW HT2
  rw [rounds_succ]
  go_wp2_with fail
  have RD := Read_dev_burnt (unhide HD3) (k + 1) (by rw [hsb]; omega) hd2 hB2 (by omega)
  rw [show ((k + 1 : Nat) : Int) = (k : Int) + 1 by omega] at RD
  refine RD.mono ?_
  clear RD
  rintro e w4 ⟨rfl, d4, k4⟩
  have z4 := k4.size
  have HZ4 : Hid (w4.heap[w.heap.size]? = some (.cells two0 102 (0, 0))) := hide ((k4.block _ (by omega) (fun h => by have := hF _ h; omega)).trans (unhide HZ3))
  have HK4 := hide ((unhide HK3).trans k4)
  have HD4 := hide d4
  clear d4 k4 HZ3 HY3 HL3 HK3 HD3
  go_wp2_with (refine wpList_store_row rfl 102 (.tmp 4) (.tmp 23) rfl w.heap.size two0 rfl rfl 102 two0 (unhide HZ4) sizeTwo rfl one_two0 ?_)
  (try simp only [Exit.inBlock, Exit.then])
  have KR : Kept (fun j => j = w.heap.size) w4 (w4.setRow w.heap.size two0) := ⟨rfl, rfl, rfl, by simp [World.setRow], fun j _ hn => setRow_other _ _ _ _ hn⟩
  refine bodyPost_ret (v := .tuple #[.agg two0, .int .i64 2]) (results_row_tmp rfl _ _ w.heap.size two0 _ rfl rfl (run_loadVar_row _ w.heap.size 102 102 two0 (0, 0) _ (setRow_heap _ _ _ _ _ _ (unhide HZ4)) Tryz.underlying102 rfl sizeTwo)) rfl ⟨rfl, ?_, ?_⟩
  · exact (unhide HD4).frame fun j hj hl => KR.block j hl (by have := hF _ hj; omega)
  · have K4 := unhide HK4
    refine ⟨KR.os.trans K4.os, KR.tape.trans K4.tape, KR.output.trans K4.output, ?_, fun j hj hn => ?_⟩
    · have := KR.size; omega
    · rw [KR.block j (by omega) (by omega), K4.block j hj hn]
end Go.Proofs.YtfnhhjpebilacaaGreat

/-
  DERIVED. The walk of read on a device that is down; and read whole, in two parts: it goes well, or the device is down behind it.
-/
namespace Go.Proofs.YtfnhhjpebilacaaGreat
open Go.RowKit
set_option linter.unusedVariables false

set_option maxHeartbeats 2000000 in
theorem read_down {w : World} {b : Nat} {F : Nat → Prop} {N : Nat} {S : St} (h : Dev w b F N S) (k : Nat) (hk : k + 1 < S.safe.length) (hs : S.safe.length ≤ 512) (hd : S.down = true) (hF : ∀ k, F k → k < w.heap.size) :
    Calls Tryz.prog 62 #[.pointer (some ⟨b, 0, none⟩), .int .i64 k] w fun e w' => e = .returned (.tuple #[.agg two0, .int .i64 2]) ∧ Dev w' b F N S ∧ Kept F w w' := by
  have HD := hide h
  clear h
  have hE : openE S.safe.length S.down k = 2 := by unfold openE; rw [hd]; rfl
  obtain ⟨W, hW⟩ : ∃ W, W = (w.alloc (.cells two0 102)).alloc (.cells two0 102) := ⟨_, rfl⟩
  have HW : Hid (Below w.heap.size w W) := hide (by rw [hW]; exact ((Below.refl _ _).alloc (Nat.le_refl _) _).alloc (by simp) _)
  have HZ : Hid (W.heap[w.heap.size]? = some (.cells two0 102 (0, 0))) := hide (by rw [hW, Below.heap_alloc _ _ _ (by simp)]; exact heap_alloc_self _ _)
  have sW : W.heap.size = w.heap.size + 2 := by rw [hW]; simp
  go_enter Tryz.func62, Tryz.ntmps62
  go_wp2_with fail
  rw [← hW]
  clear hW
  refine wp_loop_rounds 1 ?_
  rw [rounds_succ]
  go_wp2_with fail
  refine (Read_dev_shut ((unhide HD).grown (unhide HW)) k (by rw [hE]; decide)).mono ?_
  rintro e w1 ⟨rfl, rfl⟩
  rw [hE]
  go_wp2_with (refine wpList_store_row rfl 102 (.tmp 4) (.tmp 23) rfl w.heap.size two0 rfl rfl 102 two0 (unhide HZ) sizeTwo rfl one_two0 ?_)
  (try simp only [Exit.inBlock, Exit.then])
  refine bodyPost_ret (v := .tuple #[.agg two0, .int .i64 2]) (results_row_tmp rfl _ _ w.heap.size two0 _ rfl rfl (run_loadVar_row _ w.heap.size 102 102 two0 (0, 0) _ (setRow_heap _ _ _ _ _ _ (unhide HZ)) Tryz.underlying102 rfl sizeTwo)) rfl ⟨rfl, ?_, ?_⟩
  · exact ((unhide HD).grown (unhide HW)).frame fun j hj _ => setRow_other _ _ _ _ (by have := hF _ hj; omega)
  · have hB1 := unhide HW
    refine ⟨hB1.os, hB1.tape, hB1.output, ?_, fun j hj hn => ?_⟩
    · simp [World.setRow]
      omega
    · rw [setRow_other _ _ _ _ (by omega), hB1.block j hj]

theorem read_stops {w : World} {b : Nat} {F : Nat → Prop} {N : Nat} {S : St} (h : Dev w b F N S) (k : Nat) (hk : k + 1 < S.safe.length) (hr : ¬ S.reads) (hN : N < 900000) (hF : ∀ k, F k → k < w.heap.size) :
    Calls Tryz.prog 62 #[.pointer (some ⟨b, 0, none⟩), .int .i64 k] w fun e w' => e = .returned (.tuple #[.agg two0, .int .i64 2]) ∧ Dev w' b F (N + 2) S.halted ∧ Kept F w w' := by
  obtain ⟨g, c, m, vf, D, h0⟩ := h
  have h : Dev w b F N S := ⟨g, c, m, vf, D, h0⟩
  have hL := St.newest_len h0 k (by omega)
  have hs := h0.n2
  clear h0
  unfold St.halted
  by_cases h1 : S.down = true
  · rw [if_pos h1]
    exact (read_down h k hk hs h1 hF).mono fun e w' ⟨q1, q2, q3⟩ => ⟨q1, q2.mono (fun _ h => h) (by omega), q3⟩
  rw [if_neg h1]
  have h1' : S.down = false := by simpa using h1
  by_cases h2 : S.well
  · rw [if_pos h2]
    have h3 : ¬ S.burn.well := fun h3 => hr ⟨h1', h2, h3⟩
    exact (read_half h k hk hs h1' h2 (by rw [St.well_up h2, h1']) h3 hN hF hL rfl).mono fun e w' ⟨q1, q2, q3⟩ => ⟨q1, q2, q3⟩
  · rw [if_neg h2]
    exact (read_shut h k hk hs h1' h2 (by omega) hF).mono fun e w' ⟨q1, q2, q3⟩ => ⟨q1, q2.mono (fun _ h => h) (by omega), q3⟩

theorem read_well {w : World} {b : Nat} {F : Nat → Prop} {N : Nat} {S : St} (h : Dev w b F N S) (k : Nat) (hk : k + 1 < S.safe.length) (hr : S.reads) (hN : N < 900000) (hF : ∀ k, F k → k < w.heap.size) :
    Calls Tryz.prog 62 #[.pointer (some ⟨b, 0, none⟩), .int .i64 k] w fun e w' => ∃ a1 n1 c1 a2 n2 c2, e = .returned (.tuple #[.agg (twoC (unl k (S.newest k)) (unl k (S.newest (k + 1))) (.slice a1 n1 c1) (.slice a2 n2 c2)), .int .i64 0]) ∧
      (∀ ad, a1 = some ad → w.heap.size ≤ ad.block) ∧ (∀ ad, a2 = some ad → w.heap.size ≤ ad.block) ∧ Sl w' (.slice a1 n1 c1) (unl k (S.newest k)).data ∧ Sl w' (.slice a2 n2 c2) (unl k (S.newest (k + 1))).data ∧ Dev w' b F (N + 2) S.burn.burn ∧ Kept F w w' := by
  obtain ⟨g, c, m, vf, D, h0⟩ := h
  exact read_ok ⟨g, c, m, vf, D, h0⟩ k hk h0.n2 hr.1 hr.2.1 (by rw [St.well_up hr.2.1]; exact hr.1) hr.2.2 hN hF (St.newest_len h0 k (by omega)) (St.newest_len h0 (k + 1) hk) rfl
end Go.Proofs.YtfnhhjpebilacaaGreat

/-
  DERIVED. The walk of write.
-/
namespace Go.Proofs.YtfnhhjpebilacaaGreat
open Go.RowKit
set_option linter.unusedVariables false

/-- Kept, one behind the other, where the later one has turned more of what is new. -/
theorem Kept.trans' {F G : Nat → Prop} {a b c : World} (h : Kept F a b) (k : Kept G b c) (hG : ∀ j, j < a.heap.size → G j → F j) : Kept F a c :=
  ⟨k.os.trans h.os, k.tape.trans h.tape, k.output.trans h.output, Nat.le_trans h.size k.size, fun i hi hn => (k.block i (Nat.lt_of_lt_of_le hi h.size) fun hg => hn (hG i hi hg)).trans (h.block i hi hn)⟩

set_option maxRecDepth 20000 in
set_option maxHeartbeats 2000000 in
theorem write_any {w : World} {b base : Nat} {F : Nat → Prop} {N : Nat} {S : St} (h : Dev w b F N S) (hF : ∀ k, F k → base ≤ k ∧ k < w.heap.size) (hbs : base ≤ w.heap.size) (k : Nat) (hk : k + 1 < S.safe.length) (hd : S.down = false) (hN : N < 900000)
    (s t : Slot) (x y : Option Addr) (nx cx ny cy : Nat) (hst : s.turn < 4294967296) (htt : t.turn < 4294967296) (cnt : Int) (hc0 : 0 ≤ cnt) (hc1 : cnt ≤ 9223372036854775807) (a : Option Addr) (n c : Nat) (d : List UInt8) (hv : Sl w (.slice a n c) d) (hl : d.length ≤ 400) :
    Calls Tryz.prog 63 #[.pointer (some ⟨b, 0, none⟩), .int .i64 k, .agg (twoC s t (.slice x nx cx) (.slice y ny cy)), .agg (slotC ⟨false, 0, cnt, d⟩ (.slice a n c))] w fun e w' => e = .returned (.int .i64 (S.putF (k + 1 - newR s t) (slotL ⟨false, ((curS s t).turn + 1) % 4294967296, cnt, d⟩ k)).1) ∧
      (∃ F', (∀ j, F' j → base ≤ j ∧ j < w'.heap.size) ∧ (∀ j, F' j → F j ∨ w.heap.size ≤ j) ∧ Dev w' b F' (N + 4) (S.putF (k + 1 - newR s t) (slotL ⟨false, ((curS s t).turn + 1) % 4294967296, cnt, d⟩ k)).2) ∧ Kept F w w' := by
  have hs : S.safe.length ≤ 512 := by obtain ⟨g, c, m, vf, D, h0⟩ := h; exact h0.n2
  have HD := hide h
  have HV := hide hv
  clear h hv
  obtain ⟨u, hu⟩ : ∃ u, u = ((curS s t).turn + 1) % 4294967296 := ⟨_, rfl⟩
  obtain ⟨L, hL⟩ : ∃ L, L = slotL ⟨false, u, cnt, d⟩ k := ⟨_, rfl⟩
  have hL5 : L.length = 512 := by rw [hL]; exact slotL_len _ _ hl
  rw [← hu, ← hL]
  obtain ⟨W, hW⟩ : ∃ W, W = (w.alloc (.cells (twoC s t (.slice x nx cx) (.slice y ny cy)) 102)).alloc (.cells (slotC ⟨false, 0, cnt, d⟩ (.slice a n c)) 101) := ⟨_, rfl⟩
  have HW : Hid (Below w.heap.size w W) := hide (by rw [hW]; exact ((Below.refl _ _).alloc (Nat.le_refl _) _).alloc (by simp) _)
  have HB0 : Hid (W.heap[w.heap.size]? = some (.cells (twoC s t (.slice x nx cx) (.slice y ny cy)) 102 (0, 0))) := hide (by rw [hW, Below.heap_alloc _ _ _ (by simp)]; exact heap_alloc_self _ _)
  have HS0 : Hid (W.heap[w.heap.size + 1]? = some (.cells (slotC ⟨false, 0, cnt, d⟩ (.slice a n c)) 101 (0, 0))) := hide (by rw [hW]; have := heap_alloc_self (w.alloc (.cells (twoC s t (.slice x nx cx) (.slice y ny cy)) 102)) (.cells (slotC ⟨false, 0, cnt, d⟩ (.slice a n c)) 101); simpa using this)
  have sW : W.heap.size = w.heap.size + 2 := by rw [hW]; simp
  rcases newR_or s t with h0 | h0
  · have hcu : (((s.turn : Nat) : Int) + 1) % 4294967296 = (u : Nat) := by rw [hu]; unfold curS; rw [if_neg (by omega)]; omega
    rw [h0]
    have hu2 : u < 4294967296 := by rw [hu]; omega
    clear hu
    obtain ⟨r, hr⟩ : ∃ r, r = k + 1 - 0 := ⟨_, rfl⟩
    have hrk : r < S.safe.length := by omega
    rw [← hr]
    go_enter Tryz.func63, Tryz.ntmps63
    go_wp2_with (first | (refine wpList_load_row rfl 102 (.tmp 6) rfl w.heap.size rfl 102 (twoC s t (.slice x nx cx) (.slice y ny cy)) (0, 0) _ (by rw [← hW]; exact unhide HB0) Tryz.underlying102 rfl sizeTwo ?_) | fail)
    rw [← hW]
    clear hW
    refine (newer_any s t _ _ _).mono ?_
    rintro e w1 ⟨rfl, b1⟩
    rw [h0]
    have c1 : w1.cell? ⟨w.heap.size, 1, none⟩ = some (.int .u32 (s.turn : Nat)) := (b1.cell (p := ⟨w.heap.size, 1, none⟩) (by show w.heap.size < _; omega)).trans (by simp [World.cell?, unhide HB0])
    have HS1 : Hid (w1.heap[w.heap.size + 1]? = some (.cells (slotC ⟨false, 0, cnt, d⟩ (.slice a n c)) 101 (0, 0))) := hide ((b1.block _ (by omega)).trans (unhide HS0))
    have e1 : w1.cell? ⟨w.heap.size + 1, 1, none⟩ = some (.int .u32 0) := by simp [World.cell?, unhide HS1]
    have f1 : w1.frozen? ⟨w.heap.size + 1, 1, none⟩ = false := by simp [World.frozen?, unhide HS1]
    have z1 := b1.size
    have HS2 : Hid ((w1.setCell ⟨w.heap.size + 1, 1, none⟩ (.int .u32 (u : Nat))).heap[w.heap.size + 1]? = some (.cells (slotC ⟨false, u, cnt, d⟩ (.slice a n c)) 101 (0, 0))) := hide (heap_setCell_same w1 (w.heap.size + 1) 1 _ 101 (.int .u32 (u : Nat)) (unhide HS1))
    have HB2 : Hid (Below w.heap.size w (w1.setCell ⟨w.heap.size + 1, 1, none⟩ (.int .u32 (u : Nat)))) := hide (((unhide HW).trans (b1.mono (by omega))).setCell (by show w.heap.size ≤ w.heap.size + 1; omega) _)
    have z2 : (w1.setCell ⟨w.heap.size + 1, 1, none⟩ (.int .u32 (u : Nat))).heap.size = w1.heap.size := by simp [World.setCell]
    clear b1
    go_wp2_with (first | (refine wpList_load_row rfl 101 (.tmp 7) rfl (w.heap.size + 1) rfl 101 (slotC ⟨false, u, cnt, d⟩ (.slice a n c)) (0, 0) _ (by first | exact unhide HS2 | (rw [hcu]; exact unhide HS2)) Tryz.underlying101 rfl sizeSlot ?_) | fail)
    (try rw [hcu])
    obtain ⟨w2, hw2⟩ : ∃ w2, w2 = w1.setCell ⟨w.heap.size + 1, 1, none⟩ (.int .u32 (u : Nat)) := ⟨_, rfl⟩
    rw [← hw2] at HB2 HS2 z2 ⊢
    clear hw2 c1 e1 f1 HS1
    refine (lay_any ⟨false, u, cnt, d⟩ a n c k w2 ((unhide HV).below (unhide HB2) (Nat.le_refl _)) (by omega) (by omega) hu2 hc0 hc1 hl).mono ?_
    rintro e w3 ⟨g, rfl, hg, hg3, b3⟩
    rw [← hL] at hg3
    have HG := hide (Sl.ofRow hL5 hg3)
    have HB3 := hide ((unhide HB2).trans (b3.mono (by omega)))
    have z3 := b3.size
    clear b3 hg3 HS2 HB2
    have hFd : ∀ j, F j → base ≤ j ∧ j < w3.heap.size := fun j hj => by have := hF j hj; omega
    have HD3 := hide ((unhide HD).grown (unhide HB3))
    clear HD
    by_cases hw : S.well
    · by_cases hf : (S.burn.wrote r L).well
      · have HP : Hid (S.putF r L = (0, (S.burn.wrote r L).burn.flushed)) := hide (by unfold St.putF; rw [if_pos hw, if_pos hf])
        go_wp2_with fail
        have WD := Write_own (unhide HD3) hFd (by omega) r L _ hrk hd hw (unhide HG) hL5 (by omega)
        rw [show ((r : Nat) : Int) = (k : Int) + 1 by omega] at WD
        refine WD.mono ?_
        clear WD
        rintro e w4 ⟨rfl, ⟨F', hF1, hF2, d4⟩, k4⟩
        have HD4 := hide d4
        have HK4 := hide k4
        clear d4 k4
        go_wp2_with fail
        refine (Flush_dev (unhide HD4) (by show S.burn.down = false; rw [St.well_up hw]; exact hd) hf (by omega)).mono ?_
        rintro e w5 ⟨rfl, d5, k5⟩
        have H5 := hide (And.intro d5 k5)
        clear d5 k5
        go_wp2
        go_ret
        rw [unhide HP]
        have z5 := (unhide H5).2.size
        have z4 := (unhide HK4).size
        refine ⟨rfl, ⟨F', fun j hj => ?_, fun j hj => ?_, (unhide H5).1.mono (fun _ h => h) (by omega)⟩, ?_⟩
        · have := hF1 j hj; omega
        · rcases hF2 j hj with h | h
          · exact .inl h
          · exact .inr (by omega)
        · refine ((Kept.of_below (unhide HB3)).trans (unhide HK4)).trans' (unhide H5).2 fun j h1 h2 => ?_
          rcases hF2 j h2 with h | h
          · exact h
          · omega
      · have HP : Hid (S.putF r L = (2, (S.burn.wrote r L).burn)) := hide (by unfold St.putF; rw [if_pos hw, if_neg hf])
        go_wp2_with fail
        have WD := Write_own (unhide HD3) hFd (by omega) r L _ hrk hd hw (unhide HG) hL5 (by omega)
        rw [show ((r : Nat) : Int) = (k : Int) + 1 by omega] at WD
        refine WD.mono ?_
        clear WD
        rintro e w4 ⟨rfl, ⟨F', hF1, hF2, d4⟩, k4⟩
        have HD4 := hide d4
        have HK4 := hide k4
        clear d4 k4
        go_wp2_with fail
        refine (Flush_dev_burnt (unhide HD4) (by show S.burn.down = false; rw [St.well_up hw]; exact hd) hf (by omega)).mono ?_
        rintro e w5 ⟨rfl, d5, k5⟩
        have H5 := hide (And.intro d5 k5)
        clear d5 k5
        go_wp2
        go_ret
        rw [unhide HP]
        have z5 := (unhide H5).2.size
        have z4 := (unhide HK4).size
        refine ⟨rfl, ⟨F', fun j hj => ?_, fun j hj => ?_, (unhide H5).1.mono (fun _ h => h) (by omega)⟩, ?_⟩
        · have := hF1 j hj; omega
        · rcases hF2 j hj with h | h
          · exact .inl h
          · exact .inr (by omega)
        · refine ((Kept.of_below (unhide HB3)).trans (unhide HK4)).trans' (unhide H5).2 fun j h1 h2 => ?_
          rcases hF2 j h2 with h | h
          · exact h
          · omega
    · have HP : Hid (S.putF r L = (2, S.burn)) := hide (by unfold St.putF; rw [if_neg hw])
      go_wp2_with fail
      have WD := Write_dev_burnt (unhide HD3) r (some ⟨g, 0, none⟩) 512 hrk hd hw (by omega)
      rw [show ((r : Nat) : Int) = (k : Int) + 1 by omega] at WD
      refine WD.mono ?_
      clear WD
      rintro e w4 ⟨rfl, d4, k4⟩
      have HD4 := hide d4
      have HK4 := hide k4
      clear d4 k4
      go_wp2
      go_ret
      rw [unhide HP]
      have z4 := (unhide HK4).size
      refine ⟨rfl, ⟨F, fun j hj => ?_, fun j hj => .inl hj, (unhide HD4).mono (fun _ h => h) (by omega)⟩, (Kept.of_below (unhide HB3)).trans (unhide HK4)⟩
      have := hF j hj
      omega
  · have hcu : (((t.turn : Nat) : Int) + 1) % 4294967296 = (u : Nat) := by rw [hu]; unfold curS; rw [if_pos h0]; omega
    rw [h0]
    have hu2 : u < 4294967296 := by rw [hu]; omega
    clear hu
    obtain ⟨r, hr⟩ : ∃ r, r = k + 1 - 1 := ⟨_, rfl⟩
    have hrk : r < S.safe.length := by omega
    rw [← hr]
    go_enter Tryz.func63, Tryz.ntmps63
    go_wp2_with (first | (refine wpList_load_row rfl 102 (.tmp 6) rfl w.heap.size rfl 102 (twoC s t (.slice x nx cx) (.slice y ny cy)) (0, 0) _ (by rw [← hW]; exact unhide HB0) Tryz.underlying102 rfl sizeTwo ?_) | fail)
    rw [← hW]
    clear hW
    refine (newer_any s t _ _ _).mono ?_
    rintro e w1 ⟨rfl, b1⟩
    rw [h0]
    have c1 : w1.cell? ⟨w.heap.size, 5, none⟩ = some (.int .u32 (t.turn : Nat)) := (b1.cell (p := ⟨w.heap.size, 5, none⟩) (by show w.heap.size < _; omega)).trans (by simp [World.cell?, unhide HB0])
    have HS1 : Hid (w1.heap[w.heap.size + 1]? = some (.cells (slotC ⟨false, 0, cnt, d⟩ (.slice a n c)) 101 (0, 0))) := hide ((b1.block _ (by omega)).trans (unhide HS0))
    have e1 : w1.cell? ⟨w.heap.size + 1, 1, none⟩ = some (.int .u32 0) := by simp [World.cell?, unhide HS1]
    have f1 : w1.frozen? ⟨w.heap.size + 1, 1, none⟩ = false := by simp [World.frozen?, unhide HS1]
    have z1 := b1.size
    have HS2 : Hid ((w1.setCell ⟨w.heap.size + 1, 1, none⟩ (.int .u32 (u : Nat))).heap[w.heap.size + 1]? = some (.cells (slotC ⟨false, u, cnt, d⟩ (.slice a n c)) 101 (0, 0))) := hide (heap_setCell_same w1 (w.heap.size + 1) 1 _ 101 (.int .u32 (u : Nat)) (unhide HS1))
    have HB2 : Hid (Below w.heap.size w (w1.setCell ⟨w.heap.size + 1, 1, none⟩ (.int .u32 (u : Nat)))) := hide (((unhide HW).trans (b1.mono (by omega))).setCell (by show w.heap.size ≤ w.heap.size + 1; omega) _)
    have z2 : (w1.setCell ⟨w.heap.size + 1, 1, none⟩ (.int .u32 (u : Nat))).heap.size = w1.heap.size := by simp [World.setCell]
    clear b1
    go_wp2_with (first | (refine wpList_load_row rfl 101 (.tmp 7) rfl (w.heap.size + 1) rfl 101 (slotC ⟨false, u, cnt, d⟩ (.slice a n c)) (0, 0) _ (by first | exact unhide HS2 | (rw [hcu]; exact unhide HS2)) Tryz.underlying101 rfl sizeSlot ?_) | fail)
    (try rw [hcu])
    obtain ⟨w2, hw2⟩ : ∃ w2, w2 = w1.setCell ⟨w.heap.size + 1, 1, none⟩ (.int .u32 (u : Nat)) := ⟨_, rfl⟩
    rw [← hw2] at HB2 HS2 z2 ⊢
    clear hw2 c1 e1 f1 HS1
    refine (lay_any ⟨false, u, cnt, d⟩ a n c k w2 ((unhide HV).below (unhide HB2) (Nat.le_refl _)) (by omega) (by omega) hu2 hc0 hc1 hl).mono ?_
    rintro e w3 ⟨g, rfl, hg, hg3, b3⟩
    rw [← hL] at hg3
    have HG := hide (Sl.ofRow hL5 hg3)
    have HB3 := hide ((unhide HB2).trans (b3.mono (by omega)))
    have z3 := b3.size
    clear b3 hg3 HS2 HB2
    have hFd : ∀ j, F j → base ≤ j ∧ j < w3.heap.size := fun j hj => by have := hF j hj; omega
    have HD3 := hide ((unhide HD).grown (unhide HB3))
    clear HD
    by_cases hw : S.well
    · by_cases hf : (S.burn.wrote r L).well
      · have HP : Hid (S.putF r L = (0, (S.burn.wrote r L).burn.flushed)) := hide (by unfold St.putF; rw [if_pos hw, if_pos hf])
        go_wp2_with fail
        have WD := Write_own (unhide HD3) hFd (by omega) r L _ hrk hd hw (unhide HG) hL5 (by omega)
        rw [show ((r : Nat) : Int) = (k : Int) by omega] at WD
        refine WD.mono ?_
        clear WD
        rintro e w4 ⟨rfl, ⟨F', hF1, hF2, d4⟩, k4⟩
        have HD4 := hide d4
        have HK4 := hide k4
        clear d4 k4
        go_wp2_with fail
        refine (Flush_dev (unhide HD4) (by show S.burn.down = false; rw [St.well_up hw]; exact hd) hf (by omega)).mono ?_
        rintro e w5 ⟨rfl, d5, k5⟩
        have H5 := hide (And.intro d5 k5)
        clear d5 k5
        go_wp2
        go_ret
        rw [unhide HP]
        have z5 := (unhide H5).2.size
        have z4 := (unhide HK4).size
        refine ⟨rfl, ⟨F', fun j hj => ?_, fun j hj => ?_, (unhide H5).1.mono (fun _ h => h) (by omega)⟩, ?_⟩
        · have := hF1 j hj; omega
        · rcases hF2 j hj with h | h
          · exact .inl h
          · exact .inr (by omega)
        · refine ((Kept.of_below (unhide HB3)).trans (unhide HK4)).trans' (unhide H5).2 fun j h1 h2 => ?_
          rcases hF2 j h2 with h | h
          · exact h
          · omega
      · have HP : Hid (S.putF r L = (2, (S.burn.wrote r L).burn)) := hide (by unfold St.putF; rw [if_pos hw, if_neg hf])
        go_wp2_with fail
        have WD := Write_own (unhide HD3) hFd (by omega) r L _ hrk hd hw (unhide HG) hL5 (by omega)
        rw [show ((r : Nat) : Int) = (k : Int) by omega] at WD
        refine WD.mono ?_
        clear WD
        rintro e w4 ⟨rfl, ⟨F', hF1, hF2, d4⟩, k4⟩
        have HD4 := hide d4
        have HK4 := hide k4
        clear d4 k4
        go_wp2_with fail
        refine (Flush_dev_burnt (unhide HD4) (by show S.burn.down = false; rw [St.well_up hw]; exact hd) hf (by omega)).mono ?_
        rintro e w5 ⟨rfl, d5, k5⟩
        have H5 := hide (And.intro d5 k5)
        clear d5 k5
        go_wp2
        go_ret
        rw [unhide HP]
        have z5 := (unhide H5).2.size
        have z4 := (unhide HK4).size
        refine ⟨rfl, ⟨F', fun j hj => ?_, fun j hj => ?_, (unhide H5).1.mono (fun _ h => h) (by omega)⟩, ?_⟩
        · have := hF1 j hj; omega
        · rcases hF2 j hj with h | h
          · exact .inl h
          · exact .inr (by omega)
        · refine ((Kept.of_below (unhide HB3)).trans (unhide HK4)).trans' (unhide H5).2 fun j h1 h2 => ?_
          rcases hF2 j h2 with h | h
          · exact h
          · omega
    · have HP : Hid (S.putF r L = (2, S.burn)) := hide (by unfold St.putF; rw [if_neg hw])
      go_wp2_with fail
      have WD := Write_dev_burnt (unhide HD3) r (some ⟨g, 0, none⟩) 512 hrk hd hw (by omega)
      rw [show ((r : Nat) : Int) = (k : Int) by omega] at WD
      refine WD.mono ?_
      clear WD
      rintro e w4 ⟨rfl, d4, k4⟩
      have HD4 := hide d4
      have HK4 := hide k4
      clear d4 k4
      go_wp2
      go_ret
      rw [unhide HP]
      have z4 := (unhide HK4).size
      refine ⟨rfl, ⟨F, fun j hj => ?_, fun j hj => .inl hj, (unhide HD4).mono (fun _ h => h) (by omega)⟩, (Kept.of_below (unhide HB3)).trans (unhide HK4)⟩
      have := hF j hj
      omega
end Go.Proofs.YtfnhhjpebilacaaGreat

/-
  DERIVED. No device: Format, Load, Store on a nil pointer.
-/
namespace Go.Proofs.YtfnhhjpebilacaaGreat
open Go.RowKit
set_option linter.unusedVariables false

theorem Format_nil (at_ : Int) (v : Value) (w : World) : Calls Tryz.prog 43 #[.pointer none, .int .i64 at_, v] w fun e w' => e = .returned (.int .i64 1) ∧ w = w' := by
  go_enter Tryz.func43, Tryz.ntmps43
  go_wp2_with (go_at_call 61; refine (check_nil _ _ _).mono ?_; rintro e w' ⟨rfl, rfl⟩)
  go_ret
  exact ⟨rfl, rfl⟩
theorem Store_nil (at_ : Int) (v : Value) (w : World) : Calls Tryz.prog 47 #[.pointer none, .int .i64 at_, v] w fun e w' => e = .returned (.int .i64 1) ∧ w = w' := by
  go_enter Tryz.func47, Tryz.ntmps47
  go_wp2_with (go_at_call 61; refine (check_nil _ _ _).mono ?_; rintro e w' ⟨rfl, rfl⟩)
  go_ret
  exact ⟨rfl, rfl⟩
theorem Load_nil (at_ : Int) (w : World) : Calls Tryz.prog 59 #[.pointer none, .int .i64 at_] w fun e w' => e = .returned (.tuple #[.slice none 0 0, .int .i64 0, .int .i64 1]) ∧ w = w' := by
  go_enter Tryz.func59, Tryz.ntmps59
  go_wp2_with (go_at_call 61; refine (check_nil _ _ _).mono ?_; rintro e w' ⟨rfl, rfl⟩)
  go_ret3
  exact ⟨rfl, rfl⟩

section
variable {w : World} {b : Nat} {pm : Value} {fused : Bool} {fuse : Int} {down : Bool} {ops : Int} {a : Option Addr} {n c : Nat}
theorem Format_bad (at_ : Int) (x : Option Addr) (l q : Nat) (h : DevAt w b (.slice a n c) pm fused fuse down ops) (hn : n ≤ 512) (hE : chkE n at_ l ≠ 0) :
    Calls Tryz.prog 43 #[.pointer (some ⟨b, 0, none⟩), .int .i64 at_, .slice x l q] w fun e w' => e = .returned (.int .i64 (chkE n at_ l)) ∧ ∀ B, Below B w w' := by
  have HD := hide h
  clear h
  have hne : (chkE n at_ l != 0) = true := by rw [bne_iff_ne]; exact hE
  go_enter Tryz.func43, Tryz.ntmps43
  go_wp2_with fail
  refine (check_dev at_ x l q (unhide HD) hn).mono ?_
  rintro e w' ⟨rfl, bb⟩
  have HB := hide bb
  clear bb
  go_wp2
  go_ret
  exact ⟨rfl, unhide HB⟩
theorem Store_bad (at_ : Int) (x : Option Addr) (l q : Nat) (h : DevAt w b (.slice a n c) pm fused fuse down ops) (hn : n ≤ 512) (hE : chkE n at_ l ≠ 0) :
    Calls Tryz.prog 47 #[.pointer (some ⟨b, 0, none⟩), .int .i64 at_, .slice x l q] w fun e w' => e = .returned (.int .i64 (chkE n at_ l)) ∧ ∀ B, Below B w w' := by
  have HD := hide h
  clear h
  have hne : (chkE n at_ l != 0) = true := by rw [bne_iff_ne]; exact hE
  go_enter Tryz.func47, Tryz.ntmps47
  go_wp2_with fail
  refine (check_dev at_ x l q (unhide HD) hn).mono ?_
  rintro e w' ⟨rfl, bb⟩
  have HB := hide bb
  clear bb
  go_wp2
  go_ret
  exact ⟨rfl, unhide HB⟩
theorem Load_bad (at_ : Int) (h : DevAt w b (.slice a n c) pm fused fuse down ops) (hn : n ≤ 512) (hE : chkE n at_ 0 ≠ 0) :
    Calls Tryz.prog 59 #[.pointer (some ⟨b, 0, none⟩), .int .i64 at_] w fun e w' => e = .returned (.tuple #[.slice none 0 0, .int .i64 0, .int .i64 (chkE n at_ 0)]) ∧ ∀ B, Below B w w' := by
  have HD := hide h
  clear h
  have hne : (chkE n at_ 0 != 0) = true := by rw [bne_iff_ne]; exact hE
  go_enter Tryz.func59, Tryz.ntmps59
  go_wp2_with fail
  refine (check_dev at_ none 0 0 (unhide HD) hn).mono ?_
  rintro e w' ⟨rfl, bb⟩
  have HB := hide bb
  clear bb
  go_wp2
  go_ret3
  exact ⟨rfl, unhide HB⟩
end
end Go.Proofs.YtfnhhjpebilacaaGreat

/-
  DERIVED. Format over a device in memory.
-/
namespace Go.Proofs.YtfnhhjpebilacaaGreat
open Go.RowKit
set_option linter.unusedVariables false

theorem Sl.kept' {F : Nat → Prop} {w w' : World} {a : Option Addr} {n c : Nat} {l : List UInt8} (h : Sl w (.slice a n c) l) (hk : Kept F w w') (hF : c ≠ 0 → ∀ ad, a = some ad → ¬ F ad.block) : Sl w' (.slice a n c) l := by
  by_cases hc : c = 0
  · obtain ⟨ao, cap, e, h1, h2, h4⟩ := h
    have ec : c = cap := by injection e
    exact ⟨ao, cap, e, h1, h2, fun h => absurd (ec.symm.trans hc) (by simpa using h)⟩
  · exact h.kept hk (hF hc)
theorem chk_ok {n : Nat} {k l : Nat} (hk : k + 1 < n) (hl : l ≤ 400) : chkE n k l = 0 := by unfold chkE; rw [if_neg (by omega), if_neg (by omega)]
/-- check, where it refuses nothing. -/
theorem check_ok {w : World} {b : Nat} {F : Nat → Prop} {N : Nat} {S : St} (h : Dev w b F N S) (k : Nat) (hk : k + 1 < S.safe.length) (a : Option Addr) (n c : Nat) (hl : n ≤ 400) :
    Calls Tryz.prog 61 #[.pointer (some ⟨b, 0, none⟩), .int .i64 k, .slice a n c] w fun e w' => e = .returned (.int .i64 0) ∧ Below w.heap.size w w' := by
  obtain ⟨g, c', m, vf, D, h0⟩ := h
  refine (check_dev k a n c h0.dev h0.n2).mono ?_
  rintro e w' ⟨rfl, hb⟩
  exact ⟨by rw [chk_ok hk hl], hb _⟩

set_option maxRecDepth 20000 in
set_option maxHeartbeats 2000000 in
theorem Format_dev {w : World} {b base : Nat} {F : Nat → Prop} {N : Nat} {S : St} (h : Dev w b F N S) (hF : ∀ k, F k → base ≤ k ∧ k < w.heap.size) (hbs : base ≤ w.heap.size) (k : Nat) (hk : k + 1 < S.safe.length) (hN : N < 800000)
    (a : Option Addr) (n c : Nat) (d : List UInt8) (hv : Sl w (.slice a n c) d) (hva : c ≠ 0 → ∀ ad, a = some ad → ¬ F ad.block) (hl : d.length ≤ 400) (hn : n = d.length) :
    Calls Tryz.prog 43 #[.pointer (some ⟨b, 0, none⟩), .int .i64 k, .slice a n c] w fun e w' => e = .returned (.int .i64 (S.format k d).1) ∧
      (∃ F', (∀ j, F' j → base ≤ j ∧ j < w'.heap.size) ∧ (∀ j, F' j → F j ∨ w.heap.size ≤ j) ∧ Dev w' b F' (N + 6) (S.format k d).2) ∧ Kept F w w' := by
  have hs : S.safe.length ≤ 512 := by obtain ⟨g, c, m, vf, D, h0⟩ := h; exact h0.n2
  subst hn
  have HD := hide h
  have HV := hide hv
  clear h hv
  go_enter Tryz.func43, Tryz.ntmps43
  go_wp2_with fail
  refine (check_ok (unhide HD) k hk a _ c (by omega)).mono ?_
  rintro e w1 ⟨rfl, b1⟩
  have HB1 := hide b1
  have z1 := b1.size
  have HD1 := hide ((unhide HD).grown b1)
  have HV1 := hide ((unhide HV).below b1 (Nat.le_refl _))
  clear b1 HD HV
  have hF1 : ∀ j, F j → j < w1.heap.size := fun j hj => by have := hF j hj; omega
  by_cases hr : S.reads
  · go_wp2_with fail
    refine (read_well (unhide HD1) k hk hr (by omega) hF1).mono ?_
    rintro e w2 ⟨a1, n1, c1, a2, n2, c2, rfl, f1, f2, l1, l2, d2, k2⟩
    obtain ⟨s1, hs1⟩ : ∃ s, unl k (S.newest k) = s := ⟨_, rfl⟩
    obtain ⟨s2, hs2⟩ : ∃ s, unl k (S.newest (k + 1)) = s := ⟨_, rfl⟩
    rw [hs1, hs2]
    have HE : Hid (S.format k d = S.burn.burn.putF (k + 1 - newR s1 s2) (slotL ⟨false, ((curS s1 s2).turn + 1) % 4294967296, 0, d⟩ k)) := hide (by unfold St.format; rw [if_pos hr, ← hs1, ← hs2]; rfl)
    have t1 : s1.turn < 4294967296 := by rw [← hs1]; exact (unl_is _ _).1
    have t2 : s2.turn < 4294967296 := by rw [← hs2]; exact (unl_is _ _).1
    have HD2 := hide d2
    have HK2 := hide k2
    have z2 := k2.size
    have HV2 := hide ((unhide HV1).kept' k2 hva)
    clear d2 k2 l1 l2 f1 f2 HD1 HV1 hs1 hs2
    obtain ⟨W2, hW2⟩ : ∃ W2, W2 = w2.alloc (.cells (twoC s1 s2 (.slice a1 n1 c1) (.slice a2 n2 c2)) 102) := ⟨_, rfl⟩
    have HBW : Hid (Below w2.heap.size w2 W2) := hide (by rw [hW2]; exact (Below.refl _ _).alloc (Nat.le_refl _) _)
    have zW : W2.heap.size = w2.heap.size + 1 := by rw [hW2]; simp
    go_wp2_with (first | (refine wpList_load_row rfl 102 (.tmp 8) rfl w2.heap.size rfl 102 (twoC s1 s2 (.slice a1 n1 c1) (.slice a2 n2 c2)) (0, 0) _ (by exact heap_alloc_self _ _) Tryz.underlying102 rfl sizeTwo ?_) | fail)
    rw [← hW2]
    clear hW2
    refine (write_any (base := base) ((unhide HD2).grown (unhide HBW)) (fun j hj => by have := hF j hj; omega) (by omega) k hk (by show S.burn.burn.down = false; rw [St.well_up hr.2.2, St.well_up hr.2.1]; exact hr.1) (by omega) s1 s2 a1 a2 n1 c1 n2 c2 t1 t2 0 (by decide) (by decide) a _ c d ((unhide HV2).below (unhide HBW) (Nat.le_refl _)) hl).mono ?_
    rintro e w3 ⟨rfl, ⟨F', g1, g2, g3⟩, k3⟩
    have z3 := k3.size
    have H3 := hide (And.intro g3 k3)
    clear g3 k3
    rw [← unhide HE] at H3 ⊢
    go_wp2
    go_ret
    refine ⟨rfl, ⟨F', fun j hj => g1 j hj, fun j hj => ?_, (unhide H3).1⟩, ?_⟩
    · rcases g2 j hj with h | h
      · exact .inl h
      · exact .inr (by omega)
    · exact (((Kept.of_below (unhide HB1)).trans (unhide HK2)).trans (Kept.of_below (unhide HBW))).trans (unhide H3).2
  · have HE : Hid (S.format k d = (2, S.halted)) := hide (by unfold St.format; rw [if_neg hr])
    go_wp2_with fail
    refine (read_stops (unhide HD1) k hk hr (by omega) hF1).mono ?_
    rintro e w2 ⟨rfl, d2, k2⟩
    have HD2 := hide d2
    have HK2 := hide k2
    have z2 := k2.size
    clear d2 k2
    have HBW := hide ((Below.refl w2.heap.size w2).alloc (Nat.le_refl _) (.cells two0 102))
    have zW : (w2.alloc (.cells two0 102)).heap.size = w2.heap.size + 1 := by simp
    go_wp2
    go_ret
    rw [unhide HE]
    refine ⟨rfl, ⟨F, fun j hj => ?_, fun j hj => .inl hj, ((unhide HD2).grown (unhide HBW)).mono (fun _ h => h) (by omega)⟩, ((Kept.of_below (unhide HB1)).trans (unhide HK2)).trans (Kept.of_below (unhide HBW))⟩
    have := hF j hj
    show base ≤ j ∧ j < (w2.alloc (.cells two0 102)).heap.size
    omega
end Go.Proofs.YtfnhhjpebilacaaGreat

/-
  DERIVED. Store over a device in memory.
-/
namespace Go.Proofs.YtfnhhjpebilacaaGreat
open Go.RowKit
set_option linter.unusedVariables false

set_option maxRecDepth 20000 in
set_option maxHeartbeats 2000000 in
theorem Store_dev {w : World} {b base : Nat} {F : Nat → Prop} {N : Nat} {S : St} (h : Dev w b F N S) (hF : ∀ k, F k → base ≤ k ∧ k < w.heap.size) (hbs : base ≤ w.heap.size) (k : Nat) (hk : k + 1 < S.safe.length) (hN : N < 800000)
    (a : Option Addr) (n c : Nat) (d : List UInt8) (hv : Sl w (.slice a n c) d) (hva : c ≠ 0 → ∀ ad, a = some ad → ¬ F ad.block) (hl : d.length ≤ 400) (hn : n = d.length) (hct : (S.rcd k).count < 9223372036854775807) :
    Calls Tryz.prog 47 #[.pointer (some ⟨b, 0, none⟩), .int .i64 k, .slice a n c] w fun e w' => e = .returned (.int .i64 (S.store k d).1) ∧
      (∃ F', (∀ j, F' j → base ≤ j ∧ j < w'.heap.size) ∧ (∀ j, F' j → F j ∨ w.heap.size ≤ j) ∧ Dev w' b F' (N + 6) (S.store k d).2) ∧ Kept F w w' := by
  have hs : S.safe.length ≤ 512 := by obtain ⟨g, c, m, vf, D, h0⟩ := h; exact h0.n2
  subst hn
  have HD := hide h
  have HV := hide hv
  clear h hv
  go_enter Tryz.func47, Tryz.ntmps47
  go_wp2_with fail
  refine (check_ok (unhide HD) k hk a _ c (by omega)).mono ?_
  rintro e w1 ⟨rfl, b1⟩
  have HB1 := hide b1
  have z1 := b1.size
  have HD1 := hide ((unhide HD).grown b1)
  have HV1 := hide ((unhide HV).below b1 (Nat.le_refl _))
  clear b1 HD HV
  have hF1 : ∀ j, F j → j < w1.heap.size := fun j hj => by have := hF j hj; omega
  by_cases hr : S.reads
  · go_wp2_with fail
    refine (read_well (unhide HD1) k hk hr (by omega) hF1).mono ?_
    rintro e w2 ⟨a1, n1, c1, a2, n2, c2, rfl, f1, f2, l1, l2, d2, k2⟩
    have hrc : S.rcd k = curS (unl k (S.newest k)) (unl k (S.newest (k + 1))) := rfl
    obtain ⟨s1, hs1⟩ : ∃ s, unl k (S.newest k) = s := ⟨_, rfl⟩
    obtain ⟨s2, hs2⟩ : ∃ s, unl k (S.newest (k + 1)) = s := ⟨_, rfl⟩
    rw [hs1, hs2] at hrc ⊢
    have HE : Hid (S.store k d = if (S.rcd k).laid = true then S.burn.burn.putF (k + 1 - newR s1 s2) (slotL ⟨false, ((curS s1 s2).turn + 1) % 4294967296, (S.rcd k).count + 1, d⟩ k) else (30, S.burn.burn)) := hide (by unfold St.store; rw [if_pos hr, ← hs1, ← hs2]; rfl)
    have t1 : s1.turn < 4294967296 := by rw [← hs1]; exact (unl_is _ _).1
    have t2 : s2.turn < 4294967296 := by rw [← hs2]; exact (unl_is _ _).1
    have HD2 := hide d2
    have HK2 := hide k2
    have z2 := k2.size
    have HV2 := hide ((unhide HV1).kept' k2 hva)
    clear d2 k2 l1 l2 f1 f2 HD1 HV1 hs1 hs2
    obtain ⟨W2, hW2⟩ : ∃ W2, W2 = w2.alloc (.cells (twoC s1 s2 (.slice a1 n1 c1) (.slice a2 n2 c2)) 102) := ⟨_, rfl⟩
    have HBW : Hid (Below w2.heap.size w2 W2) := hide (by rw [hW2]; exact (Below.refl _ _).alloc (Nat.le_refl _) _)
    have HRW : Hid (W2.heap[w2.heap.size]? = some (.cells (twoC s1 s2 (.slice a1 n1 c1) (.slice a2 n2 c2)) 102 (0, 0))) := hide (by rw [hW2]; exact heap_alloc_self _ _)
    have zW : W2.heap.size = w2.heap.size + 1 := by rw [hW2]; simp
    rcases newR_or s1 s2 with h0 | h0
    · have hcu : S.rcd k = s1 := by rw [hrc]; unfold curS; rw [if_neg (by omega)]
      clear hrc
      go_wp2_with (first | (refine wpList_load_row rfl 102 (.tmp 8) rfl w2.heap.size rfl 102 (twoC s1 s2 (.slice a1 n1 c1) (.slice a2 n2 c2)) (0, 0) _ (by exact heap_alloc_self _ _) Tryz.underlying102 rfl sizeTwo ?_) | fail)
      rw [← hW2]
      clear hW2
      refine (newer_any s1 s2 _ _ _).mono ?_
      rintro e w3 ⟨rfl, b3⟩
      have z3 := b3.size
      have HR3 : Hid (w3.heap[w2.heap.size]? = some (.cells (twoC s1 s2 (.slice a1 n1 c1) (.slice a2 n2 c2)) 102 (0, 0))) := hide ((b3.block _ (by omega)).trans (unhide HRW))
      have HB3 := hide ((unhide HBW).trans (b3.mono (by omega)))
      clear b3
      have q0 : w3.cell? ⟨w2.heap.size, 0, none⟩ = some (.bool s1.laid) := by simp [World.cell?, unhide HR3]
      have q1 : w3.cell? ⟨w2.heap.size, 1, none⟩ = some (.int .u32 (s1.turn : Nat)) := by simp [World.cell?, unhide HR3]
      have q2 : w3.cell? ⟨w2.heap.size, 2, none⟩ = some (.int .i64 s1.count) := by simp [World.cell?, unhide HR3]
      have q3 : w3.cell? ⟨w2.heap.size, 3, none⟩ = some (.slice a1 n1 c1) := by simp [World.cell?, unhide HR3]
      rw [h0]
      have hcc : s1.count < 9223372036854775807 := by rw [← hcu]; exact hct
      have hc0 : 0 ≤ s1.count := by rw [← hcu]; exact (S.rcd_is k).2.1
      by_cases hla : s1.laid = true
      · rw [hla] at q0
        obtain ⟨W4, hW4⟩ : ∃ W4, W4 = w3.alloc (.cells #[.bool true, .int .u32 (s1.turn : Nat), .int .i64 s1.count, .slice a1 n1 c1] 101) := ⟨_, rfl⟩
        have HB4 : Hid (Below w2.heap.size w2 W4) := hide (by rw [hW4]; exact (unhide HB3).alloc (by omega) _)
        have z4 : W4.heap.size = w3.heap.size + 1 := by rw [hW4]; simp
        have HR4 : Hid (W4.heap[w2.heap.size]? = some (.cells (twoC s1 s2 (.slice a1 n1 c1) (.slice a2 n2 c2)) 102 (0, 0))) := hide (by rw [hW4, Below.heap_alloc _ _ _ (by omega)]; exact unhide HR3)
        have hE : S.store k d = S.burn.burn.putF (k + 1 - newR s1 s2) (slotL ⟨false, ((curS s1 s2).turn + 1) % 4294967296, s1.count + 1, d⟩ k) := by rw [unhide HE, if_pos (by rw [hcu, hla]), hcu]
        have HE2 := hide hE
        clear hE hcu HE hla
        go_wp2_with (first | (refine wpList_load_row rfl 102 (.tmp 8) rfl w2.heap.size rfl 102 (twoC s1 s2 (.slice a1 n1 c1) (.slice a2 n2 c2)) (0, 0) _ (by first | exact unhide HR3 | (rw [← hW4]; exact unhide HR4)) Tryz.underlying102 rfl sizeTwo ?_) | fail)
        rw [← hW4]
        clear hW4
        refine (write_any (base := base) ((unhide HD2).grown (unhide HB4)) (fun j hj => by have := hF j hj; omega) (by omega) k hk (by show S.burn.burn.down = false; rw [St.well_up hr.2.2, St.well_up hr.2.1]; exact hr.1) (by omega) s1 s2 a1 a2 n1 c1 n2 c2 t1 t2 (s1.count + 1) (by omega) (by omega) a _ c d ((unhide HV2).below (unhide HB4) (Nat.le_refl _)) hl).mono ?_
        rintro e w5 ⟨rfl, ⟨F', g1, g2, g3⟩, k3⟩
        have z5 := k3.size
        have H3 := hide (And.intro g3 k3)
        clear g3 k3
        rw [← unhide HE2] at H3 ⊢
        go_wp2
        go_ret
        refine ⟨rfl, ⟨F', fun j hj => g1 j hj, fun j hj => ?_, (unhide H3).1⟩, ?_⟩
        · rcases g2 j hj with h | h
          · exact .inl h
          · exact .inr (by omega)
        · exact (((Kept.of_below (unhide HB1)).trans (unhide HK2)).trans (Kept.of_below (unhide HB4))).trans (unhide H3).2
      · have hla : s1.laid = false := by simpa using hla
        rw [hla] at q0
        obtain ⟨W4, hW4⟩ : ∃ W4, W4 = w3.alloc (.cells #[.bool false, .int .u32 (s1.turn : Nat), .int .i64 s1.count, .slice a1 n1 c1] 101) := ⟨_, rfl⟩
        have HB4 : Hid (Below w2.heap.size w2 W4) := hide (by rw [hW4]; exact (unhide HB3).alloc (by omega) _)
        have z4 : W4.heap.size = w3.heap.size + 1 := by rw [hW4]; simp
        have HR4 : Hid (W4.heap[w2.heap.size]? = some (.cells (twoC s1 s2 (.slice a1 n1 c1) (.slice a2 n2 c2)) 102 (0, 0))) := hide (by rw [hW4, Below.heap_alloc _ _ _ (by omega)]; exact unhide HR3)
        have hE : S.store k d = (30, S.burn.burn) := by rw [unhide HE, if_neg (by rw [hcu, hla]; decide)]
        have HE2 := hide hE
        clear hE hcu hla HE
        go_wp2
        (try rw [← hW4])
        go_ret
        rw [unhide HE2]
        refine ⟨rfl, ⟨F, fun j hj => ?_, fun j hj => .inl hj, ((unhide HD2).grown (unhide HB4)).mono (fun _ h => h) (by omega)⟩, ((Kept.of_below (unhide HB1)).trans (unhide HK2)).trans (Kept.of_below (unhide HB4))⟩
        have := hF j hj
        omega
    · have hcu : S.rcd k = s2 := by rw [hrc]; unfold curS; rw [if_pos h0]
      clear hrc
      go_wp2_with (first | (refine wpList_load_row rfl 102 (.tmp 8) rfl w2.heap.size rfl 102 (twoC s1 s2 (.slice a1 n1 c1) (.slice a2 n2 c2)) (0, 0) _ (by exact heap_alloc_self _ _) Tryz.underlying102 rfl sizeTwo ?_) | fail)
      rw [← hW2]
      clear hW2
      refine (newer_any s1 s2 _ _ _).mono ?_
      rintro e w3 ⟨rfl, b3⟩
      have z3 := b3.size
      have HR3 : Hid (w3.heap[w2.heap.size]? = some (.cells (twoC s1 s2 (.slice a1 n1 c1) (.slice a2 n2 c2)) 102 (0, 0))) := hide ((b3.block _ (by omega)).trans (unhide HRW))
      have HB3 := hide ((unhide HBW).trans (b3.mono (by omega)))
      clear b3
      have q0 : w3.cell? ⟨w2.heap.size, 4, none⟩ = some (.bool s2.laid) := by simp [World.cell?, unhide HR3]
      have q1 : w3.cell? ⟨w2.heap.size, 5, none⟩ = some (.int .u32 (s2.turn : Nat)) := by simp [World.cell?, unhide HR3]
      have q2 : w3.cell? ⟨w2.heap.size, 6, none⟩ = some (.int .i64 s2.count) := by simp [World.cell?, unhide HR3]
      have q3 : w3.cell? ⟨w2.heap.size, 7, none⟩ = some (.slice a2 n2 c2) := by simp [World.cell?, unhide HR3]
      rw [h0]
      have hcc : s2.count < 9223372036854775807 := by rw [← hcu]; exact hct
      have hc0 : 0 ≤ s2.count := by rw [← hcu]; exact (S.rcd_is k).2.1
      by_cases hla : s2.laid = true
      · rw [hla] at q0
        obtain ⟨W4, hW4⟩ : ∃ W4, W4 = w3.alloc (.cells #[.bool true, .int .u32 (s2.turn : Nat), .int .i64 s2.count, .slice a2 n2 c2] 101) := ⟨_, rfl⟩
        have HB4 : Hid (Below w2.heap.size w2 W4) := hide (by rw [hW4]; exact (unhide HB3).alloc (by omega) _)
        have z4 : W4.heap.size = w3.heap.size + 1 := by rw [hW4]; simp
        have HR4 : Hid (W4.heap[w2.heap.size]? = some (.cells (twoC s1 s2 (.slice a1 n1 c1) (.slice a2 n2 c2)) 102 (0, 0))) := hide (by rw [hW4, Below.heap_alloc _ _ _ (by omega)]; exact unhide HR3)
        have hE : S.store k d = S.burn.burn.putF (k + 1 - newR s1 s2) (slotL ⟨false, ((curS s1 s2).turn + 1) % 4294967296, s2.count + 1, d⟩ k) := by rw [unhide HE, if_pos (by rw [hcu, hla]), hcu]
        have HE2 := hide hE
        clear hE hcu HE hla
        go_wp2_with (first | (refine wpList_load_row rfl 102 (.tmp 8) rfl w2.heap.size rfl 102 (twoC s1 s2 (.slice a1 n1 c1) (.slice a2 n2 c2)) (0, 0) _ (by first | exact unhide HR3 | (rw [← hW4]; exact unhide HR4)) Tryz.underlying102 rfl sizeTwo ?_) | fail)
        rw [← hW4]
        clear hW4
        refine (write_any (base := base) ((unhide HD2).grown (unhide HB4)) (fun j hj => by have := hF j hj; omega) (by omega) k hk (by show S.burn.burn.down = false; rw [St.well_up hr.2.2, St.well_up hr.2.1]; exact hr.1) (by omega) s1 s2 a1 a2 n1 c1 n2 c2 t1 t2 (s2.count + 1) (by omega) (by omega) a _ c d ((unhide HV2).below (unhide HB4) (Nat.le_refl _)) hl).mono ?_
        rintro e w5 ⟨rfl, ⟨F', g1, g2, g3⟩, k3⟩
        have z5 := k3.size
        have H3 := hide (And.intro g3 k3)
        clear g3 k3
        rw [← unhide HE2] at H3 ⊢
        go_wp2
        go_ret
        refine ⟨rfl, ⟨F', fun j hj => g1 j hj, fun j hj => ?_, (unhide H3).1⟩, ?_⟩
        · rcases g2 j hj with h | h
          · exact .inl h
          · exact .inr (by omega)
        · exact (((Kept.of_below (unhide HB1)).trans (unhide HK2)).trans (Kept.of_below (unhide HB4))).trans (unhide H3).2
      · have hla : s2.laid = false := by simpa using hla
        rw [hla] at q0
        obtain ⟨W4, hW4⟩ : ∃ W4, W4 = w3.alloc (.cells #[.bool false, .int .u32 (s2.turn : Nat), .int .i64 s2.count, .slice a2 n2 c2] 101) := ⟨_, rfl⟩
        have HB4 : Hid (Below w2.heap.size w2 W4) := hide (by rw [hW4]; exact (unhide HB3).alloc (by omega) _)
        have z4 : W4.heap.size = w3.heap.size + 1 := by rw [hW4]; simp
        have HR4 : Hid (W4.heap[w2.heap.size]? = some (.cells (twoC s1 s2 (.slice a1 n1 c1) (.slice a2 n2 c2)) 102 (0, 0))) := hide (by rw [hW4, Below.heap_alloc _ _ _ (by omega)]; exact unhide HR3)
        have hE : S.store k d = (30, S.burn.burn) := by rw [unhide HE, if_neg (by rw [hcu, hla]; decide)]
        have HE2 := hide hE
        clear hE hcu hla HE
        go_wp2
        (try rw [← hW4])
        go_ret
        rw [unhide HE2]
        refine ⟨rfl, ⟨F, fun j hj => ?_, fun j hj => .inl hj, ((unhide HD2).grown (unhide HB4)).mono (fun _ h => h) (by omega)⟩, ((Kept.of_below (unhide HB1)).trans (unhide HK2)).trans (Kept.of_below (unhide HB4))⟩
        have := hF j hj
        omega
  · have HE : Hid (S.store k d = (2, S.halted)) := hide (by unfold St.store; rw [if_neg hr])
    go_wp2_with fail
    refine (read_stops (unhide HD1) k hk hr (by omega) hF1).mono ?_
    rintro e w2 ⟨rfl, d2, k2⟩
    have HD2 := hide d2
    have HK2 := hide k2
    have z2 := k2.size
    clear d2 k2
    have HBW := hide ((Below.refl w2.heap.size w2).alloc (Nat.le_refl _) (.cells two0 102))
    have zW : (w2.alloc (.cells two0 102)).heap.size = w2.heap.size + 1 := by simp
    go_wp2
    go_ret
    rw [unhide HE]
    refine ⟨rfl, ⟨F, fun j hj => ?_, fun j hj => .inl hj, ((unhide HD2).grown (unhide HBW)).mono (fun _ h => h) (by omega)⟩, ((Kept.of_below (unhide HB1)).trans (unhide HK2)).trans (Kept.of_below (unhide HBW))⟩
    have := hF j hj
    show base ≤ j ∧ j < (w2.alloc (.cells two0 102)).heap.size
    omega
end Go.Proofs.YtfnhhjpebilacaaGreat

/-
  DERIVED. Load over a device in memory.
-/
namespace Go.Proofs.YtfnhhjpebilacaaGreat
open Go.RowKit
set_option linter.unusedVariables false

set_option maxRecDepth 20000 in
set_option maxHeartbeats 2000000 in
theorem Load_stops {w : World} {b : Nat} {F : Nat → Prop} {N : Nat} {S : St} (h : Dev w b F N S) (hF : ∀ k, F k → k < w.heap.size) (k : Nat) (hk : k + 1 < S.safe.length) (hN : N < 800000) (hr : ¬ S.reads) :
    Calls Tryz.prog 59 #[.pointer (some ⟨b, 0, none⟩), .int .i64 k] w fun e w' => e = .returned (.tuple #[.slice none 0 0, .int .i64 0, .int .i64 2]) ∧ Dev w' b F (N + 2) S.halted ∧ Kept F w w' := by
  have hs : S.safe.length ≤ 512 := by obtain ⟨g, c, m, vf, D, h0⟩ := h; exact h0.n2
  have HD := hide h
  clear h
  go_enter Tryz.func59, Tryz.ntmps59
  go_wp2_with fail
  refine (check_ok (unhide HD) k hk none 0 0 (by omega)).mono ?_
  rintro e w1 ⟨rfl, b1⟩
  have HB1 := hide b1
  have z1 := b1.size
  have HD1 := hide ((unhide HD).grown b1)
  clear b1 HD
  have hF1 : ∀ j, F j → j < w1.heap.size := fun j hj => by have := hF j hj; omega
  go_wp2_with fail
  refine (read_stops (unhide HD1) k hk hr (by omega) hF1).mono ?_
  rintro e w2 ⟨rfl, d2, k2⟩
  have HD2 := hide d2
  have HK2 := hide k2
  clear d2 k2
  have HBW := hide ((Below.refl w2.heap.size w2).alloc (Nat.le_refl _) (.cells two0 102))
  go_wp2
  go_ret3
  exact ⟨rfl, (unhide HD2).grown (unhide HBW), ((Kept.of_below (unhide HB1)).trans (unhide HK2)).trans (Kept.of_below (unhide HBW))⟩

set_option maxRecDepth 20000 in
set_option maxHeartbeats 2000000 in
theorem Load_none {w : World} {b : Nat} {F : Nat → Prop} {N : Nat} {S : St} (h : Dev w b F N S) (hF : ∀ k, F k → k < w.heap.size) (k : Nat) (hk : k + 1 < S.safe.length) (hN : N < 800000) (hr : S.reads) (hla : (S.rcd k).laid = false) :
    Calls Tryz.prog 59 #[.pointer (some ⟨b, 0, none⟩), .int .i64 k] w fun e w' => e = .returned (.tuple #[.slice none 0 0, .int .i64 0, .int .i64 30]) ∧ Dev w' b F (N + 2) S.burn.burn ∧ Kept F w w' := by
  have hs : S.safe.length ≤ 512 := by obtain ⟨g, c, m, vf, D, h0⟩ := h; exact h0.n2
  have HD := hide h
  clear h
  go_enter Tryz.func59, Tryz.ntmps59
  go_wp2_with fail
  refine (check_ok (unhide HD) k hk none 0 0 (by omega)).mono ?_
  rintro e w1 ⟨rfl, b1⟩
  have HB1 := hide b1
  have z1 := b1.size
  have HD1 := hide ((unhide HD).grown b1)
  clear b1 HD
  have hF1 : ∀ j, F j → j < w1.heap.size := fun j hj => by have := hF j hj; omega
  go_wp2_with fail
  refine (read_well (unhide HD1) k hk hr (by omega) hF1).mono ?_
  rintro e w2 ⟨a1, n1, c1, a2, n2, c2, rfl, f1, f2, l1, l2, d2, k2⟩
  have hrc : S.rcd k = curS (unl k (S.newest k)) (unl k (S.newest (k + 1))) := rfl
  obtain ⟨s1, hs1⟩ : ∃ s, unl k (S.newest k) = s := ⟨_, rfl⟩
  obtain ⟨s2, hs2⟩ : ∃ s, unl k (S.newest (k + 1)) = s := ⟨_, rfl⟩
  rw [hs1] at l1
  rw [hs2] at l2
  rw [hs1, hs2] at hrc ⊢
  have HD2 := hide d2
  have HK2 := hide k2
  have z2 := k2.size
  have HL := hide (And.intro l1 l2)
  have HFr := hide (And.intro f1 f2)
  clear d2 k2 l1 l2 f1 f2 HD1 hs1 hs2
  obtain ⟨W2, hW2⟩ : ∃ W2, W2 = w2.alloc (.cells (twoC s1 s2 (.slice a1 n1 c1) (.slice a2 n2 c2)) 102) := ⟨_, rfl⟩
  have HBW : Hid (Below w2.heap.size w2 W2) := hide (by rw [hW2]; exact (Below.refl _ _).alloc (Nat.le_refl _) _)
  have HRW : Hid (W2.heap[w2.heap.size]? = some (.cells (twoC s1 s2 (.slice a1 n1 c1) (.slice a2 n2 c2)) 102 (0, 0))) := hide (by rw [hW2]; exact heap_alloc_self _ _)
  have zW : W2.heap.size = w2.heap.size + 1 := by rw [hW2]; simp
  rcases newR_or s1 s2 with h0 | h0
  · have hcu : S.rcd k = s1 := by rw [hrc]; unfold curS; rw [if_neg (by omega)]
    rw [hcu] at hla
    have HLA := hide hla
    have HCU := hide hcu
    clear hrc hla hcu
    go_wp2_with (first | (refine wpList_load_row rfl 102 (.tmp 9) rfl w2.heap.size rfl 102 (twoC s1 s2 (.slice a1 n1 c1) (.slice a2 n2 c2)) (0, 0) _ (by exact heap_alloc_self _ _) Tryz.underlying102 rfl sizeTwo ?_) | fail)
    rw [← hW2]
    clear hW2
    refine (newer_any s1 s2 _ _ _).mono ?_
    rintro e w3 ⟨rfl, b3⟩
    have z3 := b3.size
    have HR3 : Hid (w3.heap[w2.heap.size]? = some (.cells (twoC s1 s2 (.slice a1 n1 c1) (.slice a2 n2 c2)) 102 (0, 0))) := hide ((b3.block _ (by omega)).trans (unhide HRW))
    have HB3 := hide ((unhide HBW).trans (b3.mono (by omega)))
    clear b3
    have q0 : w3.cell? ⟨w2.heap.size, 0, none⟩ = some (.bool s1.laid) := by simp [World.cell?, unhide HR3]
    have q1 : w3.cell? ⟨w2.heap.size, 1, none⟩ = some (.int .u32 (s1.turn : Nat)) := by simp [World.cell?, unhide HR3]
    have q2 : w3.cell? ⟨w2.heap.size, 2, none⟩ = some (.int .i64 s1.count) := by simp [World.cell?, unhide HR3]
    have q3 : w3.cell? ⟨w2.heap.size, 3, none⟩ = some (.slice a1 n1 c1) := by simp [World.cell?, unhide HR3]
    rw [h0]
    rw [unhide HLA] at q0
    obtain ⟨W4, hW4⟩ : ∃ W4, W4 = w3.alloc (.cells #[.bool false, .int .u32 (s1.turn : Nat), .int .i64 s1.count, .slice a1 n1 c1] 101) := ⟨_, rfl⟩
    have HB4 : Hid (Below w2.heap.size w2 W4) := hide (by rw [hW4]; exact (unhide HB3).alloc (by omega) _)
    go_wp2
    (try rw [← hW4])
    go_ret3
    exact ⟨rfl, (unhide HD2).grown (unhide HB4), ((Kept.of_below (unhide HB1)).trans (unhide HK2)).trans (Kept.of_below (unhide HB4))⟩
  · have hcu : S.rcd k = s2 := by rw [hrc]; unfold curS; rw [if_pos h0]
    rw [hcu] at hla
    have HLA := hide hla
    have HCU := hide hcu
    clear hrc hla hcu
    go_wp2_with (first | (refine wpList_load_row rfl 102 (.tmp 9) rfl w2.heap.size rfl 102 (twoC s1 s2 (.slice a1 n1 c1) (.slice a2 n2 c2)) (0, 0) _ (by exact heap_alloc_self _ _) Tryz.underlying102 rfl sizeTwo ?_) | fail)
    rw [← hW2]
    clear hW2
    refine (newer_any s1 s2 _ _ _).mono ?_
    rintro e w3 ⟨rfl, b3⟩
    have z3 := b3.size
    have HR3 : Hid (w3.heap[w2.heap.size]? = some (.cells (twoC s1 s2 (.slice a1 n1 c1) (.slice a2 n2 c2)) 102 (0, 0))) := hide ((b3.block _ (by omega)).trans (unhide HRW))
    have HB3 := hide ((unhide HBW).trans (b3.mono (by omega)))
    clear b3
    have q0 : w3.cell? ⟨w2.heap.size, 4, none⟩ = some (.bool s2.laid) := by simp [World.cell?, unhide HR3]
    have q1 : w3.cell? ⟨w2.heap.size, 5, none⟩ = some (.int .u32 (s2.turn : Nat)) := by simp [World.cell?, unhide HR3]
    have q2 : w3.cell? ⟨w2.heap.size, 6, none⟩ = some (.int .i64 s2.count) := by simp [World.cell?, unhide HR3]
    have q3 : w3.cell? ⟨w2.heap.size, 7, none⟩ = some (.slice a2 n2 c2) := by simp [World.cell?, unhide HR3]
    rw [h0]
    rw [unhide HLA] at q0
    obtain ⟨W4, hW4⟩ : ∃ W4, W4 = w3.alloc (.cells #[.bool false, .int .u32 (s2.turn : Nat), .int .i64 s2.count, .slice a2 n2 c2] 101) := ⟨_, rfl⟩
    have HB4 : Hid (Below w2.heap.size w2 W4) := hide (by rw [hW4]; exact (unhide HB3).alloc (by omega) _)
    go_wp2
    (try rw [← hW4])
    go_ret3
    exact ⟨rfl, (unhide HD2).grown (unhide HB4), ((Kept.of_below (unhide HB1)).trans (unhide HK2)).trans (Kept.of_below (unhide HB4))⟩

set_option maxRecDepth 20000 in
set_option maxHeartbeats 2000000 in
theorem Load_laid {w : World} {b : Nat} {F : Nat → Prop} {N : Nat} {S : St} (h : Dev w b F N S) (hF : ∀ k, F k → k < w.heap.size) (k : Nat) (hk : k + 1 < S.safe.length) (hN : N < 800000) (hr : S.reads) (hla : (S.rcd k).laid = true) :
    Calls Tryz.prog 59 #[.pointer (some ⟨b, 0, none⟩), .int .i64 k] w fun e w' => ∃ a n c, e = .returned (.tuple #[.slice a n c, .int .i64 (S.rcd k).count, .int .i64 0]) ∧ Sl w' (.slice a n c) (S.rcd k).data ∧ (∀ ad, a = some ad → w.heap.size ≤ ad.block) ∧ Dev w' b F (N + 2) S.burn.burn ∧ Kept F w w' := by
  have hs : S.safe.length ≤ 512 := by obtain ⟨g, c, m, vf, D, h0⟩ := h; exact h0.n2
  have HD := hide h
  clear h
  go_enter Tryz.func59, Tryz.ntmps59
  go_wp2_with fail
  refine (check_ok (unhide HD) k hk none 0 0 (by omega)).mono ?_
  rintro e w1 ⟨rfl, b1⟩
  have HB1 := hide b1
  have z1 := b1.size
  have HD1 := hide ((unhide HD).grown b1)
  clear b1 HD
  have hF1 : ∀ j, F j → j < w1.heap.size := fun j hj => by have := hF j hj; omega
  go_wp2_with fail
  refine (read_well (unhide HD1) k hk hr (by omega) hF1).mono ?_
  rintro e w2 ⟨a1, n1, c1, a2, n2, c2, rfl, f1, f2, l1, l2, d2, k2⟩
  have hrc : S.rcd k = curS (unl k (S.newest k)) (unl k (S.newest (k + 1))) := rfl
  obtain ⟨s1, hs1⟩ : ∃ s, unl k (S.newest k) = s := ⟨_, rfl⟩
  obtain ⟨s2, hs2⟩ : ∃ s, unl k (S.newest (k + 1)) = s := ⟨_, rfl⟩
  rw [hs1] at l1
  rw [hs2] at l2
  rw [hs1, hs2] at hrc ⊢
  have HD2 := hide d2
  have HK2 := hide k2
  have z2 := k2.size
  have HL := hide (And.intro l1 l2)
  have HFr := hide (And.intro f1 f2)
  clear d2 k2 l1 l2 f1 f2 HD1 hs1 hs2
  obtain ⟨W2, hW2⟩ : ∃ W2, W2 = w2.alloc (.cells (twoC s1 s2 (.slice a1 n1 c1) (.slice a2 n2 c2)) 102) := ⟨_, rfl⟩
  have HBW : Hid (Below w2.heap.size w2 W2) := hide (by rw [hW2]; exact (Below.refl _ _).alloc (Nat.le_refl _) _)
  have HRW : Hid (W2.heap[w2.heap.size]? = some (.cells (twoC s1 s2 (.slice a1 n1 c1) (.slice a2 n2 c2)) 102 (0, 0))) := hide (by rw [hW2]; exact heap_alloc_self _ _)
  have zW : W2.heap.size = w2.heap.size + 1 := by rw [hW2]; simp
  rcases newR_or s1 s2 with h0 | h0
  · have hcu : S.rcd k = s1 := by rw [hrc]; unfold curS; rw [if_neg (by omega)]
    rw [hcu] at hla
    have HLA := hide hla
    have HCU := hide hcu
    clear hrc hla hcu
    go_wp2_with (first | (refine wpList_load_row rfl 102 (.tmp 9) rfl w2.heap.size rfl 102 (twoC s1 s2 (.slice a1 n1 c1) (.slice a2 n2 c2)) (0, 0) _ (by exact heap_alloc_self _ _) Tryz.underlying102 rfl sizeTwo ?_) | fail)
    rw [← hW2]
    clear hW2
    refine (newer_any s1 s2 _ _ _).mono ?_
    rintro e w3 ⟨rfl, b3⟩
    have z3 := b3.size
    have HR3 : Hid (w3.heap[w2.heap.size]? = some (.cells (twoC s1 s2 (.slice a1 n1 c1) (.slice a2 n2 c2)) 102 (0, 0))) := hide ((b3.block _ (by omega)).trans (unhide HRW))
    have HB3 := hide ((unhide HBW).trans (b3.mono (by omega)))
    clear b3
    have q0 : w3.cell? ⟨w2.heap.size, 0, none⟩ = some (.bool s1.laid) := by simp [World.cell?, unhide HR3]
    have q1 : w3.cell? ⟨w2.heap.size, 1, none⟩ = some (.int .u32 (s1.turn : Nat)) := by simp [World.cell?, unhide HR3]
    have q2 : w3.cell? ⟨w2.heap.size, 2, none⟩ = some (.int .i64 s1.count) := by simp [World.cell?, unhide HR3]
    have q3 : w3.cell? ⟨w2.heap.size, 3, none⟩ = some (.slice a1 n1 c1) := by simp [World.cell?, unhide HR3]
    rw [h0]
    rw [unhide HLA] at q0
    obtain ⟨W4, hW4⟩ : ∃ W4, W4 = w3.alloc (.cells #[.bool true, .int .u32 (s1.turn : Nat), .int .i64 s1.count, .slice a1 n1 c1] 101) := ⟨_, rfl⟩
    have HB4 : Hid (Below w2.heap.size w2 W4) := hide (by rw [hW4]; exact (unhide HB3).alloc (by omega) _)
    have r2 : W4.cell? ⟨w3.heap.size, 2, none⟩ = some (.int .i64 s1.count) := by rw [hW4]; simp
    have r3 : W4.cell? ⟨w3.heap.size, 3, none⟩ = some (.slice a1 n1 c1) := by rw [hW4]; simp
    go_wp2
    rw [← hW4]
    clear hW4
    go_quiet (fail)
    go_wp2
    go_ret3
    refine ⟨a1, n1, c1, by rw [unhide HCU]; rfl, ?_, fun ad h => by have := (unhide HFr).1 ad h; omega, (unhide HD2).grown (below_drewN (unhide HB4) _), ((Kept.of_below (unhide HB1)).trans (unhide HK2)).trans (Kept.of_below (below_drewN (unhide HB4) _))⟩
    rw [unhide HCU]
    exact (unhide HL).1.below (below_drewN (unhide HB4) _) (Nat.le_refl _)
  · have hcu : S.rcd k = s2 := by rw [hrc]; unfold curS; rw [if_pos h0]
    rw [hcu] at hla
    have HLA := hide hla
    have HCU := hide hcu
    clear hrc hla hcu
    go_wp2_with (first | (refine wpList_load_row rfl 102 (.tmp 9) rfl w2.heap.size rfl 102 (twoC s1 s2 (.slice a1 n1 c1) (.slice a2 n2 c2)) (0, 0) _ (by exact heap_alloc_self _ _) Tryz.underlying102 rfl sizeTwo ?_) | fail)
    rw [← hW2]
    clear hW2
    refine (newer_any s1 s2 _ _ _).mono ?_
    rintro e w3 ⟨rfl, b3⟩
    have z3 := b3.size
    have HR3 : Hid (w3.heap[w2.heap.size]? = some (.cells (twoC s1 s2 (.slice a1 n1 c1) (.slice a2 n2 c2)) 102 (0, 0))) := hide ((b3.block _ (by omega)).trans (unhide HRW))
    have HB3 := hide ((unhide HBW).trans (b3.mono (by omega)))
    clear b3
    have q0 : w3.cell? ⟨w2.heap.size, 4, none⟩ = some (.bool s2.laid) := by simp [World.cell?, unhide HR3]
    have q1 : w3.cell? ⟨w2.heap.size, 5, none⟩ = some (.int .u32 (s2.turn : Nat)) := by simp [World.cell?, unhide HR3]
    have q2 : w3.cell? ⟨w2.heap.size, 6, none⟩ = some (.int .i64 s2.count) := by simp [World.cell?, unhide HR3]
    have q3 : w3.cell? ⟨w2.heap.size, 7, none⟩ = some (.slice a2 n2 c2) := by simp [World.cell?, unhide HR3]
    rw [h0]
    rw [unhide HLA] at q0
    obtain ⟨W4, hW4⟩ : ∃ W4, W4 = w3.alloc (.cells #[.bool true, .int .u32 (s2.turn : Nat), .int .i64 s2.count, .slice a2 n2 c2] 101) := ⟨_, rfl⟩
    have HB4 : Hid (Below w2.heap.size w2 W4) := hide (by rw [hW4]; exact (unhide HB3).alloc (by omega) _)
    have r2 : W4.cell? ⟨w3.heap.size, 2, none⟩ = some (.int .i64 s2.count) := by rw [hW4]; simp
    have r3 : W4.cell? ⟨w3.heap.size, 3, none⟩ = some (.slice a2 n2 c2) := by rw [hW4]; simp
    go_wp2
    rw [← hW4]
    clear hW4
    go_quiet (fail)
    go_wp2
    go_ret3
    refine ⟨a2, n2, c2, by rw [unhide HCU]; rfl, ?_, fun ad h => by have := (unhide HFr).2 ad h; omega, (unhide HD2).grown (below_drewN (unhide HB4) _), ((Kept.of_below (unhide HB1)).trans (unhide HK2)).trans (Kept.of_below (below_drewN (unhide HB4) _))⟩
    rw [unhide HCU]
    exact (unhide HL).2.below (below_drewN (unhide HB4) _) (Nat.le_refl _)
end Go.Proofs.YtfnhhjpebilacaaGreat

/-
  DERIVED. Writes, flushes and stores on a device in memory, whether it is up or not: over what they come to.
-/
namespace Go.Proofs.YtfnhhjpebilacaaGreat
open Go.RowKit
set_option linter.unusedVariables false

/-- The device behind something that was done to it: what it has now, and that nothing else has turned. -/
def Went (w w' : World) (b base : Nat) (F : Nat → Prop) (M : Nat) (T : St) : Prop :=
  Kept F w w' ∧ ∃ F', (∀ j, F' j → base ≤ j ∧ j < w'.heap.size) ∧ (∀ j, F' j → F j ∨ w.heap.size ≤ j) ∧ Dev w' b F' M T
/-- The device ahead of it. -/
structure DevB (w : World) (b base : Nat) (F : Nat → Prop) (N : Nat) (S : St) : Prop where
  dev : Dev w b F N S
  foot : ∀ j, F j → base ≤ j ∧ j < w.heap.size
  bs : base ≤ w.heap.size
theorem DevB.grown {w w' : World} {b base : Nat} {F : Nat → Prop} {N : Nat} {S : St} (h : DevB w b base F N S) (hb : Below w.heap.size w w') : DevB w' b base F N S :=
  ⟨h.dev.grown hb, fun j hj => by have := h.foot j hj; have := hb.size; omega, Nat.le_trans h.bs hb.size⟩
theorem DevB.mono {w : World} {b base : Nat} {F : Nat → Prop} {N M : Nat} {S : St} (h : DevB w b base F N S) (hN : N ≤ M) : DevB w b base F M S := ⟨h.dev.mono (fun _ h => h) hN, h.foot, h.bs⟩
theorem DevB.frame {w w' : World} {b base : Nat} {F : Nat → Prop} {N : Nat} {S : St} (h : DevB w b base F N S) (hs : w.heap.size ≤ w'.heap.size) (hk : ∀ k, F k → k < w.heap.size → w'.heap[k]? = w.heap[k]?) : DevB w' b base F N S :=
  ⟨h.dev.frame hk, fun j hj => by have := h.foot j hj; omega, Nat.le_trans h.bs hs⟩
theorem DevB.went {w : World} {b base : Nat} {F : Nat → Prop} {N M : Nat} {S : St} (h : DevB w b base F N S) (hN : N ≤ M) : Went w w b base F M S := ⟨Kept.refl F w, F, h.foot, fun j hj => .inl hj, h.dev.mono (fun _ h => h) hN⟩
/-- Something that is done behind it. -/
theorem Went.andThen {w w1 w2 : World} {b base : Nat} {F : Nat → Prop} {M M2 : Nat} {T T2 : St} (h : Went w w1 b base F M T) (hbs : base ≤ w1.heap.size)
    (k : ∀ F', DevB w1 b base F' M T → (∀ j, F' j → F j ∨ w.heap.size ≤ j) → Went w1 w2 b base F' M2 T2) : Went w w2 b base F M2 T2 := by
  obtain ⟨h1, F', f1, f2, f3⟩ := h
  obtain ⟨k1, G, g1, g2, g3⟩ := k F' ⟨f3, f1, hbs⟩ f2
  refine ⟨h1.trans' k1 (fun j hj hf => (f2 j hf).elim id fun h => absurd hj (by omega)), G, g1, fun j hj => ?_, g3⟩
  rcases g2 j hj with h | h
  · exact f2 j h
  · exact .inr (by have := h1.size; omega)
theorem Went.below {w w1 w2 : World} {b base : Nat} {F : Nat → Prop} {M : Nat} {T : St} (h : Went w w1 b base F M T) (hb : Below w1.heap.size w1 w2) : Went w w2 b base F M T := by
  obtain ⟨h1, F', f1, f2, f3⟩ := h
  exact ⟨h1.trans (Kept.of_below hb), F', fun j hj => by have := f1 j hj; have := hb.size; omega, f2, f3.grown hb⟩
theorem Went.mono {w w1 : World} {b base : Nat} {F : Nat → Prop} {M N : Nat} {T : St} (h : Went w w1 b base F M T) (hN : M ≤ N) : Went w w1 b base F N T := by
  obtain ⟨h1, F', f1, f2, f3⟩ := h
  exact ⟨h1, F', f1, f2, f3.mono (fun _ h => h) hN⟩
/-- What was done ahead in memory of its own. -/
theorem Went.ahead {w w0 w1 : World} {b base : Nat} {F : Nat → Prop} {M : Nat} {T : St} (hb : Below w.heap.size w w0) (h : Went w0 w1 b base F M T) : Went w w1 b base F M T := by
  obtain ⟨h1, F', f1, f2, f3⟩ := h
  refine ⟨(Kept.of_below hb).trans h1, F', f1, fun j hj => ?_, f3⟩
  rcases f2 j hj with h | h
  · exact .inl h
  · exact .inr (by have := hb.size; omega)
theorem Went.size {w w1 : World} {b base : Nat} {F : Nat → Prop} {M : Nat} {T : St} (h : Went w w1 b base F M T) : w.heap.size ≤ w1.heap.size := h.1.size
/-- A block of memory that is not the device's stays. -/
theorem Went.block {w w1 : World} {b base : Nat} {F : Nat → Prop} {M : Nat} {T : St} (h : Went w w1 b base F M T) (q : Nat) (hq : q < w.heap.size) (hF : ¬ F q) : w1.heap[q]? = w.heap[q]? := h.1.block q hq hF

theorem down2 (S : St) (n : Int) (h : S.down = true) : openE S.safe.length S.down n = 2 := by unfold openE; rw [if_pos h]

theorem Write_all {w : World} {b base : Nat} {F : Nat → Prop} {N : Nat} {S : St} (h : DevB w b base F N S) (k : Nat) (L : List UInt8) (a : Option Addr) (c : Nat) (hk : k < S.safe.length) (hv : Sl w (.slice a 512 c) L) (hL : L.length = 512) (hN : N < 900000) :
    Calls Tryz.prog 28 #[.pointer (some ⟨b, 0, none⟩), .int .i64 k, .slice a 512 c] w fun e w' => e = .returned (.int .i64 (S.wr (k, L)).1) ∧ Went w w' b base F (N + 2) (S.wr (k, L)).2 := by
  unfold St.wr
  by_cases hd : S.down = true
  · rw [if_pos hd]
    have h2 := down2 S k hd
    obtain ⟨g, c', m, vf, D, h0⟩ := h.dev
    refine (Write_closed k _ h0.dev (by rw [h2]; decide)).mono ?_
    rintro e w' ⟨rfl, rfl⟩
    exact ⟨by rw [h2], h.went (by omega)⟩
  · have hd' : S.down = false := by simpa using hd
    rw [if_neg hd]
    by_cases hw : S.well
    · rw [if_pos hw]
      refine (Write_own h.dev h.foot h.bs k L _ hk hd' hw hv hL (by omega)).mono ?_
      rintro e w' ⟨rfl, ⟨F', f1, f2, f3⟩, k1⟩
      exact ⟨rfl, k1, F', f1, f2, f3⟩
    · rw [if_neg hw]
      refine (Write_dev_burnt h.dev k a c hk hd' hw (by omega)).mono ?_
      rintro e w' ⟨rfl, d1, k1⟩
      exact ⟨rfl, k1, F, fun j hj => by have := h.foot j hj; have := k1.size; omega, fun j hj => .inl hj, d1.mono (fun _ h => h) (by omega)⟩
theorem Flush_all {w : World} {b base : Nat} {F : Nat → Prop} {N : Nat} {S : St} (h : DevB w b base F N S) (hN : N < 900000) :
    Calls Tryz.prog 45 #[.pointer (some ⟨b, 0, none⟩)] w fun e w' => e = .returned (.int .i64 (S.fl).1) ∧ Went w w' b base F (N + 2) (S.fl).2 := by
  unfold St.fl
  by_cases hd : S.down = true
  · rw [if_pos hd]
    obtain ⟨g, c', m, vf, D, h0⟩ := h.dev
    have h1 := h0.dev
    rw [hd] at h1
    refine (Flush_down h1).mono ?_
    rintro e w' ⟨rfl, rfl⟩
    exact ⟨rfl, h.went (by omega)⟩
  · have hd' : S.down = false := by simpa using hd
    rw [if_neg hd]
    by_cases hw : S.well
    · rw [if_pos hw]
      refine (Flush_dev h.dev hd' hw (by omega)).mono ?_
      rintro e w' ⟨rfl, d1, k1⟩
      exact ⟨rfl, k1, F, fun j hj => by have := h.foot j hj; have := k1.size; omega, fun j hj => .inl hj, d1.mono (fun _ h => h) (by omega)⟩
    · rw [if_neg hw]
      refine (Flush_dev_burnt h.dev hd' hw (by omega)).mono ?_
      rintro e w' ⟨rfl, d1, k1⟩
      exact ⟨rfl, k1, F, fun j hj => by have := h.foot j hj; have := k1.size; omega, fun j hj => .inl hj, d1.mono (fun _ h => h) (by omega)⟩
theorem Read_all {w : World} {b base : Nat} {F : Nat → Prop} {N : Nat} {S : St} (h : DevB w b base F N S) (k : Nat) (hk : k < S.safe.length) (hN : N < 900000) :
    Calls Tryz.prog 25 #[.pointer (some ⟨b, 0, none⟩), .int .i64 k] w fun e w' => Went w w' b base F (N + 2) (S.rd1).2 ∧
      (((S.rd1).1 = 0 ∧ ∃ q, e = .returned (.tuple #[.slice (some ⟨q, 0, none⟩) 512 512, .int .i64 0]) ∧ w.heap.size ≤ q ∧ w'.heap[q]? = some (.cells ((S.newest k).map bv).toArray 84 (0, 0))) ∨
       ((S.rd1).1 = 2 ∧ e = .returned (.tuple #[.slice none 0 0, .int .i64 2]))) := by
  unfold St.rd1
  by_cases hd : S.down = true
  · rw [if_pos hd]
    have h2 := down2 S k hd
    refine (Read_dev_shut h.dev k (by rw [h2]; decide)).mono ?_
    rintro e w' ⟨rfl, rfl⟩
    exact ⟨h.went (by omega), .inr ⟨rfl, by rw [h2]⟩⟩
  · have hd' : S.down = false := by simpa using hd
    rw [if_neg hd]
    by_cases hw : S.well
    · rw [if_pos hw]
      refine (Read_dev h.dev k hk hd' hw (by omega)).mono ?_
      rintro e w' ⟨q, rfl, hq, hg, d1, k1⟩
      exact ⟨⟨k1, F, fun j hj => by have := h.foot j hj; have := k1.size; omega, fun j hj => .inl hj, d1.mono (fun _ h => h) (by omega)⟩, .inl ⟨rfl, q, rfl, hq, hg⟩⟩
    · rw [if_neg hw]
      refine (Read_dev_burnt h.dev k hk hd' hw (by omega)).mono ?_
      rintro e w' ⟨rfl, d1, k1⟩
      exact ⟨⟨k1, F, fun j hj => by have := h.foot j hj; have := k1.size; omega, fun j hj => .inl hj, d1.mono (fun _ h => h) (by omega)⟩, .inr ⟨rfl, rfl⟩⟩
theorem Store_all {w : World} {b base : Nat} {F : Nat → Prop} {N : Nat} {S : St} (h : DevB w b base F N S) (k : Nat) (hk : k + 1 < S.safe.length) (hN : N < 800000) (a : Option Addr) (n c : Nat) (d : List UInt8) (hv : Sl w (.slice a n c) d) (hva : c ≠ 0 → ∀ ad, a = some ad → ¬ F ad.block) (hl : d.length ≤ 400) (hn : n = d.length) (hc : (S.rcd k).count < 9223372036854775807) :
    Calls Tryz.prog 47 #[.pointer (some ⟨b, 0, none⟩), .int .i64 k, .slice a n c] w fun e w' => e = .returned (.int .i64 (S.store k d).1) ∧ Went w w' b base F (N + 6) (S.store k d).2 := by
  refine (Store_dev h.dev h.foot h.bs k hk hN a n c d hv hva hl hn hc).mono ?_
  rintro e w' ⟨rfl, ⟨F', f1, f2, f3⟩, k1⟩
  exact ⟨rfl, k1, F', f1, f2, f3⟩
theorem Format_all {w : World} {b base : Nat} {F : Nat → Prop} {N : Nat} {S : St} (h : DevB w b base F N S) (k : Nat) (hk : k + 1 < S.safe.length) (hN : N < 800000) (a : Option Addr) (n c : Nat) (d : List UInt8) (hv : Sl w (.slice a n c) d) (hva : c ≠ 0 → ∀ ad, a = some ad → ¬ F ad.block) (hl : d.length ≤ 400) (hn : n = d.length) :
    Calls Tryz.prog 43 #[.pointer (some ⟨b, 0, none⟩), .int .i64 k, .slice a n c] w fun e w' => e = .returned (.int .i64 (S.format k d).1) ∧ Went w w' b base F (N + 6) (S.format k d).2 := by
  refine (Format_dev h.dev h.foot h.bs k hk hN a n c d hv hva hl hn).mono ?_
  rintro e w' ⟨rfl, ⟨F', f1, f2, f3⟩, k1⟩
  exact ⟨rfl, k1, F', f1, f2, f3⟩
end Go.Proofs.YtfnhhjpebilacaaGreat

/-
  DERIVED. chain, and the closure that it makes.
-/
namespace Go.Proofs.YtfnhhjpebilacaaGreat
open Go.RowKit
set_option linter.unusedVariables false

theorem enters_ok {f : FuncId} {fn : Func} {c : Code} (hf : Tryz.prog.funcs[f]? = some fn) (hname : (fn.name == "runtime.NumGoroutine") = false) (hb : fn.body = some c) (args : Array Value) (w : World) : (callFunc f args).run Tryz.prog w = .ok (.enter f args) w := by
  have h1 : fn.name ≠ "runtime.NumGoroutine" := by simpa using hname
  simp [callFunc, hf, h1, hb]
/-- The world in which a chain is made: its error, boxed. -/
theorem chain_any (w : World) : Calls Tryz.prog 30 #[] w fun e w' => e = .returned (.func (.func 52) #[] #[.pointer (some ⟨w.heap.size, 0, none⟩)]) ∧ w' = w.alloc (.cells #[.int .i64 0] 35) := by
  go_enter Tryz.func30, Tryz.ntmps30
  go_wp2
  go_ret
  exact ⟨rfl, rfl⟩

/-- Behind an error nothing is done. -/
theorem then_no (w : World) (eb : Nat) (x : Int) (step : Value) (hx : x ≠ 0) (h : w.cell? ⟨eb, 0, none⟩ = some (.int .i64 x)) :
    Calls Tryz.prog 52 #[step, .pointer (some ⟨eb, 0, none⟩)] w fun e w' => e = .returned (.int .i64 x) ∧ w' = w := by
  have hx0 : (x == 0) = false := beq_eq_false_iff_ne.2 hx
  go_enter Tryz.func52, Tryz.ntmps52
  go_wp2
  go_ret
  exact ⟨rfl, rfl⟩

/-- A step is done, and its error kept. -/
theorem then_do (w : World) (eb fc : Nat) (bs cs : Array Value) (P : Int → World → Prop) (h : w.cell? ⟨eb, 0, none⟩ = some (.int .i64 0))
    (eg : ∀ args W, (callFunc fc args).run Tryz.prog W = .ok (.enter fc args) W)
    (hs : Calls Tryz.prog fc (bs ++ cs) w fun e w' => ∃ x, e = .returned (.int .i64 x) ∧ P x w' ∧ w'.cell? ⟨eb, 0, none⟩ = some (.int .i64 0) ∧ w'.frozen? ⟨eb, 0, none⟩ = false) :
    Calls Tryz.prog 52 #[.func (.func fc) bs cs, .pointer (some ⟨eb, 0, none⟩)] w fun e w' => ∃ x w1, e = .returned (.int .i64 x) ∧ P x w1 ∧ w' = w1.setCell ⟨eb, 0, none⟩ (.int .i64 x) := by
  have HS := hide hs
  clear hs
  go_enter Tryz.func52, Tryz.ntmps52
  go_wp2_with fail
  refine (unhide HS).mono ?_
  rintro e w1 ⟨x, rfl, hp, c1, f1⟩
  have HP := hide hp
  clear hp
  go_wp2
  go_ret
  exact ⟨x, w1, rfl, unhide HP, rfl⟩

end Go.Proofs.YtfnhhjpebilacaaGreat

/-
  DERIVED. Parts in memory; record.
-/
namespace Go.Proofs.YtfnhhjpebilacaaGreat
open Go.RowKit
set_option linter.unusedVariables false

/-- A part's cells: its block, its 512 bytes. -/
def ptC (p : Nat × List UInt8) : List Value := .int .i64 (p.1 : Int) :: p.2.map bv
theorem ptC_len {p : Nat × List UInt8} (h : p.2.length = 512) : (ptC p).length = 513 := by simp [ptC, h]
theorem ptC_one (p : Nat × List UInt8) : ∀ v ∈ ptC p, v.oneCell' = true := by
  intro v hv
  rcases List.mem_cons.1 hv with rfl | hv
  · rfl
  · obtain ⟨c, _, rfl⟩ := List.mem_map.1 hv
    rfl
/-- A slice of parts that reads as these. -/
def Pts (w : World) (v : Value) (ps : List (Nat × List UInt8)) : Prop :=
  ∃ ao cap, v = .slice ao ps.length cap ∧ ps.length ≤ 16 ∧ ps.length ≤ cap ∧ cap ≤ 9223372036854775807 ∧ (∀ p ∈ ps, p.2.length = 512 ∧ p.1 ≤ 512) ∧
    (ps.length ≠ 0 → ∃ g, ao = some ⟨g, 0, none⟩ ∧ g < w.heap.size ∧ ∀ i, (h : i < ps.length) → w.rangeAt g (i * 513) (ptC ps[i]))
theorem Pts.nil (w : World) : Pts w (.slice none 0 0) [] := ⟨none, 0, rfl, by simp, by simp, by omega, by simp, fun h => absurd rfl h⟩
theorem Pts.kept {w w' : World} {v : Value} {ps : List (Nat × List UInt8)} (h : Pts w v ps) (hg : Below w.heap.size w w') : Pts w' v ps := by
  obtain ⟨ao, cap, e, h1, h2, h3, h4, h5⟩ := h
  refine ⟨ao, cap, e, h1, h2, h3, h4, fun hn => ?_⟩
  obtain ⟨g, e2, hb, hc⟩ := h5 hn
  exact ⟨g, e2, Nat.lt_of_lt_of_le hb hg.size, fun i hi j u hj => (World.cell?_of_block (hg.block g hb)).trans (hc i hi j u hj)⟩
def zeroPart : Array Value := (Value.int .i64 0 :: List.replicate 512 (Value.int .u8 0)).toArray
theorem size_zeroPart : zeroPart.size = 513 := by kernel_rfl
theorem sizePart : (Tryz.prog.info? 78).map (·.size) = some 513 := by kernel_rfl
theorem run_alloc_part (w : World) : (Instr.alloc 78 true (.tuple #[])).run Tryz.prog w = .ok (.pointer (some ⟨w.heap.size, 0, none⟩)) (w.alloc (.cells zeroPart 78)) := by kernel_rfl
theorem wpList_alloc_part {ops : Array Oper} {rest : List Oper} {o : Oper} {a : Act} {w : World} {Q : Exit → Act → World → Prop} (hgd : o.guard = none)
    (ho : o.op = .alloc 78) (h : wpList Tryz.prog ops Q rest (a.put o.dst (.pointer (some ⟨w.heap.size, 0, none⟩))) (w.alloc (.cells zeroPart 78))) : wpList Tryz.prog ops Q (o :: rest) a w := by
  refine wpList_plain hgd fun K hK => ?_
  unfold Oper.wp execOp
  simp only [ho, Sem.run_bind, Sem.run_pure, run_alloc_part, Result.andThen_ok]
  exact hK _ _ h
theorem Own.lowJ {w : World} {base b2 : Nat} {v : Value} {l : List UInt8} (h : Own w base v l) (hb : b2 ≤ base) : Own w b2 v l := by
  obtain ⟨h1, h2⟩ := h
  refine ⟨h1, ?_⟩
  rcases h2 with h | ⟨g, cap, cur, a, b, c⟩
  · exact .inl h
  · exact .inr ⟨g, cap, cur, a, by omega, c⟩
/-- A record's bytes up to so many blocks. -/
def recP (c : Nat) (ns : List Nat) : List UInt8 := (layT markB ++ lay (zig (c : Int))) ++ ns.flatMap fun (n : Nat) => lay (zig (n : Int))
theorem recP_full (ns : List Nat) : recP ns.length ns = recB ns := by simp [recP, recB]
theorem recP_snoc (c : Nat) (ns : List Nat) (n : Nat) : recP c (ns ++ [n]) = recP c ns ++ lay (zig (n : Int)) := by simp [recP]
theorem recP_len (c : Nat) : ∀ ns : List Nat, ns.length ≤ 16 → (recP c ns).length ≤ 1000 := by
  intro ns h
  have h1 : ∀ ns : List Nat, (ns.flatMap fun (n : Nat) => lay (zig (n : Int))).length ≤ ns.length * 10 := by
    intro ns
    induction ns with
    | nil => simp
    | cons n ns ih =>
      rw [List.flatMap_cons, List.length_append, List.length_cons]
      have := lay_len (zig (n : Int))
      omega
  have h2 := h1 ns
  have h3 := lay_len (zig (c : Int))
  have h4 : (layT markB).length ≤ 20 := by
    have := lay_len markB.length
    unfold layT
    rw [List.length_append]
    simp only [markB, List.length_cons, List.length_nil] at this ⊢
    omega
  unfold recP
  rw [List.length_append, List.length_append]
  omega

set_option maxHeartbeats 4000000 in
set_option maxRecDepth 20000 in
theorem record_any (w : World) (v : Value) (ps : List (Nat × List UInt8)) (hv : Pts w v ps) :
    Calls Tryz.prog 48 #[v] w fun e w' => ∃ v', e = .returned v' ∧ Own w' w.heap.size v' (recB (ps.map (·.1))) ∧ Below w.heap.size w w' := by
  have HV := hide hv
  obtain ⟨ao, cap, hve, h16, hcap, hcm, hps, _⟩ := hv
  obtain ⟨c, hc⟩ : ∃ c, c = ps.length := ⟨_, rfl⟩
  have HC := hide hc
  rw [← hc] at hve h16 hcap
  have HP := hide hps
  have hcI : (c : Int) ≤ 16 := by omega
  subst hve
  clear hps hc
  have PT := hide (PutText_any (.slice none 0 0) [] markB w ⟨none, 0, rfl, by simp, by simp [maxLen], fun h => absurd rfl h⟩ (by simp [markB]))
  go_enter Tryz.func48, Tryz.ntmps48
  go_wp2_with fail
  refine (unhide PT).mono ?_
  rintro e w1 ⟨v1, rfl, o1, b1⟩
  have O1 := hide o1
  have B1 := hide b1
  clear o1 b1
  go_wp2_with fail
  refine (PutInt_any v1 _ (c : Int) w1 (Own.sl (unhide O1)) (by omega) (by omega) (by simp [layT, markB]; have := lay_len 3; omega)).mono ?_
  rintro e w2 ⟨v2, rfl, o2, b2⟩
  have O2 : Hid (Own w2 w.heap.size v2 (recP c [])) := hide (by
    have h := Own.lowJ o2 (unhide B1).size
    simpa [recP] using h)
  have B2 : Hid (Below w.heap.size w w2) := hide ((unhide B1).trans (b2.mono (unhide B1).size))
  clear o2 b2 O1 B1
  go_wp2
  go_loopw [3, 13] (fun b i wr => ∃ j : Nat, i = .int .i64 (j : Int) ∧ j ≤ c ∧ Hid (Own wr w.heap.size b (recP c ((ps.take j).map (·.1)))) ∧ Hid (Below w.heap.size w wr)) (fun _ i _ => c - (intOf i).toNat)
  case atStart => exact ⟨0, rfl, by omega, by simpa using O2, B2⟩
  case round =>
    obtain ⟨j, rfl, hj, HO, HB⟩ := hrel
    clear O2 B2
    by_cases hlt : j < c
    · have hlt' : (j : Int) < (c : Int) := by omega
      have hjp : j < ps.length := by rw [← unhide HC]; exact hlt
      obtain ⟨ao', cap', e, _, _, _, _, h5⟩ := (unhide HV).kept (unhide HB)
      rw [← unhide HC] at e
      injection e with e1 e2 e3
      clear e2 e3
      subst e1
      obtain ⟨g, e, hgl, hrg⟩ := h5 (by omega)
      subst e
      have hr := hrg j hjp
      obtain ⟨hp5, hpb⟩ := unhide HP _ (List.getElem_mem hjp)
      have HN : Hid (recP c ((ps.take (j + 1)).map (·.1)) = recP c ((ps.take j).map (·.1)) ++ lay (zig ((ps[j].1 : Nat) : Int))) := hide (by
        rw [List.take_succ_eq_append_getElem hjp, List.map_append, List.map_cons, List.map_nil, recP_snoc])
      obtain ⟨p, hp⟩ : ∃ p, p = ps[j] := ⟨_, rfl⟩
      rw [← hp] at hr hp5 hpb HN
      have hcl := ptC_len hp5
      have HR := hide (World.rangeAt_alloc hr (.cells zeroPart 78))
      have HR0 := hide hr
      have H0 := hide (heap_alloc_new wr (.cells zeroPart 78))
      have HSz : Hid ((ptC p).toArray.size = 513) := hide (by simpa using hcl)
      have HSl : Hid (List.length (ptC p) = 513) := hide hcl
      have HLn : Hid ((recP c ((ps.take j).map (·.1))).length + 10 ≤ 140737488355328) := hide (by
        have := recP_len c ((ps.take j).map (·.1)) (by rw [List.length_map, List.length_take]; omega)
        omega)
      have cbx : (wr.alloc (.cells (ptC p).toArray 78)).cell? ⟨wr.heap.size, 0, none⟩ = some (.int .i64 (p.1 : Int)) := (cell_of_row _ _ _ _ _ _ (heap_alloc_new _ _)).trans rfl
      have HB2 : Hid (Below w.heap.size w (wr.alloc (.cells (ptC p).toArray 78))) := hide ((unhide HB).alloc (unhide HB).size _)
      have HO2 : Hid (Own (wr.alloc (.cells (ptC p).toArray 78)) w.heap.size u3 (recP c ((ps.take j).map (·.1)))) := hide (World.ownsRow.alloc (unhide HO) _)
      have hpI : (p.1 : Int) ≤ 512 := by omega
      have hsr := World.setRow_alloc_new wr zeroPart (ptC p).toArray 78
      clear hr hp hcl hp5 hpb hrg h5
      go_wp2_with (first | (refine wpList_alloc_part rfl rfl ?_) | (refine wpList_load_mid rfl 78 (.tmp 15) rfl g (j * 513) rfl (ptC p) _ (unhide HR0) Tryz.underlying78 rfl (by rw [unhide HSl]; exact sizePart) ?_) | (refine wpList_store_row rfl 78 (.tmp 5) (.tmp 16) rfl wr.heap.size (ptC p).toArray rfl rfl 78 zeroPart (unhide H0) (by rw [unhide HSz]; exact sizePart) (by rw [unhide HSz, size_zeroPart]) (all_oneCell_toArray (ptC_one p)) ?_) | fail)
      refine (PutInt_any u3 _ (p.1 : Int) _ (Own.sl (unhide HO2)) (by omega) (by omega) (unhide HLn)).mono ?_
      rintro e w5 ⟨v5, rfl, o5, b5⟩
      have O5 : Hid (Own w5 w.heap.size v5 (recP c ((ps.take (j + 1)).map (·.1)))) := hide (by
        rw [unhide HN]
        exact Own.lowJ o5 (unhide HB2).size)
      have B5 : Hid (Below w.heap.size w w5) := hide ((unhide HB2).trans (b5.mono (unhide HB2).size))
      clear o5 b5 HO HB HO2 HB2 cbx hsr HR HR0 H0
      go_wp2
      go_roundw
      case rel => exact ⟨j + 1, by go_num, by omega, O5, B5⟩
      case measure => simp [intOf]; omega
    · have hlt' : ¬ (j : Int) < (c : Int) := by omega
      have hjc : j = c := by omega
      have hO := unhide HO
      rw [hjc, unhide HC, List.take_length] at hO
      rw [show ps.length = (ps.map (·.1)).length by simp, recP_full] at hO
      have HO2 := hide hO
      clear hO hjc hlt hj
      go_wp2
      go_ret
      exact ⟨_, rfl, unhide HO2, unhide HB⟩
end Go.Proofs.YtfnhhjpebilacaaGreat

/-
  DERIVED. A chain of steps on a device: where it stands, and one step more.
-/
namespace Go.Proofs.YtfnhhjpebilacaaGreat
open Go.RowKit
set_option linter.unusedVariables false

/-- A chain, made in w3, and the device: the error that is kept, and what the device has come to. -/
structure Chn (w3 wr : World) (b base eb : Nat) (F : Nat → Prop) (M : Nat) (p : Int × St) : Prop where
  kept : Kept (fun j => F j ∨ j = eb) w3 wr
  dev : ∃ F', (∀ j, F' j → base ≤ j ∧ j < wr.heap.size) ∧ (∀ j, F' j → F j ∨ w3.heap.size ≤ j) ∧ Dev wr b F' M p.2
  e : wr.heap[eb]? = some (.cells #[.int .i64 p.1] 35 (0, 0))
theorem Chn.start {w3 : World} {b base eb : Nat} {F : Nat → Prop} {N : Nat} {S : St} (h : DevB w3 b base F N S) (he : w3.heap[eb]? = some (.cells #[.int .i64 0] 35 (0, 0))) : Chn w3 w3 b base eb F N (0, S) :=
  ⟨Kept.refl _ _, ⟨F, h.foot, fun j hj => .inl hj, h.dev⟩, he⟩
theorem Chn.grown {w3 wr w' : World} {b base eb : Nat} {F : Nat → Prop} {M : Nat} {p : Int × St} (h : Chn w3 wr b base eb F M p) (hb : Below wr.heap.size wr w') (he : eb < w3.heap.size) : Chn w3 w' b base eb F M p := by
  obtain ⟨k1, ⟨F', f1, f2, f3⟩, e⟩ := h
  have := k1.size
  exact ⟨k1.trans (Kept.of_below hb), ⟨F', fun j hj => by have := f1 j hj; have := hb.size; omega, f2, f3.grown hb⟩, (hb.block eb (by omega)).trans e⟩
theorem Chn.mono {w3 wr : World} {b base eb : Nat} {F : Nat → Prop} {M N : Nat} {p : Int × St} (h : Chn w3 wr b base eb F M p) (hN : M ≤ N) : Chn w3 wr b base eb F N p := by
  obtain ⟨k1, ⟨F', f1, f2, f3⟩, e⟩ := h
  exact ⟨k1, ⟨F', f1, f2, f3.mono (fun _ h => h) hN⟩, e⟩
/-- A block that is neither the device's nor the chain's stays. -/
theorem Chn.block {w3 wr : World} {b base eb : Nat} {F : Nat → Prop} {M : Nat} {p : Int × St} (h : Chn w3 wr b base eb F M p) (q : Nat) (hq : q < w3.heap.size) (h1 : ¬ F q) (h2 : q ≠ eb) : wr.heap[q]? = w3.heap[q]? :=
  h.kept.block q hq fun hf => hf.elim h1 h2
theorem Chn.size {w3 wr : World} {b base eb : Nat} {F : Nat → Prop} {M : Nat} {p : Int × St} (h : Chn w3 wr b base eb F M p) : w3.heap.size ≤ wr.heap.size := h.kept.size
/-- The device at the end of a function that made the chain in memory of its own. -/
theorem Chn.went {w w3 wr : World} {b base eb : Nat} {F : Nat → Prop} {M : Nat} {p : Int × St} (h : Chn w3 wr b base eb F M p) (hb : Below w.heap.size w w3) (he : w.heap.size ≤ eb) : Went w wr b base F M p.2 := by
  obtain ⟨k1, ⟨F', f1, f2, f3⟩, e⟩ := h
  have := hb.size
  refine ⟨(Kept.of_below (F := F) hb).trans' k1 (fun j hj hf => hf.elim id fun e => by omega), F', f1, fun j hj => ?_, f3⟩
  rcases f2 j hj with h | h
  · exact .inl h
  · exact .inr (by omega)

theorem only_devB {w : World} {b base eb : Nat} {F' : Nat → Prop} {M : Nat} {T : St} (d : Dev w b F' M T) (hE : ¬ F' eb) (v : Value) : Dev (w.setCell ⟨eb, 0, none⟩ v) b F' M T :=
  d.frame fun k hk _ => ((Only.refl eb w).set 0 v).other k fun e => hE (e ▸ hk)

set_option maxHeartbeats 1000000 in
theorem then_chn2 {w3 w2 wr : World} {b base eb : Nat} {F : Nat → Prop} {M M2 : Nat} {p : Int × St} {f : St → Int × St} (h2 : Chn w3 w2 b base eb F M p) (hb2 : Below w2.heap.size w2 wr) (he : eb < w3.heap.size) (hE : ¬ F eb) (hbs : base ≤ w3.heap.size) (hM : M ≤ M2) (fc : Nat) (bs cs : Array Value)
    (eg : ∀ args W, (callFunc fc args).run Tryz.prog W = .ok (.enter fc args) W)
    (hs : p.1 = 0 → ∀ F', DevB wr b base F' M p.2 → (∀ j, F' j → F j ∨ w3.heap.size ≤ j) → (∀ j, F' j → j < w2.heap.size) → Calls Tryz.prog fc (bs ++ cs) wr fun e w' => e = .returned (.int .i64 (f p.2).1) ∧ Went wr w' b base F' M2 (f p.2).2) :
    Calls Tryz.prog 52 #[.func (.func fc) bs cs, .pointer (some ⟨eb, 0, none⟩)] wr fun e w' => e = .returned (.int .i64 (thn p f).1) ∧ Chn w3 w' b base eb F M2 (thn p f) ∧ ∀ q, w2.heap.size ≤ q → q < wr.heap.size → w'.heap[q]? = wr.heap[q]? := by
  have h := h2.grown hb2 he
  have hce : wr.cell? ⟨eb, 0, none⟩ = some (.int .i64 p.1) := (cell_of_row _ _ _ _ _ _ h.e).trans rfl
  have hk := h.kept
  have hsz := h.size
  obtain ⟨F', f1, f2, f3⟩ := h2.dev
  have hs2 := hb2.size
  by_cases h0 : p.1 = 0
  · have ht : thn p f = f p.2 := by unfold thn; rw [if_pos h0]
    rw [h0] at hce
    have hEF : ¬ F' eb := fun hf => (f2 eb hf).elim hE fun h => by omega
    have hsd := hs h0 F' ⟨f3.grown hb2, fun j hj => by have := f1 j hj; omega, by omega⟩ f2 fun j hj => (f1 j hj).2
    refine (then_do wr eb fc bs cs (fun x w1 => x = (f p.2).1 ∧ Went wr w1 b base F' M2 (f p.2).2) hce eg (hsd.mono ?_)).mono ?_
    · rintro e w' ⟨rfl, hw⟩
      have hb := hw.block eb (by omega) hEF
      refine ⟨_, rfl, ⟨rfl, hw⟩, ?_, ?_⟩
      · exact (World.cell?_of_block hb).trans hce
      · have h1 := hb.trans h.e
        simp [World.frozen?, h1]
    · rintro e w' ⟨x, w1, rfl, ⟨rfl, hw⟩, rfl⟩
      rw [ht]
      have hb := (hw.block eb (by omega) hEF).trans h.e
      obtain ⟨k1, G, g1, g2, g3⟩ := hw
      have hGE : ¬ G eb := fun hg => (g2 eb hg).elim hEF fun h => by omega
      have hO := (Only.refl eb w1).set 0 (.int .i64 (f p.2).1)
      have h2s := h2.size
      refine ⟨rfl, ⟨?_, ⟨G, fun j hj => by rw [hO.size]; exact g1 j hj, fun j hj => ?_, only_devB (base := base) g3 hGE _⟩, ?_⟩, fun q q1 q2 => (hO.other q (by omega)).trans (k1.block q q2 fun hf => by have := (f1 q hf).2; omega)⟩
      · exact (hk.trans' k1 fun j hj hf => (f2 j hf).elim .inl fun h => absurd hj (by omega)).trans (Kept.of_only hO (.inr rfl))
      · rcases g2 j hj with h | h
        · exact f2 j h
        · exact .inr (by omega)
      · exact heap_setCell_same w1 eb 0 _ _ _ hb
  · have ht : thn p f = p := by unfold thn; rw [if_neg h0]
    refine (then_no wr eb p.1 _ h0 hce).mono ?_
    rintro e w' ⟨rfl, rfl⟩
    rw [ht]
    exact ⟨rfl, h.mono hM, fun _ _ _ => rfl⟩
theorem then_chn {w3 w2 wr : World} {b base eb : Nat} {F : Nat → Prop} {M M2 : Nat} {p : Int × St} {f : St → Int × St} (h2 : Chn w3 w2 b base eb F M p) (hb2 : Below w2.heap.size w2 wr) (he : eb < w3.heap.size) (hE : ¬ F eb) (hbs : base ≤ w3.heap.size) (hM : M ≤ M2) (fc : Nat) (bs cs : Array Value)
    (eg : ∀ args W, (callFunc fc args).run Tryz.prog W = .ok (.enter fc args) W)
    (hs : p.1 = 0 → ∀ F', DevB wr b base F' M p.2 → (∀ j, F' j → F j ∨ w3.heap.size ≤ j) → (∀ j, F' j → j < w2.heap.size) → Calls Tryz.prog fc (bs ++ cs) wr fun e w' => e = .returned (.int .i64 (f p.2).1) ∧ Went wr w' b base F' M2 (f p.2).2) :
    Calls Tryz.prog 52 #[.func (.func fc) bs cs, .pointer (some ⟨eb, 0, none⟩)] wr fun e w' => e = .returned (.int .i64 (thn p f).1) ∧ Chn w3 w' b base eb F M2 (thn p f) :=
  (then_chn2 h2 hb2 he hE hbs hM fc bs cs eg hs).mono fun _ _ h => ⟨h.1, h.2.1⟩
end Go.Proofs.YtfnhhjpebilacaaGreat

/-
  DERIVED. The steps of lay and settle.
-/
namespace Go.Proofs.YtfnhhjpebilacaaGreat
open Go.RowKit
set_option linter.unusedVariables false
set_option maxRecDepth 20000

/-- A part's bytes, as a slice. -/
theorem Pts.bytes {w : World} {g j : Nat} {p : Nat × List UInt8} (hp : p.2.length = 512) (hg : g < w.heap.size) (hr : w.rangeAt g (j * 513) (ptC p)) : Sl w (.slice (some ⟨g, j * 513 + 1, none⟩) 512 512) p.2 := by
  refine ⟨some ⟨g, j * 513 + 1, none⟩, 512, by rw [hp], by rw [hp]; exact Nat.le_refl _, by unfold maxLen; omega, fun _ => ⟨g, j * 513 + 1, rfl, hg, fun i hi => ?_⟩⟩
  have h := hr (1 + i) (bv p.2[i]) (by rw [Nat.add_comm]; simp [ptC, hi])
  rw [← Nat.add_assoc] at h
  exact h
theorem Pts.head {w : World} {g j : Nat} {p : Nat × List UInt8} (hr : w.rangeAt g (j * 513) (ptC p)) : w.cell? ⟨g, j * 513, none⟩ = some (.int .i64 (p.1 : Int)) := hr 0 _ rfl

theorem Went.drew {w w' : World} {b base : Nat} {F : Nat → Prop} {M : Nat} {T : St} (h : Went w.drew w' b base F M T) : Went w w' b base F M T := Went.ahead (w0 := w.drew) (Below.refl _ w).drew h
theorem DevB.drew {w : World} {b base : Nat} {F : Nat → Prop} {N : Nat} {S : St} (h : DevB w b base F N S) : DevB w.drew b base F N S := h.grown (Below.refl _ w).drew
/-- Blocks that are none of the device's. -/
def Off (w : World) (F : Nat → Prop) (q : Nat) : Prop := q < w.heap.size ∧ ¬ F q
theorem Went.cell {w w' : World} {b base : Nat} {F : Nat → Prop} {M : Nat} {T : St} (h : Went w w' b base F M T) {q i : Nat} (hq : Off w F q) : w'.cell? ⟨q, i, none⟩ = w.cell? ⟨q, i, none⟩ := World.cell?_of_block (h.block q hq.1 hq.2)

set_option maxHeartbeats 4000000 in
theorem lay1_any {w : World} {b base : Nat} {F : Nat → Prop} {N : Nat} {S : St} (h : DevB w b base F N S) (hN : N < 800000) (xl xi xp lb j n cap : Nat) (g : Nat) (p : Nat × List UInt8)
    (cl : w.cell? ⟨xl, 0, none⟩ = some (.pointer (some ⟨lb, 0, none⟩))) (cd : w.cell? ⟨lb, 0, none⟩ = some (.pointer (some ⟨b, 0, none⟩))) (ci : w.cell? ⟨xi, 0, none⟩ = some (.int .i64 (j : Int))) (cp : w.cell? ⟨xp, 0, none⟩ = some (.slice (some ⟨g, 0, none⟩) n cap))
    (ol : Off w F xl) (od : Off w F lb) (oi : Off w F xi) (op : Off w F xp)
    (hjn : j < n) (hj : j < 16) (hg : g < w.heap.size) (hr : w.rangeAt g (j * 513) (ptC p)) (hp : p.2.length = 512) :
    Calls Tryz.prog 53 #[.pointer (some ⟨xl, 0, none⟩), .pointer (some ⟨xi, 0, none⟩), .pointer (some ⟨xp, 0, none⟩)] w fun e w' => e = .returned (.int .i64 (S.wr (2 + j, p.2)).1) ∧ Went w w' b base F (N + 2) (S.wr (2 + j, p.2)).2 := by
  have hlen : 64 ≤ S.safe.length := by obtain ⟨g, c', m, vf, D, h0⟩ := h.dev; exact h0.n1
  have wd := Write_all h.drew (2 + j) p.2 (some ⟨g, j * 513 + 1, none⟩) 512 (by omega) (Pts.bytes (w := w.drew) hp hg hr) hp (by omega)
  have hwr : IntKind.i64.wrap (2 + (j : Int)) = ((2 + j : Nat) : Int) := by rw [IntKind.wrap_i64]; omega
  have WD := hide wd
  have HK : Hid (∀ w3 M T, Went w w3 b base F M T → w3.cell? ⟨xl, 0, none⟩ = some (.pointer (some ⟨lb, 0, none⟩)) ∧ w3.cell? ⟨lb, 0, none⟩ = some (.pointer (some ⟨b, 0, none⟩)) ∧ w3.cell? ⟨xi, 0, none⟩ = some (.int .i64 (j : Int)) ∧ w3.cell? ⟨xp, 0, none⟩ = some (.slice (some ⟨g, 0, none⟩) n cap)) := hide fun w3 M T hw => ⟨(hw.cell ol).trans cl, (hw.cell od).trans cd, (hw.cell oi).trans ci, (hw.cell op).trans cp⟩
  have hjI : (j : Int) < (n : Int) := by omega
  have hj0 : (0 : Int) ≤ (j : Int) := Int.natCast_nonneg _
  have hj16 : (j : Int) < 16 := by omega
  clear h hr wd ol od oi op hlen hjn hg hp
  go_enter Tryz.func53, Tryz.ntmps53
  go_wp2_with fail
  go_region_held3 (fun w' => w'.cell? ⟨xl, 0, none⟩ = some (.pointer (some ⟨lb, 0, none⟩)) ∧ w'.cell? ⟨lb, 0, none⟩ = some (.pointer (some ⟨b, 0, none⟩)) ∧ w'.cell? ⟨xi, 0, none⟩ = some (.int .i64 (j : Int)) ∧ w'.cell? ⟨xp, 0, none⟩ = some (.slice (some ⟨g, 0, none⟩) n cap))
    (first | exact ⟨cl, cd, ci, cp⟩ | exact unhide HK _ _ _ hw3)
    (first | (go_at_call 28; refine (unhide WD).mono ?_; rintro e w3 ⟨rfl, hw0⟩; have hw3 := hw0.drew))
  have HW := hide hw3
  clear hw0 hw3
  go_wp2
  go_ret
  exact ⟨rfl, unhide HW⟩
end Go.Proofs.YtfnhhjpebilacaaGreat

/-
  DERIVED. The other steps of lay and settle.
-/
namespace Go.Proofs.YtfnhhjpebilacaaGreat
open Go.RowKit
set_option linter.unusedVariables false
set_option maxRecDepth 20000

theorem own_form {w : World} {base : Nat} {v : Value} {l : List UInt8} (h : Own w base v l) : ∃ a c, v = .slice a l.length c ∧ Sl w (.slice a l.length c) l ∧ (∀ ad, a = some ad → base ≤ ad.block) := by
  have hs := Own.sl h
  rcases h.2 with ⟨rfl, h0⟩ | ⟨g, cap, cur, rfl, hb, _⟩
  · rw [h0]
    exact ⟨none, 0, rfl, hs, fun ad e => (by cases e)⟩
  · exact ⟨_, cap, rfl, hs, fun ad e => by cases e; exact hb⟩
theorem rec_ne (ns : List Nat) : ∃ x l, recB ns = x :: l ∧ (recB ns).length = l.length + 1 := by
  unfold recB layT
  cases h : lay markB.length with
  | nil => exact absurd h (by unfold markB; decide)
  | cons x l => exact ⟨x, _, by simp; rfl, by simp⟩

/-- Store of a log's record. -/
theorem StoreRec {w : World} {b base : Nat} {F : Nat → Prop} {N : Nat} {S : St} (h : DevB w b base F N S) (hN : N < 700000) (hc : (S.rcd 0).count < 9223372036854775807) (ns : List Nat) (hl : (recB ns).length ≤ 400) :
    ∀ W (a : Option Addr) (c : Nat), Below w.heap.size w W → Sl W (.slice a (recB ns).length c) (recB ns) → (∀ ad, a = some ad → w.heap.size ≤ ad.block) →
      Calls Tryz.prog 47 #[.pointer (some ⟨b, 0, none⟩), .int .i64 0, .slice a (recB ns).length c] W fun e w' => e = .returned (.int .i64 (S.store 0 (recB ns)).1) ∧ Went w w' b base F (N + 6) (S.store 0 (recB ns)).2 := by
  intro W a c hb hs hf
  have hlen : 64 ≤ S.safe.length := by obtain ⟨g, c', m, vf, D, h0⟩ := h.dev; exact h0.n1
  refine (Store_all (h.grown hb) 0 (by omega) (by omega) a _ c (recB ns) hs (fun _ ad ha hF => ?_) hl rfl hc).mono ?_
  · have := hf ad ha; have := h.foot _ hF; omega
  · rintro e w' ⟨rfl, hw⟩
    exact ⟨rfl, Went.ahead hb hw⟩

set_option maxHeartbeats 4000000 in
theorem settle1_any {w : World} {b base : Nat} {F : Nat → Prop} {N : Nat} {S : St} (h : DevB w b base F N S) (hN : N < 800000) (xl xi xp lb j n cap : Nat) (g : Nat) (p : Nat × List UInt8)
    (cl : w.cell? ⟨xl, 0, none⟩ = some (.pointer (some ⟨lb, 0, none⟩))) (cd : w.cell? ⟨lb, 0, none⟩ = some (.pointer (some ⟨b, 0, none⟩))) (ci : w.cell? ⟨xi, 0, none⟩ = some (.int .i64 (j : Int))) (cp : w.cell? ⟨xp, 0, none⟩ = some (.slice (some ⟨g, 0, none⟩) n cap))
    (ol : Off w F xl) (od : Off w F lb) (oi : Off w F xi) (op : Off w F xp) (og : Off w F g)
    (hjn : j < n) (hj : j < 16) (hr : w.rangeAt g (j * 513) (ptC p)) (hp : p.2.length = 512) (hpn : p.1 + 20 < S.safe.length) :
    Calls Tryz.prog 55 #[.pointer (some ⟨xl, 0, none⟩), .pointer (some ⟨xp, 0, none⟩), .pointer (some ⟨xi, 0, none⟩)] w fun e w' => e = .returned (.int .i64 (S.wr (20 + p.1, p.2)).1) ∧ Went w w' b base F (N + 2) (S.wr (20 + p.1, p.2)).2 := by
  have hlen : S.safe.length ≤ 512 := by obtain ⟨g, c', m, vf, D, h0⟩ := h.dev; exact h0.n2
  have wd := Write_all h.drew (20 + p.1) p.2 (some ⟨g, j * 513 + 1, none⟩) 512 (by omega) (Pts.bytes (w := w.drew) hp og.1 hr) hp (by omega)
  have hwr : IntKind.i64.wrap (20 + (p.1 : Int)) = ((20 + p.1 : Nat) : Int) := by rw [IntKind.wrap_i64]; omega
  have WD := hide wd
  have cg := Pts.head hr
  have HK : Hid (∀ w3 M T, Went w w3 b base F M T → w3.cell? ⟨xl, 0, none⟩ = some (.pointer (some ⟨lb, 0, none⟩)) ∧ w3.cell? ⟨lb, 0, none⟩ = some (.pointer (some ⟨b, 0, none⟩)) ∧ w3.cell? ⟨xi, 0, none⟩ = some (.int .i64 (j : Int)) ∧ w3.cell? ⟨xp, 0, none⟩ = some (.slice (some ⟨g, 0, none⟩) n cap) ∧ w3.cell? ⟨g, j * 513, none⟩ = some (.int .i64 (p.1 : Int))) := hide fun w3 M T hw => ⟨(hw.cell ol).trans cl, (hw.cell od).trans cd, (hw.cell oi).trans ci, (hw.cell op).trans cp, (hw.cell og).trans cg⟩
  have hjI : (j : Int) < (n : Int) := by omega
  have hj0 : (0 : Int) ≤ (j : Int) := Int.natCast_nonneg _
  have hj16 : (j : Int) < 16 := by omega
  clear h hr wd ol od oi op og hlen hjn hp hpn
  go_enter Tryz.func55, Tryz.ntmps55
  go_wp2_with fail
  go_region_held3 (fun w' => w'.cell? ⟨xl, 0, none⟩ = some (.pointer (some ⟨lb, 0, none⟩)) ∧ w'.cell? ⟨lb, 0, none⟩ = some (.pointer (some ⟨b, 0, none⟩)) ∧ w'.cell? ⟨xi, 0, none⟩ = some (.int .i64 (j : Int)) ∧ w'.cell? ⟨xp, 0, none⟩ = some (.slice (some ⟨g, 0, none⟩) n cap) ∧ w'.cell? ⟨g, j * 513, none⟩ = some (.int .i64 (p.1 : Int)))
    (first | exact ⟨cl, cd, ci, cp, cg⟩ | exact unhide HK _ _ _ hw3)
    (first | (go_at_call 28; refine (unhide WD).mono ?_; rintro e w3 ⟨rfl, hw0⟩; have hw3 := hw0.drew))
  have HW := hide hw3
  clear hw0 hw3
  go_wp2
  go_ret
  exact ⟨rfl, unhide HW⟩

set_option maxHeartbeats 4000000 in
theorem lay2_any {w : World} {b base : Nat} {F : Nat → Prop} {N : Nat} {S : St} (h : DevB w b base F N S) (hN : N < 700000) (hc : (S.rcd 0).count < 9223372036854775807) (xl xp lb : Nat) (v : Value) (ps : List (Nat × List UInt8)) (hv : Pts w v ps) (hl : (recB (ps.map (·.1))).length ≤ 400)
    (cl : w.cell? ⟨xl, 0, none⟩ = some (.pointer (some ⟨lb, 0, none⟩))) (cd : w.cell? ⟨lb, 0, none⟩ = some (.pointer (some ⟨b, 0, none⟩))) (cp : w.cell? ⟨xp, 0, none⟩ = some v)
    (ol : Off w F xl) (od : Off w F lb) (op : Off w F xp) :
    Calls Tryz.prog 54 #[.pointer (some ⟨xl, 0, none⟩), .pointer (some ⟨xp, 0, none⟩)] w fun e w' => e = .returned (.int .i64 (S.store 0 (recB (ps.map (·.1)))).1) ∧ Went w w' b base F (N + 6) (S.store 0 (recB (ps.map (·.1)))).2 := by
  have HR := hide (record_any w.drew v ps (hv.kept (Below.refl _ w).drew))
  have HS := hide (StoreRec h hN hc (ps.map (·.1)) hl)
  have HK : Hid (∀ w3 M T, Went w w3 b base F M T → w3.cell? ⟨xl, 0, none⟩ = some (.pointer (some ⟨lb, 0, none⟩)) ∧ w3.cell? ⟨lb, 0, none⟩ = some (.pointer (some ⟨b, 0, none⟩)) ∧ w3.cell? ⟨xp, 0, none⟩ = some v) := hide fun w3 M T hw => ⟨(hw.cell ol).trans cl, (hw.cell od).trans cd, (hw.cell op).trans cp⟩
  have HK2 : Hid (∀ w3, Below w.heap.size w w3 → w3.cell? ⟨xl, 0, none⟩ = some (.pointer (some ⟨lb, 0, none⟩)) ∧ w3.cell? ⟨lb, 0, none⟩ = some (.pointer (some ⟨b, 0, none⟩)) ∧ w3.cell? ⟨xp, 0, none⟩ = some v) := hide fun w3 hb => ⟨(hb.cell ol.1).trans cl, (hb.cell od.1).trans cd, (hb.cell op.1).trans cp⟩
  obtain ⟨ns, hns⟩ : ∃ ns, ns = ps.map (·.1) := ⟨_, rfl⟩
  rw [← hns] at HR HS ⊢
  clear h hv hl ol od op hns
  go_enter Tryz.func54, Tryz.ntmps54
  go_wp2_with fail
  go_region_held3 (fun w' => w'.cell? ⟨xl, 0, none⟩ = some (.pointer (some ⟨lb, 0, none⟩)) ∧ w'.cell? ⟨lb, 0, none⟩ = some (.pointer (some ⟨b, 0, none⟩)) ∧ w'.cell? ⟨xp, 0, none⟩ = some v)
    (first | exact ⟨cl, cd, cp⟩ | exact unhide HK _ _ _ hw4 | exact unhide HK2 _ hb3)
    (first | (go_at_call 48; refine (unhide HR).mono ?_; rintro e w3 ⟨v3, rfl, o3, b3⟩; obtain ⟨a3, c3, rfl, s3, f3⟩ := own_form o3; have hb3 := after_drew b3)
           | (go_at_call 47; refine (unhide HS w3 a3 c3 hb3 s3 f3).mono ?_; rintro e w4 ⟨rfl, hw4⟩))
  have HW := hide hw4
  clear hw4 hb3 b3 o3 s3
  go_wp2
  go_ret
  exact ⟨rfl, unhide HW⟩

set_option maxHeartbeats 4000000 in
theorem settle2_any {w : World} {b base : Nat} {F : Nat → Prop} {N : Nat} {S : St} (h : DevB w b base F N S) (hN : N < 700000) (hc : (S.rcd 0).count < 9223372036854775807) (xl lb : Nat) (hl : (recB []).length ≤ 400)
    (cl : w.cell? ⟨xl, 0, none⟩ = some (.pointer (some ⟨lb, 0, none⟩))) (cd : w.cell? ⟨lb, 0, none⟩ = some (.pointer (some ⟨b, 0, none⟩)))
    (ol : Off w F xl) (od : Off w F lb) :
    Calls Tryz.prog 56 #[.pointer (some ⟨xl, 0, none⟩)] w fun e w' => e = .returned (.int .i64 (S.store 0 (recB [])).1) ∧ Went w w' b base F (N + 6) (S.store 0 (recB [])).2 := by
  have HR := hide (record_any w.drew _ [] (Pts.nil _))
  have HS := hide (StoreRec h hN hc [] hl)
  have HK : Hid (∀ w3 M T, Went w w3 b base F M T → w3.cell? ⟨xl, 0, none⟩ = some (.pointer (some ⟨lb, 0, none⟩)) ∧ w3.cell? ⟨lb, 0, none⟩ = some (.pointer (some ⟨b, 0, none⟩))) := hide fun w3 M T hw => ⟨(hw.cell ol).trans cl, (hw.cell od).trans cd⟩
  have HK2 : Hid (∀ w3, Below w.heap.size w w3 → w3.cell? ⟨xl, 0, none⟩ = some (.pointer (some ⟨lb, 0, none⟩)) ∧ w3.cell? ⟨lb, 0, none⟩ = some (.pointer (some ⟨b, 0, none⟩))) := hide fun w3 hb => ⟨(hb.cell ol.1).trans cl, (hb.cell od.1).trans cd⟩
  simp only [List.map_nil] at HR
  clear h hl ol od
  go_enter Tryz.func56, Tryz.ntmps56
  go_wp2_with fail
  go_region_held3 (fun w' => w'.cell? ⟨xl, 0, none⟩ = some (.pointer (some ⟨lb, 0, none⟩)) ∧ w'.cell? ⟨lb, 0, none⟩ = some (.pointer (some ⟨b, 0, none⟩)))
    (first | exact ⟨cl, cd⟩ | exact unhide HK _ _ _ hw4 | exact unhide HK2 _ hb3)
    (first | (go_at_call 48; refine (unhide HR).mono ?_; rintro e w3 ⟨v3, rfl, o3, b3⟩; obtain ⟨a3, c3, rfl, s3, f3⟩ := own_form o3; have hb3 := after_drew b3)
           | (go_at_call 47; refine (unhide HS w3 a3 c3 hb3 s3 f3).mono ?_; rintro e w4 ⟨rfl, hw4⟩))
  have HW := hide hw4
  clear hw4 hb3 b3 o3 s3
  go_wp2
  go_ret
  exact ⟨rfl, unhide HW⟩
end Go.Proofs.YtfnhhjpebilacaaGreat
