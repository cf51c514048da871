/-
  DERIVED. The walk of read: where both blocks are read.
-/
import Derived.Test.YtbgaomfoiooegaaSread
import Derived.Test.YtbgaomfoiooegaaDset
namespace Go.Proofs.Ytbgaomfoiooegaa
open Go.RowKit
set_option linter.unusedVariables false

theorem Sl.ofRow {w : World} {q : Nat} {L : List UInt8} {t : TypeId} {fz : Nat × Nat} (hL : L.length = 512) (h : w.heap[q]? = some (.cells (L.map bv).toArray t fz)) : Sl w (.slice (some ⟨q, 0, none⟩) 512 512) L :=
  ⟨_, 512, by rw [hL], by omega, by simp [maxLen], fun _ => ⟨q, 0, rfl, lt_of_block h, fun i hi => by simp [World.cell?, h, hi]⟩⟩
theorem there_row {w : World} {g : Nat} {cs : Array Value} {t : TypeId} (h : w.heap[g]? = some (.cells cs t (0, 0))) (o n : Nat) (hn : o + n ≤ cs.size) : w.there g o n := fun j hj => by
  have : o + j < cs.size := by omega
  constructor
  · simp [World.cell?, h, this]
  · simp [World.frozen?, h]
theorem one_two (s t : Slot) (x y : Option Addr) (n c m d : Nat) : (twoC s t (.slice x n c) (.slice y m d)).all (·.oneCell') = true := by simp [twoC, Value.oneCell']
theorem one_slotL (s : Slot) (x : Option Addr) (n c : Nat) : (slotC s (.slice x n c)).all (·.oneCell') = true := one_slot _ _ _ _ _ _

theorem Sl.kept {F : Nat → Prop} {w w' : World} {a : Option Addr} {n c : Nat} {l : List UInt8} (h : Sl w (.slice a n c) l) (hk : Kept F w w') (hF : ∀ ad, a = some ad → ¬ F ad.block) : Sl w' (.slice a n c) l := by
  obtain ⟨ao, cap, e, h1, h2, h4⟩ := h
  refine ⟨ao, cap, e, h1, h2, fun hc => ?_⟩
  obtain ⟨b', off', e', h5, h6⟩ := h4 hc
  have ea : a = some ⟨b', off', none⟩ := by rw [← e']; injection e
  refine ⟨b', off', e', Nat.lt_of_lt_of_le h5 hk.size, fun i hi => ?_⟩
  exact (World.cell?_of_block (w := w) (hk.block b' h5 (hF _ ea))).trans (h6 i hi)
theorem kept_cells (w : World) (g o : Nat) (vs : List Value) : Kept (fun k => k = g) w (w.setCells g o vs) := Kept.of_grown (grown_setCells g vs o w) (fun k h => by injection h with h; exact h.symm)

set_option maxHeartbeats 4000000 in
theorem read_ok {w : World} {b : Nat} {F : Nat → Prop} {N : Nat} {S : St} (h : Dev w b F N S) (k : Nat) (hk : k + 1 < S.safe.length) (hs : S.safe.length ≤ 512) (hd : S.down = false) (hB : burnE S.fused S.fuse = 0) (hd2 : S.burn.down = false) (hB2 : burnE S.burn.fused S.burn.fuse = 0) (hN : N < 900000) (hF : ∀ k, F k → k < w.heap.size)
    (hL : (S.newest k).length = 512) (hL2 : (S.burn.newest (k + 1)).length = 512) (hsb : S.burn.safe = S.safe) :
    Calls Try.prog 24 #[.pointer (some ⟨b, 0, none⟩), .int .i64 k] w fun e w' => ∃ a1 n1 c1 a2 n2 c2, e = .returned (.tuple #[.agg (twoC (unl k (S.newest k)) (unl k (S.burn.newest (k + 1))) (.slice a1 n1 c1) (.slice a2 n2 c2)), .int .i64 0]) ∧
      (∀ ad, a1 = some ad → w.heap.size ≤ ad.block) ∧ (∀ ad, a2 = some ad → w.heap.size ≤ ad.block) ∧ Sl w' (.slice a1 n1 c1) (unl k (S.newest k)).data ∧ Sl w' (.slice a2 n2 c2) (unl k (S.burn.newest (k + 1))).data ∧ Dev w' b F (N + 1 + 1) S.burn.burn ∧ Kept F w w' := by
  have HD := hide h
  clear h
  obtain ⟨s1, hs1⟩ : ∃ s, unl k (S.newest k) = s := ⟨_, rfl⟩
  obtain ⟨s2, hs2⟩ : ∃ s, unl k (S.burn.newest (k + 1)) = s := ⟨_, rfl⟩
  obtain ⟨W, hW⟩ : ∃ W, W = (w.alloc (.cells two0 62)).alloc (.cells two0 62) := ⟨_, rfl⟩
  have HW : Hid (Below w.heap.size w W) := hide (by rw [hW]; exact ((Below.refl _ _).alloc (Nat.le_refl _) _).alloc (by simp) _)
  have HZ : Hid (W.heap[w.heap.size]? = some (.cells two0 62 (0, 0))) := hide (by rw [hW, Below.heap_alloc _ _ _ (by simp)]; exact heap_alloc_self _ _)
  have HY : Hid (W.heap[w.heap.size + 1]? = some (.cells two0 62 (0, 0))) := hide (by rw [hW]; have := heap_alloc_self (w.alloc (.cells two0 62)) (.cells two0 62); simpa using this)
  have sW : W.heap.size = w.heap.size + 2 := by rw [hW]; simp
  rw [hs1, hs2]
  go_enter Try.func24, Try.ntmps24
  go_wp2_with fail
  rw [← hW]
  clear hW
  refine wp_loop_rounds 3 ?_
  rw [rounds_succ]
  go_wp2_with fail
  refine (Read_dev ((unhide HD).grown (unhide HW)) k (by omega) hd hB (by omega)).mono ?_
  rintro e w1 ⟨q, rfl, hq, hq1, d1, k1⟩
  have z1 : w1.heap.size ≥ W.heap.size := k1.size
  have lq := lt_of_block hq1
  have HZ1 : Hid (w1.heap[w.heap.size]? = some (.cells two0 62 (0, 0))) := hide ((k1.block _ (by omega) (fun h => by have := hF _ h; omega)).trans (unhide HZ))
  have HY1 : Hid (w1.heap[w.heap.size + 1]? = some (.cells two0 62 (0, 0))) := hide ((k1.block _ (by omega) (fun h => by have := hF _ h; omega)).trans (unhide HY))
  have H1 := hide (And.intro d1 k1)
  have HS1 := hide (Sl.ofRow hL hq1)
  clear d1 k1 hq1 HZ HY
  go_wp2_with fail
  refine (unlay_any _ (S.newest k) k w1 (unhide HS1) (by omega) (by omega)).mono ?_
  rintro e w2 ⟨a1, n1, c1, rfl, fr1, sl1, b2⟩
  rw [hs1] at sl1 ⊢
  have z2 := b2.size
  have HZ2 : Hid (w2.heap[w.heap.size]? = some (.cells two0 62 (0, 0))) := hide ((b2.block _ (by omega)).trans (unhide HZ1))
  have HY2 : Hid (w2.heap[w.heap.size + 1]? = some (.cells two0 62 (0, 0))) := hide ((b2.block _ (by omega)).trans (unhide HY1))
  have H2 := hide (And.intro fr1 (And.intro sl1 b2))
  clear fr1 sl1 b2 HZ1 HY1 HS1
  have HT2 := hide (there_row (unhide HY2) 0 4 (by decide))
  go_wp2_with (first | (refine wpList_store_mid rfl 61 (.tmp 29) (.tmp 28) rfl (w.heap.size + 1) 0 (slotC s1 (.slice a1 n1 c1)) rfl rfl (unhide HT2) sizeSlot (one_slotL _ _ _ _) ?_) | fail)
  obtain ⟨w3, hw3⟩ : ∃ w3, w3 = w2.setCells (w.heap.size + 1) 0 (slotC s1 (.slice a1 n1 c1)).toList := ⟨_, rfl⟩
  rw [← hw3]
  have K3 : Kept (fun j => j = w.heap.size + 1) w2 w3 := by rw [hw3]; exact kept_cells _ _ _ _
  have HY3 : Hid (w3.heap[w.heap.size + 1]? = some (.cells (twoC s1 noSlot (.slice a1 n1 c1) (.slice none 0 0)) 62 (0, 0))) := hide (by rw [hw3]; exact heap_setCells_row _ _ _ 0 _ _ (unhide HY2) (by show 0 + 4 ≤ 8; omega))
  have HZ3 : Hid (w3.heap[w.heap.size]? = some (.cells two0 62 (0, 0))) := hide ((K3.block _ (by omega) (by omega)).trans (unhide HZ2))
  have HL3 : Hid (Sl w3 (.slice a1 n1 c1) s1.data) := hide ((unhide H2).2.1.kept K3 (fun ad h => by have := (unhide H2).1 ad h; omega))
  have HD3 : Hid (Dev w3 b F (N + 1) S.burn) := hide (((unhide H1).1.grown (unhide H2).2.2).frame fun j hj hl => K3.block j hl (by have := hF _ hj; omega))
  have HK3 : Hid (Kept F w w3) := hide (by
    refine ⟨K3.os.trans ((unhide H2).2.2.os.trans ((unhide H1).2.os.trans (unhide HW).os)), K3.tape.trans ((unhide H2).2.2.tape.trans ((unhide H1).2.tape.trans (unhide HW).tape)), K3.output.trans ((unhide H2).2.2.output.trans ((unhide H1).2.output.trans (unhide HW).output)), ?_, fun j hj hn => ?_⟩
    · have := K3.size; omega
    · rw [K3.block j (by omega) (by omega), (unhide H2).2.2.block j (by omega), (unhide H1).2.block j (by omega) hn, (unhide HW).block j hj])
  have z3 := K3.size
  have HR1 : Hid (∀ ad, a1 = some ad → w.heap.size + 2 ≤ ad.block) := hide (fun ad h => by have := (unhide H2).1 ad h; omega)
  clear hw3 K3 HY2 HZ2 H2 H1 HW HT2
  rw [rounds_succ]
  go_wp2_with fail
  have RD := Read_dev (unhide HD3) (k + 1) (by rw [hsb]; omega) hd2 hB2 (by omega)
  rw [show ((k + 1 : Nat) : Int) = (k : Int) + 1 by omega] at RD
  refine RD.mono ?_
  clear RD
  rintro e w4 ⟨q4, rfl, hq4, hq41, d4, k4⟩
  have z4 := k4.size
  have HZ4 : Hid (w4.heap[w.heap.size]? = some (.cells two0 62 (0, 0))) := hide ((k4.block _ (by omega) (fun h => by have := hF _ h; omega)).trans (unhide HZ3))
  have HY4 : Hid (w4.heap[w.heap.size + 1]? = some (.cells (twoC s1 noSlot (.slice a1 n1 c1) (.slice none 0 0)) 62 (0, 0))) := hide ((k4.block _ (by omega) (fun h => by have := hF _ h; omega)).trans (unhide HY3))
  have HL4 : Hid (Sl w4 (.slice a1 n1 c1) s1.data) := hide ((unhide HL3).kept k4 (fun ad h hf => by have := (unhide HR1) ad h; have := hF _ hf; omega))
  have HK4 := hide ((unhide HK3).trans k4)
  have HD4 := hide d4
  have HS4 := hide (Sl.ofRow hL2 hq41)
  clear d4 k4 hq41 HZ3 HY3 HL3 HK3 HD3
  go_wp2_with fail
  refine (unlay_any _ (S.burn.newest (k + 1)) k w4 (unhide HS4) (by omega) (by omega)).mono ?_
  rintro e w5 ⟨a2, n2, c2, rfl, fr2, sl2, b5⟩
  rw [hs2] at sl2 ⊢
  have z5 := b5.size
  have HZ5 : Hid (w5.heap[w.heap.size]? = some (.cells two0 62 (0, 0))) := hide ((b5.block _ (by omega)).trans (unhide HZ4))
  have HY5 : Hid (w5.heap[w.heap.size + 1]? = some (.cells (twoC s1 noSlot (.slice a1 n1 c1) (.slice none 0 0)) 62 (0, 0))) := hide ((b5.block _ (by omega)).trans (unhide HY4))
  have H5 := hide (And.intro fr2 (And.intro sl2 b5))
  clear fr2 sl2 b5 HZ4 HY4 HS4
  have HT5 := hide (there_row (unhide HY5) 4 4 (by show 4 + 4 ≤ 8; omega))
  go_wp2_with (first | (refine wpList_store_mid rfl 61 (.tmp 29) (.tmp 28) rfl (w.heap.size + 1) 4 (slotC s2 (.slice a2 n2 c2)) rfl rfl (unhide HT5) sizeSlot (one_slotL _ _ _ _) ?_) | fail)
  obtain ⟨w6, hw6⟩ : ∃ w6, w6 = w5.setCells (w.heap.size + 1) 4 (slotC s2 (.slice a2 n2 c2)).toList := ⟨_, rfl⟩
  rw [← hw6]
  have K6 : Kept (fun j => j = w.heap.size + 1) w5 w6 := by rw [hw6]; exact kept_cells _ _ _ _
  have HY6 : Hid (w6.heap[w.heap.size + 1]? = some (.cells (twoC s1 s2 (.slice a1 n1 c1) (.slice a2 n2 c2)) 62 (0, 0))) := hide (by rw [hw6]; exact heap_setCells_row _ _ _ 4 _ _ (unhide HY5) (by show 4 + 4 ≤ 8; omega))
  have HZ6 : Hid (w6.heap[w.heap.size]? = some (.cells two0 62 (0, 0))) := hide ((K6.block _ (by omega) (by omega)).trans (unhide HZ5))
  have z6 := K6.size
  have H6 := hide K6
  clear hw6 K6 HY5 HZ5 HT5
  rw [rounds_succ]
  go_wp2_with (first | (refine wpList_load_row rfl 62 (.tmp 6) rfl (w.heap.size + 1) rfl 62 (twoC s1 s2 (.slice a1 n1 c1) (.slice a2 n2 c2)) (0, 0) _ (unhide HY6) Try.underlying62 rfl sizeTwo ?_) | (refine wpList_store_row rfl 62 (.tmp 4) (.tmp 31) rfl w.heap.size (twoC s1 s2 (.slice a1 n1 c1) (.slice a2 n2 c2)) rfl rfl 62 two0 (unhide HZ6) sizeTwo rfl (one_two _ _ _ _ _ _ _ _) ?_))
  (try simp only [Exit.inBlock, Exit.then])
  have KR : Kept (fun j => j = w.heap.size) w6 (w6.setRow w.heap.size (twoC s1 s2 (.slice a1 n1 c1) (.slice a2 n2 c2))) := ⟨rfl, rfl, rfl, by simp [World.setRow], fun j _ hn => setRow_other _ _ _ _ hn⟩
  have H5' := unhide H5
  have H6' := unhide H6
  have HD5 := ((unhide HD4).grown H5'.2.2).frame (fun j hj hl => H6'.block j hl (by have := hF _ hj; omega))
  refine bodyPost_ret (v := .tuple #[.agg (twoC s1 s2 (.slice a1 n1 c1) (.slice a2 n2 c2)), .int .i64 0]) (results_row_tmp rfl _ _ w.heap.size _ _ rfl rfl (run_loadVar_row _ w.heap.size 62 62 (twoC s1 s2 (.slice a1 n1 c1) (.slice a2 n2 c2)) (0, 0) _ (setRow_heap _ _ _ _ _ _ (unhide HZ6)) Try.underlying62 rfl sizeTwo)) rfl ⟨a1, n1, c1, a2, n2, c2, rfl, ?_, ?_, ?_, ?_, ?_, ?_⟩
  · exact fun ad h => by have := unhide HR1 ad h; omega
  · exact fun ad h => by have := H5'.1 ad h; omega
  · exact (((unhide HL4).below H5'.2.2 (Nat.le_refl _)).kept H6' (fun ad h => by have := unhide HR1 ad h; omega)).kept KR (fun ad h => by have := unhide HR1 ad h; omega)
  · exact (H5'.2.1.kept H6' (fun ad h => by have := H5'.1 ad h; omega)).kept KR (fun ad h => by have := H5'.1 ad h; omega)
  · exact HD5.frame fun j hj hl => KR.block j hl (by have := hF _ hj; omega)
  · have K4 := unhide HK4
    refine ⟨KR.os.trans (H6'.os.trans (H5'.2.2.os.trans K4.os)), KR.tape.trans (H6'.tape.trans (H5'.2.2.tape.trans K4.tape)), KR.output.trans (H6'.output.trans (H5'.2.2.output.trans K4.output)), ?_, fun j hj hn => ?_⟩
    · have := KR.size; omega
    · rw [KR.block j (by omega) (by omega), H6'.block j (by omega) (by omega), H5'.2.2.block j (by omega), K4.block j hj hn]
end Go.Proofs.Ytbgaomfoiooegaa
