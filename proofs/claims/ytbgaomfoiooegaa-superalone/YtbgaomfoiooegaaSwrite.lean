/-
  DERIVED. The walk of write.
-/
import Derived.Test.YtbgaomfoiooegaaSread4
namespace Go.Proofs.Ytbgaomfoiooegaa
open Go.RowKit
set_option linter.unusedVariables false

/-- Kept, one behind the other, where the later one has turned more of what is new. -/
theorem Kept.trans' {F G : Nat → Prop} {a b c : World} (h : Kept F a b) (k : Kept G b c) (hG : ∀ j, j < a.heap.size → G j → F j) : Kept F a c :=
  ⟨k.os.trans h.os, k.tape.trans h.tape, k.output.trans h.output, Nat.le_trans h.size k.size, fun i hi hn => (k.block i (Nat.lt_of_lt_of_le hi h.size) fun hg => hn (hG i hi hg)).trans (h.block i hi hn)⟩

set_option maxRecDepth 20000 in
set_option maxHeartbeats 2000000 in
theorem write_any {w : World} {b base : Nat} {F : Nat → Prop} {N : Nat} {S : St} (h : Dev w b F N S) (hF : ∀ k, F k → base ≤ k ∧ k < w.heap.size) (hbs : base ≤ w.heap.size) (k : Nat) (hk : k + 1 < S.safe.length) (hd : S.down = false) (hN : N < 900000)
    (s t : Slot) (x y : Option Addr) (nx cx ny cy : Nat) (hst : s.turn < 4294967296) (htt : t.turn < 4294967296) (cnt : Int) (hc0 : 0 ≤ cnt) (hc1 : cnt ≤ 9223372036854775807) (a : Option Addr) (n c : Nat) (d : List UInt8) (hv : Sl w (.slice a n c) d) (hl : d.length ≤ 400) :
    Calls Try.prog 25 #[.pointer (some ⟨b, 0, none⟩), .int .i64 k, .agg (twoC s t (.slice x nx cx) (.slice y ny cy)), .agg (slotC ⟨false, 0, cnt, d⟩ (.slice a n c))] w fun e w' => e = .returned (.int .i64 (S.putF (k + 1 - newR s t) (slotL ⟨false, ((curS s t).turn + 1) % 4294967296, cnt, d⟩ k)).1) ∧
      (∃ F', (∀ j, F' j → base ≤ j ∧ j < w'.heap.size) ∧ (∀ j, F' j → F j ∨ w.heap.size ≤ j) ∧ Dev w' b F' (N + 4) (S.putF (k + 1 - newR s t) (slotL ⟨false, ((curS s t).turn + 1) % 4294967296, cnt, d⟩ k)).2) ∧ Kept F w w' := by
  have hs : S.safe.length ≤ 512 := by obtain ⟨g, c, m, vf, D, h0⟩ := h; exact h0.n2
  have HD := hide h
  have HV := hide hv
  clear h hv
  obtain ⟨u, hu⟩ : ∃ u, u = ((curS s t).turn + 1) % 4294967296 := ⟨_, rfl⟩
  obtain ⟨L, hL⟩ : ∃ L, L = slotL ⟨false, u, cnt, d⟩ k := ⟨_, rfl⟩
  have hL5 : L.length = 512 := by rw [hL]; exact slotL_len _ _ hl
  rw [← hu, ← hL]
  obtain ⟨W, hW⟩ : ∃ W, W = (w.alloc (.cells (twoC s t (.slice x nx cx) (.slice y ny cy)) 62)).alloc (.cells (slotC ⟨false, 0, cnt, d⟩ (.slice a n c)) 61) := ⟨_, rfl⟩
  have HW : Hid (Below w.heap.size w W) := hide (by rw [hW]; exact ((Below.refl _ _).alloc (Nat.le_refl _) _).alloc (by simp) _)
  have HB0 : Hid (W.heap[w.heap.size]? = some (.cells (twoC s t (.slice x nx cx) (.slice y ny cy)) 62 (0, 0))) := hide (by rw [hW, Below.heap_alloc _ _ _ (by simp)]; exact heap_alloc_self _ _)
  have HS0 : Hid (W.heap[w.heap.size + 1]? = some (.cells (slotC ⟨false, 0, cnt, d⟩ (.slice a n c)) 61 (0, 0))) := hide (by rw [hW]; have := heap_alloc_self (w.alloc (.cells (twoC s t (.slice x nx cx) (.slice y ny cy)) 62)) (.cells (slotC ⟨false, 0, cnt, d⟩ (.slice a n c)) 61); simpa using this)
  have sW : W.heap.size = w.heap.size + 2 := by rw [hW]; simp
  rcases newR_or s t with h0 | h0
  · have hcu : (((s.turn : Nat) : Int) + 1) % 4294967296 = (u : Nat) := by rw [hu]; unfold curS; rw [if_neg (by omega)]; omega
    rw [h0]
    have hu2 : u < 4294967296 := by rw [hu]; omega
    clear hu
    obtain ⟨r, hr⟩ : ∃ r, r = k + 1 - 0 := ⟨_, rfl⟩
    have hrk : r < S.safe.length := by omega
    rw [← hr]
    go_enter Try.func25, Try.ntmps25
    go_wp2_with (first | (refine wpList_load_row rfl 62 (.tmp 6) rfl w.heap.size rfl 62 (twoC s t (.slice x nx cx) (.slice y ny cy)) (0, 0) _ (by rw [← hW]; exact unhide HB0) Try.underlying62 rfl sizeTwo ?_) | fail)
    rw [← hW]
    clear hW
    refine (newer_any s t _ _ _).mono ?_
    rintro e w1 ⟨rfl, b1⟩
    rw [h0]
    have c1 : w1.cell? ⟨w.heap.size, 1, none⟩ = some (.int .u32 (s.turn : Nat)) := (b1.cell (p := ⟨w.heap.size, 1, none⟩) (by show w.heap.size < _; omega)).trans (by simp [World.cell?, unhide HB0])
    have HS1 : Hid (w1.heap[w.heap.size + 1]? = some (.cells (slotC ⟨false, 0, cnt, d⟩ (.slice a n c)) 61 (0, 0))) := hide ((b1.block _ (by omega)).trans (unhide HS0))
    have e1 : w1.cell? ⟨w.heap.size + 1, 1, none⟩ = some (.int .u32 0) := by simp [World.cell?, unhide HS1]
    have f1 : w1.frozen? ⟨w.heap.size + 1, 1, none⟩ = false := by simp [World.frozen?, unhide HS1]
    have z1 := b1.size
    have HS2 : Hid ((w1.setCell ⟨w.heap.size + 1, 1, none⟩ (.int .u32 (u : Nat))).heap[w.heap.size + 1]? = some (.cells (slotC ⟨false, u, cnt, d⟩ (.slice a n c)) 61 (0, 0))) := hide (heap_setCell_same w1 (w.heap.size + 1) 1 _ 61 (.int .u32 (u : Nat)) (unhide HS1))
    have HB2 : Hid (Below w.heap.size w (w1.setCell ⟨w.heap.size + 1, 1, none⟩ (.int .u32 (u : Nat)))) := hide (((unhide HW).trans (b1.mono (by omega))).setCell (by show w.heap.size ≤ w.heap.size + 1; omega) _)
    have z2 : (w1.setCell ⟨w.heap.size + 1, 1, none⟩ (.int .u32 (u : Nat))).heap.size = w1.heap.size := by simp [World.setCell]
    clear b1
    go_wp2_with (first | (refine wpList_load_row rfl 61 (.tmp 7) rfl (w.heap.size + 1) rfl 61 (slotC ⟨false, u, cnt, d⟩ (.slice a n c)) (0, 0) _ (by first | exact unhide HS2 | (rw [hcu]; exact unhide HS2)) Try.underlying61 rfl sizeSlot ?_) | fail)
    (try rw [hcu])
    obtain ⟨w2, hw2⟩ : ∃ w2, w2 = w1.setCell ⟨w.heap.size + 1, 1, none⟩ (.int .u32 (u : Nat)) := ⟨_, rfl⟩
    rw [← hw2] at HB2 HS2 z2 ⊢
    clear hw2 c1 e1 f1 HS1
    refine (lay_any ⟨false, u, cnt, d⟩ a n c k w2 ((unhide HV).below (unhide HB2) (Nat.le_refl _)) (by omega) (by omega) hu2 hc0 hc1 hl).mono ?_
    rintro e w3 ⟨g, rfl, hg, hg3, b3⟩
    rw [← hL] at hg3
    have HG := hide (Sl.ofRow hL5 hg3)
    have HB3 := hide ((unhide HB2).trans (b3.mono (by omega)))
    have z3 := b3.size
    clear b3 hg3 HS2 HB2
    have hFd : ∀ j, F j → base ≤ j ∧ j < w3.heap.size := fun j hj => by have := hF j hj; omega
    have HD3 := hide ((unhide HD).grown (unhide HB3))
    clear HD
    by_cases hw : S.well
    · by_cases hf : (S.burn.wrote r L).well
      · have HP : Hid (S.putF r L = (0, (S.burn.wrote r L).burn.flushed)) := hide (by unfold St.putF; rw [if_pos hw, if_pos hf])
        go_wp2_with fail
        have WD := Write_own (unhide HD3) hFd (by omega) r L _ hrk hd hw (unhide HG) hL5 (by omega)
        rw [show ((r : Nat) : Int) = (k : Int) + 1 by omega] at WD
        refine WD.mono ?_
        clear WD
        rintro e w4 ⟨rfl, ⟨F', hF1, hF2, d4⟩, k4⟩
        have HD4 := hide d4
        have HK4 := hide k4
        clear d4 k4
        go_wp2_with fail
        refine (Flush_dev (unhide HD4) (by show S.burn.down = false; rw [St.well_up hw]; exact hd) hf (by omega)).mono ?_
        rintro e w5 ⟨rfl, d5, k5⟩
        have H5 := hide (And.intro d5 k5)
        clear d5 k5
        go_wp2
        go_ret
        rw [unhide HP]
        have z5 := (unhide H5).2.size
        have z4 := (unhide HK4).size
        refine ⟨rfl, ⟨F', fun j hj => ?_, fun j hj => ?_, (unhide H5).1.mono (fun _ h => h) (by omega)⟩, ?_⟩
        · have := hF1 j hj; omega
        · rcases hF2 j hj with h | h
          · exact .inl h
          · exact .inr (by omega)
        · refine ((Kept.of_below (unhide HB3)).trans (unhide HK4)).trans' (unhide H5).2 fun j h1 h2 => ?_
          rcases hF2 j h2 with h | h
          · exact h
          · omega
      · have HP : Hid (S.putF r L = (2, (S.burn.wrote r L).burn)) := hide (by unfold St.putF; rw [if_pos hw, if_neg hf])
        go_wp2_with fail
        have WD := Write_own (unhide HD3) hFd (by omega) r L _ hrk hd hw (unhide HG) hL5 (by omega)
        rw [show ((r : Nat) : Int) = (k : Int) + 1 by omega] at WD
        refine WD.mono ?_
        clear WD
        rintro e w4 ⟨rfl, ⟨F', hF1, hF2, d4⟩, k4⟩
        have HD4 := hide d4
        have HK4 := hide k4
        clear d4 k4
        go_wp2_with fail
        refine (Flush_dev_burnt (unhide HD4) (by show S.burn.down = false; rw [St.well_up hw]; exact hd) hf (by omega)).mono ?_
        rintro e w5 ⟨rfl, d5, k5⟩
        have H5 := hide (And.intro d5 k5)
        clear d5 k5
        go_wp2
        go_ret
        rw [unhide HP]
        have z5 := (unhide H5).2.size
        have z4 := (unhide HK4).size
        refine ⟨rfl, ⟨F', fun j hj => ?_, fun j hj => ?_, (unhide H5).1.mono (fun _ h => h) (by omega)⟩, ?_⟩
        · have := hF1 j hj; omega
        · rcases hF2 j hj with h | h
          · exact .inl h
          · exact .inr (by omega)
        · refine ((Kept.of_below (unhide HB3)).trans (unhide HK4)).trans' (unhide H5).2 fun j h1 h2 => ?_
          rcases hF2 j h2 with h | h
          · exact h
          · omega
    · have HP : Hid (S.putF r L = (2, S.burn)) := hide (by unfold St.putF; rw [if_neg hw])
      go_wp2_with fail
      have WD := Write_dev_burnt (unhide HD3) r (some ⟨g, 0, none⟩) 512 hrk hd hw (by omega)
      rw [show ((r : Nat) : Int) = (k : Int) + 1 by omega] at WD
      refine WD.mono ?_
      clear WD
      rintro e w4 ⟨rfl, d4, k4⟩
      have HD4 := hide d4
      have HK4 := hide k4
      clear d4 k4
      go_wp2
      go_ret
      rw [unhide HP]
      have z4 := (unhide HK4).size
      refine ⟨rfl, ⟨F, fun j hj => ?_, fun j hj => .inl hj, (unhide HD4).mono (fun _ h => h) (by omega)⟩, (Kept.of_below (unhide HB3)).trans (unhide HK4)⟩
      have := hF j hj
      omega
  · have hcu : (((t.turn : Nat) : Int) + 1) % 4294967296 = (u : Nat) := by rw [hu]; unfold curS; rw [if_pos h0]; omega
    rw [h0]
    have hu2 : u < 4294967296 := by rw [hu]; omega
    clear hu
    obtain ⟨r, hr⟩ : ∃ r, r = k + 1 - 1 := ⟨_, rfl⟩
    have hrk : r < S.safe.length := by omega
    rw [← hr]
    go_enter Try.func25, Try.ntmps25
    go_wp2_with (first | (refine wpList_load_row rfl 62 (.tmp 6) rfl w.heap.size rfl 62 (twoC s t (.slice x nx cx) (.slice y ny cy)) (0, 0) _ (by rw [← hW]; exact unhide HB0) Try.underlying62 rfl sizeTwo ?_) | fail)
    rw [← hW]
    clear hW
    refine (newer_any s t _ _ _).mono ?_
    rintro e w1 ⟨rfl, b1⟩
    rw [h0]
    have c1 : w1.cell? ⟨w.heap.size, 5, none⟩ = some (.int .u32 (t.turn : Nat)) := (b1.cell (p := ⟨w.heap.size, 5, none⟩) (by show w.heap.size < _; omega)).trans (by simp [World.cell?, unhide HB0])
    have HS1 : Hid (w1.heap[w.heap.size + 1]? = some (.cells (slotC ⟨false, 0, cnt, d⟩ (.slice a n c)) 61 (0, 0))) := hide ((b1.block _ (by omega)).trans (unhide HS0))
    have e1 : w1.cell? ⟨w.heap.size + 1, 1, none⟩ = some (.int .u32 0) := by simp [World.cell?, unhide HS1]
    have f1 : w1.frozen? ⟨w.heap.size + 1, 1, none⟩ = false := by simp [World.frozen?, unhide HS1]
    have z1 := b1.size
    have HS2 : Hid ((w1.setCell ⟨w.heap.size + 1, 1, none⟩ (.int .u32 (u : Nat))).heap[w.heap.size + 1]? = some (.cells (slotC ⟨false, u, cnt, d⟩ (.slice a n c)) 61 (0, 0))) := hide (heap_setCell_same w1 (w.heap.size + 1) 1 _ 61 (.int .u32 (u : Nat)) (unhide HS1))
    have HB2 : Hid (Below w.heap.size w (w1.setCell ⟨w.heap.size + 1, 1, none⟩ (.int .u32 (u : Nat)))) := hide (((unhide HW).trans (b1.mono (by omega))).setCell (by show w.heap.size ≤ w.heap.size + 1; omega) _)
    have z2 : (w1.setCell ⟨w.heap.size + 1, 1, none⟩ (.int .u32 (u : Nat))).heap.size = w1.heap.size := by simp [World.setCell]
    clear b1
    go_wp2_with (first | (refine wpList_load_row rfl 61 (.tmp 7) rfl (w.heap.size + 1) rfl 61 (slotC ⟨false, u, cnt, d⟩ (.slice a n c)) (0, 0) _ (by first | exact unhide HS2 | (rw [hcu]; exact unhide HS2)) Try.underlying61 rfl sizeSlot ?_) | fail)
    (try rw [hcu])
    obtain ⟨w2, hw2⟩ : ∃ w2, w2 = w1.setCell ⟨w.heap.size + 1, 1, none⟩ (.int .u32 (u : Nat)) := ⟨_, rfl⟩
    rw [← hw2] at HB2 HS2 z2 ⊢
    clear hw2 c1 e1 f1 HS1
    refine (lay_any ⟨false, u, cnt, d⟩ a n c k w2 ((unhide HV).below (unhide HB2) (Nat.le_refl _)) (by omega) (by omega) hu2 hc0 hc1 hl).mono ?_
    rintro e w3 ⟨g, rfl, hg, hg3, b3⟩
    rw [← hL] at hg3
    have HG := hide (Sl.ofRow hL5 hg3)
    have HB3 := hide ((unhide HB2).trans (b3.mono (by omega)))
    have z3 := b3.size
    clear b3 hg3 HS2 HB2
    have hFd : ∀ j, F j → base ≤ j ∧ j < w3.heap.size := fun j hj => by have := hF j hj; omega
    have HD3 := hide ((unhide HD).grown (unhide HB3))
    clear HD
    by_cases hw : S.well
    · by_cases hf : (S.burn.wrote r L).well
      · have HP : Hid (S.putF r L = (0, (S.burn.wrote r L).burn.flushed)) := hide (by unfold St.putF; rw [if_pos hw, if_pos hf])
        go_wp2_with fail
        have WD := Write_own (unhide HD3) hFd (by omega) r L _ hrk hd hw (unhide HG) hL5 (by omega)
        rw [show ((r : Nat) : Int) = (k : Int) by omega] at WD
        refine WD.mono ?_
        clear WD
        rintro e w4 ⟨rfl, ⟨F', hF1, hF2, d4⟩, k4⟩
        have HD4 := hide d4
        have HK4 := hide k4
        clear d4 k4
        go_wp2_with fail
        refine (Flush_dev (unhide HD4) (by show S.burn.down = false; rw [St.well_up hw]; exact hd) hf (by omega)).mono ?_
        rintro e w5 ⟨rfl, d5, k5⟩
        have H5 := hide (And.intro d5 k5)
        clear d5 k5
        go_wp2
        go_ret
        rw [unhide HP]
        have z5 := (unhide H5).2.size
        have z4 := (unhide HK4).size
        refine ⟨rfl, ⟨F', fun j hj => ?_, fun j hj => ?_, (unhide H5).1.mono (fun _ h => h) (by omega)⟩, ?_⟩
        · have := hF1 j hj; omega
        · rcases hF2 j hj with h | h
          · exact .inl h
          · exact .inr (by omega)
        · refine ((Kept.of_below (unhide HB3)).trans (unhide HK4)).trans' (unhide H5).2 fun j h1 h2 => ?_
          rcases hF2 j h2 with h | h
          · exact h
          · omega
      · have HP : Hid (S.putF r L = (2, (S.burn.wrote r L).burn)) := hide (by unfold St.putF; rw [if_pos hw, if_neg hf])
        go_wp2_with fail
        have WD := Write_own (unhide HD3) hFd (by omega) r L _ hrk hd hw (unhide HG) hL5 (by omega)
        rw [show ((r : Nat) : Int) = (k : Int) by omega] at WD
        refine WD.mono ?_
        clear WD
        rintro e w4 ⟨rfl, ⟨F', hF1, hF2, d4⟩, k4⟩
        have HD4 := hide d4
        have HK4 := hide k4
        clear d4 k4
        go_wp2_with fail
        refine (Flush_dev_burnt (unhide HD4) (by show S.burn.down = false; rw [St.well_up hw]; exact hd) hf (by omega)).mono ?_
        rintro e w5 ⟨rfl, d5, k5⟩
        have H5 := hide (And.intro d5 k5)
        clear d5 k5
        go_wp2
        go_ret
        rw [unhide HP]
        have z5 := (unhide H5).2.size
        have z4 := (unhide HK4).size
        refine ⟨rfl, ⟨F', fun j hj => ?_, fun j hj => ?_, (unhide H5).1.mono (fun _ h => h) (by omega)⟩, ?_⟩
        · have := hF1 j hj; omega
        · rcases hF2 j hj with h | h
          · exact .inl h
          · exact .inr (by omega)
        · refine ((Kept.of_below (unhide HB3)).trans (unhide HK4)).trans' (unhide H5).2 fun j h1 h2 => ?_
          rcases hF2 j h2 with h | h
          · exact h
          · omega
    · have HP : Hid (S.putF r L = (2, S.burn)) := hide (by unfold St.putF; rw [if_neg hw])
      go_wp2_with fail
      have WD := Write_dev_burnt (unhide HD3) r (some ⟨g, 0, none⟩) 512 hrk hd hw (by omega)
      rw [show ((r : Nat) : Int) = (k : Int) by omega] at WD
      refine WD.mono ?_
      clear WD
      rintro e w4 ⟨rfl, d4, k4⟩
      have HD4 := hide d4
      have HK4 := hide k4
      clear d4 k4
      go_wp2
      go_ret
      rw [unhide HP]
      have z4 := (unhide HK4).size
      refine ⟨rfl, ⟨F, fun j hj => ?_, fun j hj => .inl hj, (unhide HD4).mono (fun _ h => h) (by omega)⟩, (Kept.of_below (unhide HB3)).trans (unhide HK4)⟩
      have := hF j hj
      omega
end Go.Proofs.Ytbgaomfoiooegaa
