/-
  DERIVED. The walk of write.
-/
import Derived.Test.YtnmmdefkmjlkaaaM3
import Derived.Test.YtnmmdefkmjlkaaaM2
import Derived.Deep.QuietTactic
import Derived.BigQuiet
namespace Go.Proofs.Ytnmmdefkmjlkaaa
open Go.RowKit
set_option linter.unusedVariables false

/-- Kept, one behind the other, where the later one has turned more of what is new. -/
theorem Kept.trans' {F G : Nat → Prop} {a b c : World} (h : Kept F a b) (k : Kept G b c) (hG : ∀ j, j < a.heap.size → G j → F j) : Kept F a c :=
  ⟨k.os.trans h.os, k.tape.trans h.tape, k.output.trans h.output, Nat.le_trans h.size k.size, fun i hi hn => (k.block i (Nat.lt_of_lt_of_le hi h.size) fun hg => hn (hG i hi hg)).trans (h.block i hi hn)⟩

set_option maxRecDepth 20000 in
set_option maxHeartbeats 2000000 in
theorem write_any {w : World} {b base : Nat} {F : Nat → Prop} {N : Nat} {S : St} (h : Dev w b F N S) (hF : ∀ k, F k → base ≤ k ∧ k < w.heap.size) (hbs : base ≤ w.heap.size) (k : Nat) (hk : k + 1 < S.safe.length) (hd : S.down = false) (hN : N < 900000)
    (s t : Slot) (x y : Option Addr) (nx cx ny cy : Nat) (hst : s.turn < 4294967296) (htt : t.turn < 4294967296) (cnt : Int) (hc0 : 0 ≤ cnt) (hc1 : cnt ≤ 9223372036854775807) (a : Option Addr) (n c : Nat) (d : List UInt8) (hv : Sl w (.slice a n c) d) (hl : d.length ≤ 400) :
    Calls Try.prog 15 #[.pointer (some ⟨b, 0, none⟩), .int .i64 k, .agg (twoC s t (.slice x nx cx) (.slice y ny cy)), .agg (slotC ⟨false, 0, cnt, d⟩ (.slice a n c))] w fun e w' => e = .returned (.int .i64 (S.putF (k + 1 - newR s t) (slotL ⟨false, ((curS s t).turn + 1) % 4294967296, cnt, d⟩ k)).1) ∧
      (∃ F', (∀ j, F' j → base ≤ j ∧ j < w'.heap.size) ∧ (∀ j, F' j → F j ∨ w.heap.size ≤ j) ∧ Dev w' b F' (N + 4) (S.putF (k + 1 - newR s t) (slotL ⟨false, ((curS s t).turn + 1) % 4294967296, cnt, d⟩ k)).2) ∧ Kept F w w' := by
  have hs : S.safe.length ≤ 512 := by obtain ⟨g, c, m, vf, D, h0⟩ := h; exact h0.n2
  have HD := hide h
  have HV := hide hv
  clear h hv
  obtain ⟨u, hu⟩ : ∃ u, u = ((curS s t).turn + 1) % 4294967296 := ⟨_, rfl⟩
  obtain ⟨L, hL⟩ : ∃ L, L = slotL ⟨false, u, cnt, d⟩ k := ⟨_, rfl⟩
  have hL5 : L.length = 512 := by rw [hL]; exact slotL_len _ _ hl
  rw [← hu, ← hL]
  obtain ⟨W, hW⟩ : ∃ W, W = (w.alloc (.cells (twoC s t (.slice x nx cx) (.slice y ny cy)) 50)).alloc (.cells (slotC ⟨false, 0, cnt, d⟩ (.slice a n c)) 49) := ⟨_, rfl⟩
  have HW : Hid (Below w.heap.size w W) := hide (by rw [hW]; exact ((Below.refl _ _).alloc (Nat.le_refl _) _).alloc (by simp) _)
  have HB0 : Hid (W.heap[w.heap.size]? = some (.cells (twoC s t (.slice x nx cx) (.slice y ny cy)) 50 (0, 0))) := hide (by rw [hW, Below.heap_alloc _ _ _ (by simp)]; exact heap_alloc_self _ _)
  have HS0 : Hid (W.heap[w.heap.size + 1]? = some (.cells (slotC ⟨false, 0, cnt, d⟩ (.slice a n c)) 49 (0, 0))) := hide (by rw [hW]; have := heap_alloc_self (w.alloc (.cells (twoC s t (.slice x nx cx) (.slice y ny cy)) 50)) (.cells (slotC ⟨false, 0, cnt, d⟩ (.slice a n c)) 49); simpa using this)
  have sW : W.heap.size = w.heap.size + 2 := by rw [hW]; simp
  rcases newR_or s t with h0 | h0
  · have hcu : (((s.turn : Nat) : Int) + 1) % 4294967296 = (u : Nat) := by rw [hu]; unfold curS; rw [if_neg (by omega)]; omega
    rw [h0]
    have hu2 : u < 4294967296 := by rw [hu]; omega
    clear hu
    obtain ⟨r, hr⟩ : ∃ r, r = k + 1 - 0 := ⟨_, rfl⟩
    have hrk : r < S.safe.length := by omega
    rw [← hr]
    go_enter Try.func15, Try.ntmps15
    go_wp2_with (first | (refine wpList_load_row rfl 50 (.tmp 6) rfl w.heap.size rfl 50 (twoC s t (.slice x nx cx) (.slice y ny cy)) (0, 0) _ (by rw [← hW]; exact unhide HB0) Try.underlying50 rfl sizeTwo ?_) | fail)
    rw [← hW]
    clear hW
    refine (newer_any s t _ _ _).mono ?_
    rintro e w1 ⟨rfl, b1⟩
    rw [h0]
    have c1 : w1.cell? ⟨w.heap.size, 1, none⟩ = some (.int .u32 (s.turn : Nat)) := (b1.cell (p := ⟨w.heap.size, 1, none⟩) (by show w.heap.size < _; omega)).trans (by simp [World.cell?, unhide HB0])
    have HS1 : Hid (w1.heap[w.heap.size + 1]? = some (.cells (slotC ⟨false, 0, cnt, d⟩ (.slice a n c)) 49 (0, 0))) := hide ((b1.block _ (by omega)).trans (unhide HS0))
    have e1 : w1.cell? ⟨w.heap.size + 1, 1, none⟩ = some (.int .u32 0) := by simp [World.cell?, unhide HS1]
    have f1 : w1.frozen? ⟨w.heap.size + 1, 1, none⟩ = false := by simp [World.frozen?, unhide HS1]
    have z1 := b1.size
    have HS2 : Hid ((w1.setCell ⟨w.heap.size + 1, 1, none⟩ (.int .u32 (u : Nat))).heap[w.heap.size + 1]? = some (.cells (slotC ⟨false, u, cnt, d⟩ (.slice a n c)) 49 (0, 0))) := hide (heap_setCell_same w1 (w.heap.size + 1) 1 _ 49 (.int .u32 (u : Nat)) (unhide HS1))
    have HB2 : Hid (Below w.heap.size w (w1.setCell ⟨w.heap.size + 1, 1, none⟩ (.int .u32 (u : Nat)))) := hide (((unhide HW).trans (b1.mono (by omega))).setCell (by show w.heap.size ≤ w.heap.size + 1; omega) _)
    have z2 : (w1.setCell ⟨w.heap.size + 1, 1, none⟩ (.int .u32 (u : Nat))).heap.size = w1.heap.size := by simp [World.setCell]
    clear b1
    go_wp2_with (first | (refine wpList_load_row rfl 49 (.tmp 7) rfl (w.heap.size + 1) rfl 49 (slotC ⟨false, u, cnt, d⟩ (.slice a n c)) (0, 0) _ (by first | exact unhide HS2 | (rw [hcu]; exact unhide HS2)) Try.underlying49 rfl sizeSlot ?_) | fail)
    (try rw [hcu])
    obtain ⟨w2, hw2⟩ : ∃ w2, w2 = w1.setCell ⟨w.heap.size + 1, 1, none⟩ (.int .u32 (u : Nat)) := ⟨_, rfl⟩
    rw [← hw2] at HB2 HS2 z2 ⊢
    clear hw2 c1 e1 f1 HS1
    refine (lay_any ⟨false, u, cnt, d⟩ a n c k w2 ((unhide HV).below (unhide HB2) (Nat.le_refl _)) (by omega) (by omega) hu2 hc0 hc1 hl).mono ?_
    rintro e w3 ⟨g, rfl, hg, hg3, b3⟩
    rw [← hL] at hg3
    have HG := hide (Sl.ofRow hL5 hg3)
    have HB3 := hide ((unhide HB2).trans (b3.mono (by omega)))
    have z3 := b3.size
    clear b3 hg3 HS2 HB2
    have hFd : ∀ j, F j → base ≤ j ∧ j < w3.heap.size := fun j hj => by have := hF j hj; omega
    have HD3 := hide ((unhide HD).grown (unhide HB3))
    clear HD
    by_cases hw : S.well
    · by_cases hf : (S.burn.wrote r L).well
      · have HP : Hid (S.putF r L = (0, (S.burn.wrote r L).burn.flushed)) := hide (by unfold St.putF; rw [if_pos hw, if_pos hf])
        go_wp2_with fail
        have WD := Write_own (unhide HD3) hFd (by omega) r L _ hrk hd hw (unhide HG) hL5 (by omega)
        rw [show ((r : Nat) : Int) = (k : Int) + 1 by omega] at WD
        refine WD.mono ?_
        clear WD
        rintro e w4 ⟨rfl, ⟨F', hF1, hF2, d4⟩, k4⟩
        have HD4 := hide d4
        have HK4 := hide k4
        clear d4 k4
        go_wp2_with fail
        refine (Flush_dev (unhide HD4) (by show S.burn.down = false; rw [St.well_up hw]; exact hd) hf (by omega)).mono ?_
        rintro e w5 ⟨rfl, d5, k5⟩
        have H5 := hide (And.intro d5 k5)
        clear d5 k5
        go_wp2
        go_ret
        rw [unhide HP]
        have z5 := (unhide H5).2.size
        have z4 := (unhide HK4).size
        refine ⟨rfl, ⟨F', fun j hj => ?_, fun j hj => ?_, (unhide H5).1.mono (fun _ h => h) (by omega)⟩, ?_⟩
        · have := hF1 j hj; omega
        · rcases hF2 j hj with h | h
          · exact .inl h
          · exact .inr (by omega)
        · refine ((Kept.of_below (unhide HB3)).trans (unhide HK4)).trans' (unhide H5).2 fun j h1 h2 => ?_
          rcases hF2 j h2 with h | h
          · exact h
          · omega
      · have HP : Hid (S.putF r L = (2, (S.burn.wrote r L).burn)) := hide (by unfold St.putF; rw [if_pos hw, if_neg hf])
        go_wp2_with fail
        have WD := Write_own (unhide HD3) hFd (by omega) r L _ hrk hd hw (unhide HG) hL5 (by omega)
        rw [show ((r : Nat) : Int) = (k : Int) + 1 by omega] at WD
        refine WD.mono ?_
        clear WD
        rintro e w4 ⟨rfl, ⟨F', hF1, hF2, d4⟩, k4⟩
        have HD4 := hide d4
        have HK4 := hide k4
        clear d4 k4
        go_wp2_with fail
        refine (Flush_dev_burnt (unhide HD4) (by show S.burn.down = false; rw [St.well_up hw]; exact hd) hf (by omega)).mono ?_
        rintro e w5 ⟨rfl, d5, k5⟩
        have H5 := hide (And.intro d5 k5)
        clear d5 k5
        go_wp2
        go_ret
        rw [unhide HP]
        have z5 := (unhide H5).2.size
        have z4 := (unhide HK4).size
        refine ⟨rfl, ⟨F', fun j hj => ?_, fun j hj => ?_, (unhide H5).1.mono (fun _ h => h) (by omega)⟩, ?_⟩
        · have := hF1 j hj; omega
        · rcases hF2 j hj with h | h
          · exact .inl h
          · exact .inr (by omega)
        · refine ((Kept.of_below (unhide HB3)).trans (unhide HK4)).trans' (unhide H5).2 fun j h1 h2 => ?_
          rcases hF2 j h2 with h | h
          · exact h
          · omega
    · have HP : Hid (S.putF r L = (2, S.burn)) := hide (by unfold St.putF; rw [if_neg hw])
      go_wp2_with fail
      have WD := Write_dev_burnt (unhide HD3) r (some ⟨g, 0, none⟩) 512 hrk hd hw (by omega)
      rw [show ((r : Nat) : Int) = (k : Int) + 1 by omega] at WD
      refine WD.mono ?_
      clear WD
      rintro e w4 ⟨rfl, d4, k4⟩
      have HD4 := hide d4
      have HK4 := hide k4
      clear d4 k4
      go_wp2
      go_ret
      rw [unhide HP]
      have z4 := (unhide HK4).size
      refine ⟨rfl, ⟨F, fun j hj => ?_, fun j hj => .inl hj, (unhide HD4).mono (fun _ h => h) (by omega)⟩, (Kept.of_below (unhide HB3)).trans (unhide HK4)⟩
      have := hF j hj
      omega
  · have hcu : (((t.turn : Nat) : Int) + 1) % 4294967296 = (u : Nat) := by rw [hu]; unfold curS; rw [if_pos h0]; omega
    rw [h0]
    have hu2 : u < 4294967296 := by rw [hu]; omega
    clear hu
    obtain ⟨r, hr⟩ : ∃ r, r = k + 1 - 1 := ⟨_, rfl⟩
    have hrk : r < S.safe.length := by omega
    rw [← hr]
    go_enter Try.func15, Try.ntmps15
    go_wp2_with (first | (refine wpList_load_row rfl 50 (.tmp 6) rfl w.heap.size rfl 50 (twoC s t (.slice x nx cx) (.slice y ny cy)) (0, 0) _ (by rw [← hW]; exact unhide HB0) Try.underlying50 rfl sizeTwo ?_) | fail)
    rw [← hW]
    clear hW
    refine (newer_any s t _ _ _).mono ?_
    rintro e w1 ⟨rfl, b1⟩
    rw [h0]
    have c1 : w1.cell? ⟨w.heap.size, 5, none⟩ = some (.int .u32 (t.turn : Nat)) := (b1.cell (p := ⟨w.heap.size, 5, none⟩) (by show w.heap.size < _; omega)).trans (by simp [World.cell?, unhide HB0])
    have HS1 : Hid (w1.heap[w.heap.size + 1]? = some (.cells (slotC ⟨false, 0, cnt, d⟩ (.slice a n c)) 49 (0, 0))) := hide ((b1.block _ (by omega)).trans (unhide HS0))
    have e1 : w1.cell? ⟨w.heap.size + 1, 1, none⟩ = some (.int .u32 0) := by simp [World.cell?, unhide HS1]
    have f1 : w1.frozen? ⟨w.heap.size + 1, 1, none⟩ = false := by simp [World.frozen?, unhide HS1]
    have z1 := b1.size
    have HS2 : Hid ((w1.setCell ⟨w.heap.size + 1, 1, none⟩ (.int .u32 (u : Nat))).heap[w.heap.size + 1]? = some (.cells (slotC ⟨false, u, cnt, d⟩ (.slice a n c)) 49 (0, 0))) := hide (heap_setCell_same w1 (w.heap.size + 1) 1 _ 49 (.int .u32 (u : Nat)) (unhide HS1))
    have HB2 : Hid (Below w.heap.size w (w1.setCell ⟨w.heap.size + 1, 1, none⟩ (.int .u32 (u : Nat)))) := hide (((unhide HW).trans (b1.mono (by omega))).setCell (by show w.heap.size ≤ w.heap.size + 1; omega) _)
    have z2 : (w1.setCell ⟨w.heap.size + 1, 1, none⟩ (.int .u32 (u : Nat))).heap.size = w1.heap.size := by simp [World.setCell]
    clear b1
    go_wp2_with (first | (refine wpList_load_row rfl 49 (.tmp 7) rfl (w.heap.size + 1) rfl 49 (slotC ⟨false, u, cnt, d⟩ (.slice a n c)) (0, 0) _ (by first | exact unhide HS2 | (rw [hcu]; exact unhide HS2)) Try.underlying49 rfl sizeSlot ?_) | fail)
    (try rw [hcu])
    obtain ⟨w2, hw2⟩ : ∃ w2, w2 = w1.setCell ⟨w.heap.size + 1, 1, none⟩ (.int .u32 (u : Nat)) := ⟨_, rfl⟩
    rw [← hw2] at HB2 HS2 z2 ⊢
    clear hw2 c1 e1 f1 HS1
    refine (lay_any ⟨false, u, cnt, d⟩ a n c k w2 ((unhide HV).below (unhide HB2) (Nat.le_refl _)) (by omega) (by omega) hu2 hc0 hc1 hl).mono ?_
    rintro e w3 ⟨g, rfl, hg, hg3, b3⟩
    rw [← hL] at hg3
    have HG := hide (Sl.ofRow hL5 hg3)
    have HB3 := hide ((unhide HB2).trans (b3.mono (by omega)))
    have z3 := b3.size
    clear b3 hg3 HS2 HB2
    have hFd : ∀ j, F j → base ≤ j ∧ j < w3.heap.size := fun j hj => by have := hF j hj; omega
    have HD3 := hide ((unhide HD).grown (unhide HB3))
    clear HD
    by_cases hw : S.well
    · by_cases hf : (S.burn.wrote r L).well
      · have HP : Hid (S.putF r L = (0, (S.burn.wrote r L).burn.flushed)) := hide (by unfold St.putF; rw [if_pos hw, if_pos hf])
        go_wp2_with fail
        have WD := Write_own (unhide HD3) hFd (by omega) r L _ hrk hd hw (unhide HG) hL5 (by omega)
        rw [show ((r : Nat) : Int) = (k : Int) by omega] at WD
        refine WD.mono ?_
        clear WD
        rintro e w4 ⟨rfl, ⟨F', hF1, hF2, d4⟩, k4⟩
        have HD4 := hide d4
        have HK4 := hide k4
        clear d4 k4
        go_wp2_with fail
        refine (Flush_dev (unhide HD4) (by show S.burn.down = false; rw [St.well_up hw]; exact hd) hf (by omega)).mono ?_
        rintro e w5 ⟨rfl, d5, k5⟩
        have H5 := hide (And.intro d5 k5)
        clear d5 k5
        go_wp2
        go_ret
        rw [unhide HP]
        have z5 := (unhide H5).2.size
        have z4 := (unhide HK4).size
        refine ⟨rfl, ⟨F', fun j hj => ?_, fun j hj => ?_, (unhide H5).1.mono (fun _ h => h) (by omega)⟩, ?_⟩
        · have := hF1 j hj; omega
        · rcases hF2 j hj with h | h
          · exact .inl h
          · exact .inr (by omega)
        · refine ((Kept.of_below (unhide HB3)).trans (unhide HK4)).trans' (unhide H5).2 fun j h1 h2 => ?_
          rcases hF2 j h2 with h | h
          · exact h
          · omega
      · have HP : Hid (S.putF r L = (2, (S.burn.wrote r L).burn)) := hide (by unfold St.putF; rw [if_pos hw, if_neg hf])
        go_wp2_with fail
        have WD := Write_own (unhide HD3) hFd (by omega) r L _ hrk hd hw (unhide HG) hL5 (by omega)
        rw [show ((r : Nat) : Int) = (k : Int) by omega] at WD
        refine WD.mono ?_
        clear WD
        rintro e w4 ⟨rfl, ⟨F', hF1, hF2, d4⟩, k4⟩
        have HD4 := hide d4
        have HK4 := hide k4
        clear d4 k4
        go_wp2_with fail
        refine (Flush_dev_burnt (unhide HD4) (by show S.burn.down = false; rw [St.well_up hw]; exact hd) hf (by omega)).mono ?_
        rintro e w5 ⟨rfl, d5, k5⟩
        have H5 := hide (And.intro d5 k5)
        clear d5 k5
        go_wp2
        go_ret
        rw [unhide HP]
        have z5 := (unhide H5).2.size
        have z4 := (unhide HK4).size
        refine ⟨rfl, ⟨F', fun j hj => ?_, fun j hj => ?_, (unhide H5).1.mono (fun _ h => h) (by omega)⟩, ?_⟩
        · have := hF1 j hj; omega
        · rcases hF2 j hj with h | h
          · exact .inl h
          · exact .inr (by omega)
        · refine ((Kept.of_below (unhide HB3)).trans (unhide HK4)).trans' (unhide H5).2 fun j h1 h2 => ?_
          rcases hF2 j h2 with h | h
          · exact h
          · omega
    · have HP : Hid (S.putF r L = (2, S.burn)) := hide (by unfold St.putF; rw [if_neg hw])
      go_wp2_with fail
      have WD := Write_dev_burnt (unhide HD3) r (some ⟨g, 0, none⟩) 512 hrk hd hw (by omega)
      rw [show ((r : Nat) : Int) = (k : Int) by omega] at WD
      refine WD.mono ?_
      clear WD
      rintro e w4 ⟨rfl, d4, k4⟩
      have HD4 := hide d4
      have HK4 := hide k4
      clear d4 k4
      go_wp2
      go_ret
      rw [unhide HP]
      have z4 := (unhide HK4).size
      refine ⟨rfl, ⟨F, fun j hj => ?_, fun j hj => .inl hj, (unhide HD4).mono (fun _ h => h) (by omega)⟩, (Kept.of_below (unhide HB3)).trans (unhide HK4)⟩
      have := hF j hj
      omega
end Go.Proofs.Ytnmmdefkmjlkaaa

/-
  DERIVED. No device: Format, Load, Store on a nil pointer.
-/
namespace Go.Proofs.Ytnmmdefkmjlkaaa
open Go.RowKit
set_option linter.unusedVariables false

theorem Format_nil (at_ : Int) (v : Value) (w : World) : Calls Try.prog 6 #[.pointer none, .int .i64 at_, v] w fun e w' => e = .returned (.int .i64 1) ∧ w = w' := by
  go_enter Try.func6, Try.ntmps6
  go_wp2_with (go_at_call 13; refine (check_nil _ _ _).mono ?_; rintro e w' ⟨rfl, rfl⟩)
  go_ret
  exact ⟨rfl, rfl⟩
theorem Store_nil (at_ : Int) (v : Value) (w : World) : Calls Try.prog 12 #[.pointer none, .int .i64 at_, v] w fun e w' => e = .returned (.int .i64 1) ∧ w = w' := by
  go_enter Try.func12, Try.ntmps12
  go_wp2_with (go_at_call 13; refine (check_nil _ _ _).mono ?_; rintro e w' ⟨rfl, rfl⟩)
  go_ret
  exact ⟨rfl, rfl⟩
theorem Load_nil (at_ : Int) (w : World) : Calls Try.prog 7 #[.pointer none, .int .i64 at_] w fun e w' => e = .returned (.tuple #[.slice none 0 0, .int .i64 0, .int .i64 1]) ∧ w = w' := by
  go_enter Try.func7, Try.ntmps7
  go_wp2_with (go_at_call 13; refine (check_nil _ _ _).mono ?_; rintro e w' ⟨rfl, rfl⟩)
  go_ret3
  exact ⟨rfl, rfl⟩

section
variable {w : World} {b : Nat} {pm : Value} {fused : Bool} {fuse : Int} {down : Bool} {ops : Int} {a : Option Addr} {n c : Nat}
theorem Format_bad (at_ : Int) (x : Option Addr) (l q : Nat) (h : DevAt w b (.slice a n c) pm fused fuse down ops) (hn : n ≤ 512) (hE : chkE n at_ l ≠ 0) :
    Calls Try.prog 6 #[.pointer (some ⟨b, 0, none⟩), .int .i64 at_, .slice x l q] w fun e w' => e = .returned (.int .i64 (chkE n at_ l)) ∧ ∀ B, Below B w w' := by
  have HD := hide h
  clear h
  have hne : (chkE n at_ l != 0) = true := by rw [bne_iff_ne]; exact hE
  go_enter Try.func6, Try.ntmps6
  go_wp2_with fail
  refine (check_dev at_ x l q (unhide HD) hn).mono ?_
  rintro e w' ⟨rfl, bb⟩
  have HB := hide bb
  clear bb
  go_wp2
  go_ret
  exact ⟨rfl, unhide HB⟩
theorem Store_bad (at_ : Int) (x : Option Addr) (l q : Nat) (h : DevAt w b (.slice a n c) pm fused fuse down ops) (hn : n ≤ 512) (hE : chkE n at_ l ≠ 0) :
    Calls Try.prog 12 #[.pointer (some ⟨b, 0, none⟩), .int .i64 at_, .slice x l q] w fun e w' => e = .returned (.int .i64 (chkE n at_ l)) ∧ ∀ B, Below B w w' := by
  have HD := hide h
  clear h
  have hne : (chkE n at_ l != 0) = true := by rw [bne_iff_ne]; exact hE
  go_enter Try.func12, Try.ntmps12
  go_wp2_with fail
  refine (check_dev at_ x l q (unhide HD) hn).mono ?_
  rintro e w' ⟨rfl, bb⟩
  have HB := hide bb
  clear bb
  go_wp2
  go_ret
  exact ⟨rfl, unhide HB⟩
theorem Load_bad (at_ : Int) (h : DevAt w b (.slice a n c) pm fused fuse down ops) (hn : n ≤ 512) (hE : chkE n at_ 0 ≠ 0) :
    Calls Try.prog 7 #[.pointer (some ⟨b, 0, none⟩), .int .i64 at_] w fun e w' => e = .returned (.tuple #[.slice none 0 0, .int .i64 0, .int .i64 (chkE n at_ 0)]) ∧ ∀ B, Below B w w' := by
  have HD := hide h
  clear h
  have hne : (chkE n at_ 0 != 0) = true := by rw [bne_iff_ne]; exact hE
  go_enter Try.func7, Try.ntmps7
  go_wp2_with fail
  refine (check_dev at_ none 0 0 (unhide HD) hn).mono ?_
  rintro e w' ⟨rfl, bb⟩
  have HB := hide bb
  clear bb
  go_wp2
  go_ret3
  exact ⟨rfl, unhide HB⟩
end
end Go.Proofs.Ytnmmdefkmjlkaaa

/-
  DERIVED. Format over a device in memory.
-/
namespace Go.Proofs.Ytnmmdefkmjlkaaa
open Go.RowKit
set_option linter.unusedVariables false

theorem Sl.kept' {F : Nat → Prop} {w w' : World} {a : Option Addr} {n c : Nat} {l : List UInt8} (h : Sl w (.slice a n c) l) (hk : Kept F w w') (hF : c ≠ 0 → ∀ ad, a = some ad → ¬ F ad.block) : Sl w' (.slice a n c) l := by
  by_cases hc : c = 0
  · obtain ⟨ao, cap, e, h1, h2, h4⟩ := h
    have ec : c = cap := by injection e
    exact ⟨ao, cap, e, h1, h2, fun h => absurd (ec.symm.trans hc) (by simpa using h)⟩
  · exact h.kept hk (hF hc)
theorem chk_ok {n : Nat} {k l : Nat} (hk : k + 1 < n) (hl : l ≤ 400) : chkE n k l = 0 := by unfold chkE; rw [if_neg (by omega), if_neg (by omega)]
/-- check, where it refuses nothing. -/
theorem check_ok {w : World} {b : Nat} {F : Nat → Prop} {N : Nat} {S : St} (h : Dev w b F N S) (k : Nat) (hk : k + 1 < S.safe.length) (a : Option Addr) (n c : Nat) (hl : n ≤ 400) :
    Calls Try.prog 13 #[.pointer (some ⟨b, 0, none⟩), .int .i64 k, .slice a n c] w fun e w' => e = .returned (.int .i64 0) ∧ Below w.heap.size w w' := by
  obtain ⟨g, c', m, vf, D, h0⟩ := h
  refine (check_dev k a n c h0.dev h0.n2).mono ?_
  rintro e w' ⟨rfl, hb⟩
  exact ⟨by rw [chk_ok hk hl], hb _⟩

set_option maxRecDepth 20000 in
set_option maxHeartbeats 2000000 in
theorem Format_dev {w : World} {b base : Nat} {F : Nat → Prop} {N : Nat} {S : St} (h : Dev w b F N S) (hF : ∀ k, F k → base ≤ k ∧ k < w.heap.size) (hbs : base ≤ w.heap.size) (k : Nat) (hk : k + 1 < S.safe.length) (hN : N < 800000)
    (a : Option Addr) (n c : Nat) (d : List UInt8) (hv : Sl w (.slice a n c) d) (hva : c ≠ 0 → ∀ ad, a = some ad → ¬ F ad.block) (hl : d.length ≤ 400) (hn : n = d.length) :
    Calls Try.prog 6 #[.pointer (some ⟨b, 0, none⟩), .int .i64 k, .slice a n c] w fun e w' => e = .returned (.int .i64 (S.format k d).1) ∧
      (∃ F', (∀ j, F' j → base ≤ j ∧ j < w'.heap.size) ∧ (∀ j, F' j → F j ∨ w.heap.size ≤ j) ∧ Dev w' b F' (N + 6) (S.format k d).2) ∧ Kept F w w' := by
  have hs : S.safe.length ≤ 512 := by obtain ⟨g, c, m, vf, D, h0⟩ := h; exact h0.n2
  subst hn
  have HD := hide h
  have HV := hide hv
  clear h hv
  go_enter Try.func6, Try.ntmps6
  go_wp2_with fail
  refine (check_ok (unhide HD) k hk a _ c (by omega)).mono ?_
  rintro e w1 ⟨rfl, b1⟩
  have HB1 := hide b1
  have z1 := b1.size
  have HD1 := hide ((unhide HD).grown b1)
  have HV1 := hide ((unhide HV).below b1 (Nat.le_refl _))
  clear b1 HD HV
  have hF1 : ∀ j, F j → j < w1.heap.size := fun j hj => by have := hF j hj; omega
  by_cases hr : S.reads
  · go_wp2_with fail
    refine (read_well (unhide HD1) k hk hr (by omega) hF1).mono ?_
    rintro e w2 ⟨a1, n1, c1, a2, n2, c2, rfl, f1, f2, l1, l2, d2, k2⟩
    obtain ⟨s1, hs1⟩ : ∃ s, unl k (S.newest k) = s := ⟨_, rfl⟩
    obtain ⟨s2, hs2⟩ : ∃ s, unl k (S.newest (k + 1)) = s := ⟨_, rfl⟩
    rw [hs1, hs2]
    have HE : Hid (S.format k d = S.burn.burn.putF (k + 1 - newR s1 s2) (slotL ⟨false, ((curS s1 s2).turn + 1) % 4294967296, 0, d⟩ k)) := hide (by unfold St.format; rw [if_pos hr, ← hs1, ← hs2]; rfl)
    have t1 : s1.turn < 4294967296 := by rw [← hs1]; exact (unl_is _ _).1
    have t2 : s2.turn < 4294967296 := by rw [← hs2]; exact (unl_is _ _).1
    have HD2 := hide d2
    have HK2 := hide k2
    have z2 := k2.size
    have HV2 := hide ((unhide HV1).kept' k2 hva)
    clear d2 k2 l1 l2 f1 f2 HD1 HV1 hs1 hs2
    obtain ⟨W2, hW2⟩ : ∃ W2, W2 = w2.alloc (.cells (twoC s1 s2 (.slice a1 n1 c1) (.slice a2 n2 c2)) 50) := ⟨_, rfl⟩
    have HBW : Hid (Below w2.heap.size w2 W2) := hide (by rw [hW2]; exact (Below.refl _ _).alloc (Nat.le_refl _) _)
    have zW : W2.heap.size = w2.heap.size + 1 := by rw [hW2]; simp
    go_wp2_with (first | (refine wpList_load_row rfl 50 (.tmp 8) rfl w2.heap.size rfl 50 (twoC s1 s2 (.slice a1 n1 c1) (.slice a2 n2 c2)) (0, 0) _ (by exact heap_alloc_self _ _) Try.underlying50 rfl sizeTwo ?_) | fail)
    rw [← hW2]
    clear hW2
    refine (write_any (base := base) ((unhide HD2).grown (unhide HBW)) (fun j hj => by have := hF j hj; omega) (by omega) k hk (by show S.burn.burn.down = false; rw [St.well_up hr.2.2, St.well_up hr.2.1]; exact hr.1) (by omega) s1 s2 a1 a2 n1 c1 n2 c2 t1 t2 0 (by decide) (by decide) a _ c d ((unhide HV2).below (unhide HBW) (Nat.le_refl _)) hl).mono ?_
    rintro e w3 ⟨rfl, ⟨F', g1, g2, g3⟩, k3⟩
    have z3 := k3.size
    have H3 := hide (And.intro g3 k3)
    clear g3 k3
    rw [← unhide HE] at H3 ⊢
    go_wp2
    go_ret
    refine ⟨rfl, ⟨F', fun j hj => g1 j hj, fun j hj => ?_, (unhide H3).1⟩, ?_⟩
    · rcases g2 j hj with h | h
      · exact .inl h
      · exact .inr (by omega)
    · exact (((Kept.of_below (unhide HB1)).trans (unhide HK2)).trans (Kept.of_below (unhide HBW))).trans (unhide H3).2
  · have HE : Hid (S.format k d = (2, S.halted)) := hide (by unfold St.format; rw [if_neg hr])
    go_wp2_with fail
    refine (read_stops (unhide HD1) k hk hr (by omega) hF1).mono ?_
    rintro e w2 ⟨rfl, d2, k2⟩
    have HD2 := hide d2
    have HK2 := hide k2
    have z2 := k2.size
    clear d2 k2
    have HBW := hide ((Below.refl w2.heap.size w2).alloc (Nat.le_refl _) (.cells two0 50))
    have zW : (w2.alloc (.cells two0 50)).heap.size = w2.heap.size + 1 := by simp
    go_wp2
    go_ret
    rw [unhide HE]
    refine ⟨rfl, ⟨F, fun j hj => ?_, fun j hj => .inl hj, ((unhide HD2).grown (unhide HBW)).mono (fun _ h => h) (by omega)⟩, ((Kept.of_below (unhide HB1)).trans (unhide HK2)).trans (Kept.of_below (unhide HBW))⟩
    have := hF j hj
    show base ≤ j ∧ j < (w2.alloc (.cells two0 50)).heap.size
    omega
end Go.Proofs.Ytnmmdefkmjlkaaa

/-
  DERIVED. Store over a device in memory.
-/
namespace Go.Proofs.Ytnmmdefkmjlkaaa
open Go.RowKit
set_option linter.unusedVariables false

set_option maxRecDepth 20000 in
set_option maxHeartbeats 2000000 in
theorem Store_dev {w : World} {b base : Nat} {F : Nat → Prop} {N : Nat} {S : St} (h : Dev w b F N S) (hF : ∀ k, F k → base ≤ k ∧ k < w.heap.size) (hbs : base ≤ w.heap.size) (k : Nat) (hk : k + 1 < S.safe.length) (hN : N < 800000)
    (a : Option Addr) (n c : Nat) (d : List UInt8) (hv : Sl w (.slice a n c) d) (hva : c ≠ 0 → ∀ ad, a = some ad → ¬ F ad.block) (hl : d.length ≤ 400) (hn : n = d.length) (hct : (S.rcd k).count < 9223372036854775807) :
    Calls Try.prog 12 #[.pointer (some ⟨b, 0, none⟩), .int .i64 k, .slice a n c] w fun e w' => e = .returned (.int .i64 (S.store k d).1) ∧
      (∃ F', (∀ j, F' j → base ≤ j ∧ j < w'.heap.size) ∧ (∀ j, F' j → F j ∨ w.heap.size ≤ j) ∧ Dev w' b F' (N + 6) (S.store k d).2) ∧ Kept F w w' := by
  have hs : S.safe.length ≤ 512 := by obtain ⟨g, c, m, vf, D, h0⟩ := h; exact h0.n2
  subst hn
  have HD := hide h
  have HV := hide hv
  clear h hv
  go_enter Try.func12, Try.ntmps12
  go_wp2_with fail
  refine (check_ok (unhide HD) k hk a _ c (by omega)).mono ?_
  rintro e w1 ⟨rfl, b1⟩
  have HB1 := hide b1
  have z1 := b1.size
  have HD1 := hide ((unhide HD).grown b1)
  have HV1 := hide ((unhide HV).below b1 (Nat.le_refl _))
  clear b1 HD HV
  have hF1 : ∀ j, F j → j < w1.heap.size := fun j hj => by have := hF j hj; omega
  by_cases hr : S.reads
  · go_wp2_with fail
    refine (read_well (unhide HD1) k hk hr (by omega) hF1).mono ?_
    rintro e w2 ⟨a1, n1, c1, a2, n2, c2, rfl, f1, f2, l1, l2, d2, k2⟩
    have hrc : S.rcd k = curS (unl k (S.newest k)) (unl k (S.newest (k + 1))) := rfl
    obtain ⟨s1, hs1⟩ : ∃ s, unl k (S.newest k) = s := ⟨_, rfl⟩
    obtain ⟨s2, hs2⟩ : ∃ s, unl k (S.newest (k + 1)) = s := ⟨_, rfl⟩
    rw [hs1, hs2] at hrc ⊢
    have HE : Hid (S.store k d = if (S.rcd k).laid = true then S.burn.burn.putF (k + 1 - newR s1 s2) (slotL ⟨false, ((curS s1 s2).turn + 1) % 4294967296, (S.rcd k).count + 1, d⟩ k) else (30, S.burn.burn)) := hide (by unfold St.store; rw [if_pos hr, ← hs1, ← hs2]; rfl)
    have t1 : s1.turn < 4294967296 := by rw [← hs1]; exact (unl_is _ _).1
    have t2 : s2.turn < 4294967296 := by rw [← hs2]; exact (unl_is _ _).1
    have HD2 := hide d2
    have HK2 := hide k2
    have z2 := k2.size
    have HV2 := hide ((unhide HV1).kept' k2 hva)
    clear d2 k2 l1 l2 f1 f2 HD1 HV1 hs1 hs2
    obtain ⟨W2, hW2⟩ : ∃ W2, W2 = w2.alloc (.cells (twoC s1 s2 (.slice a1 n1 c1) (.slice a2 n2 c2)) 50) := ⟨_, rfl⟩
    have HBW : Hid (Below w2.heap.size w2 W2) := hide (by rw [hW2]; exact (Below.refl _ _).alloc (Nat.le_refl _) _)
    have HRW : Hid (W2.heap[w2.heap.size]? = some (.cells (twoC s1 s2 (.slice a1 n1 c1) (.slice a2 n2 c2)) 50 (0, 0))) := hide (by rw [hW2]; exact heap_alloc_self _ _)
    have zW : W2.heap.size = w2.heap.size + 1 := by rw [hW2]; simp
    rcases newR_or s1 s2 with h0 | h0
    · have hcu : S.rcd k = s1 := by rw [hrc]; unfold curS; rw [if_neg (by omega)]
      clear hrc
      go_wp2_with (first | (refine wpList_load_row rfl 50 (.tmp 8) rfl w2.heap.size rfl 50 (twoC s1 s2 (.slice a1 n1 c1) (.slice a2 n2 c2)) (0, 0) _ (by exact heap_alloc_self _ _) Try.underlying50 rfl sizeTwo ?_) | fail)
      rw [← hW2]
      clear hW2
      refine (newer_any s1 s2 _ _ _).mono ?_
      rintro e w3 ⟨rfl, b3⟩
      have z3 := b3.size
      have HR3 : Hid (w3.heap[w2.heap.size]? = some (.cells (twoC s1 s2 (.slice a1 n1 c1) (.slice a2 n2 c2)) 50 (0, 0))) := hide ((b3.block _ (by omega)).trans (unhide HRW))
      have HB3 := hide ((unhide HBW).trans (b3.mono (by omega)))
      clear b3
      have q0 : w3.cell? ⟨w2.heap.size, 0, none⟩ = some (.bool s1.laid) := by simp [World.cell?, unhide HR3]
      have q1 : w3.cell? ⟨w2.heap.size, 1, none⟩ = some (.int .u32 (s1.turn : Nat)) := by simp [World.cell?, unhide HR3]
      have q2 : w3.cell? ⟨w2.heap.size, 2, none⟩ = some (.int .i64 s1.count) := by simp [World.cell?, unhide HR3]
      have q3 : w3.cell? ⟨w2.heap.size, 3, none⟩ = some (.slice a1 n1 c1) := by simp [World.cell?, unhide HR3]
      rw [h0]
      have hcc : s1.count < 9223372036854775807 := by rw [← hcu]; exact hct
      have hc0 : 0 ≤ s1.count := by rw [← hcu]; exact (S.rcd_is k).2.1
      by_cases hla : s1.laid = true
      · rw [hla] at q0
        obtain ⟨W4, hW4⟩ : ∃ W4, W4 = w3.alloc (.cells #[.bool true, .int .u32 (s1.turn : Nat), .int .i64 s1.count, .slice a1 n1 c1] 49) := ⟨_, rfl⟩
        have HB4 : Hid (Below w2.heap.size w2 W4) := hide (by rw [hW4]; exact (unhide HB3).alloc (by omega) _)
        have z4 : W4.heap.size = w3.heap.size + 1 := by rw [hW4]; simp
        have HR4 : Hid (W4.heap[w2.heap.size]? = some (.cells (twoC s1 s2 (.slice a1 n1 c1) (.slice a2 n2 c2)) 50 (0, 0))) := hide (by rw [hW4, Below.heap_alloc _ _ _ (by omega)]; exact unhide HR3)
        have hE : S.store k d = S.burn.burn.putF (k + 1 - newR s1 s2) (slotL ⟨false, ((curS s1 s2).turn + 1) % 4294967296, s1.count + 1, d⟩ k) := by rw [unhide HE, if_pos (by rw [hcu, hla]), hcu]
        have HE2 := hide hE
        clear hE hcu HE hla
        go_wp2_with (first | (refine wpList_load_row rfl 50 (.tmp 8) rfl w2.heap.size rfl 50 (twoC s1 s2 (.slice a1 n1 c1) (.slice a2 n2 c2)) (0, 0) _ (by first | exact unhide HR3 | (rw [← hW4]; exact unhide HR4)) Try.underlying50 rfl sizeTwo ?_) | fail)
        rw [← hW4]
        clear hW4
        refine (write_any (base := base) ((unhide HD2).grown (unhide HB4)) (fun j hj => by have := hF j hj; omega) (by omega) k hk (by show S.burn.burn.down = false; rw [St.well_up hr.2.2, St.well_up hr.2.1]; exact hr.1) (by omega) s1 s2 a1 a2 n1 c1 n2 c2 t1 t2 (s1.count + 1) (by omega) (by omega) a _ c d ((unhide HV2).below (unhide HB4) (Nat.le_refl _)) hl).mono ?_
        rintro e w5 ⟨rfl, ⟨F', g1, g2, g3⟩, k3⟩
        have z5 := k3.size
        have H3 := hide (And.intro g3 k3)
        clear g3 k3
        rw [← unhide HE2] at H3 ⊢
        go_wp2
        go_ret
        refine ⟨rfl, ⟨F', fun j hj => g1 j hj, fun j hj => ?_, (unhide H3).1⟩, ?_⟩
        · rcases g2 j hj with h | h
          · exact .inl h
          · exact .inr (by omega)
        · exact (((Kept.of_below (unhide HB1)).trans (unhide HK2)).trans (Kept.of_below (unhide HB4))).trans (unhide H3).2
      · have hla : s1.laid = false := by simpa using hla
        rw [hla] at q0
        obtain ⟨W4, hW4⟩ : ∃ W4, W4 = w3.alloc (.cells #[.bool false, .int .u32 (s1.turn : Nat), .int .i64 s1.count, .slice a1 n1 c1] 49) := ⟨_, rfl⟩
        have HB4 : Hid (Below w2.heap.size w2 W4) := hide (by rw [hW4]; exact (unhide HB3).alloc (by omega) _)
        have z4 : W4.heap.size = w3.heap.size + 1 := by rw [hW4]; simp
        have HR4 : Hid (W4.heap[w2.heap.size]? = some (.cells (twoC s1 s2 (.slice a1 n1 c1) (.slice a2 n2 c2)) 50 (0, 0))) := hide (by rw [hW4, Below.heap_alloc _ _ _ (by omega)]; exact unhide HR3)
        have hE : S.store k d = (30, S.burn.burn) := by rw [unhide HE, if_neg (by rw [hcu, hla]; decide)]
        have HE2 := hide hE
        clear hE hcu hla HE
        go_wp2
        (try rw [← hW4])
        go_ret
        rw [unhide HE2]
        refine ⟨rfl, ⟨F, fun j hj => ?_, fun j hj => .inl hj, ((unhide HD2).grown (unhide HB4)).mono (fun _ h => h) (by omega)⟩, ((Kept.of_below (unhide HB1)).trans (unhide HK2)).trans (Kept.of_below (unhide HB4))⟩
        have := hF j hj
        omega
    · have hcu : S.rcd k = s2 := by rw [hrc]; unfold curS; rw [if_pos h0]
      clear hrc
      go_wp2_with (first | (refine wpList_load_row rfl 50 (.tmp 8) rfl w2.heap.size rfl 50 (twoC s1 s2 (.slice a1 n1 c1) (.slice a2 n2 c2)) (0, 0) _ (by exact heap_alloc_self _ _) Try.underlying50 rfl sizeTwo ?_) | fail)
      rw [← hW2]
      clear hW2
      refine (newer_any s1 s2 _ _ _).mono ?_
      rintro e w3 ⟨rfl, b3⟩
      have z3 := b3.size
      have HR3 : Hid (w3.heap[w2.heap.size]? = some (.cells (twoC s1 s2 (.slice a1 n1 c1) (.slice a2 n2 c2)) 50 (0, 0))) := hide ((b3.block _ (by omega)).trans (unhide HRW))
      have HB3 := hide ((unhide HBW).trans (b3.mono (by omega)))
      clear b3
      have q0 : w3.cell? ⟨w2.heap.size, 4, none⟩ = some (.bool s2.laid) := by simp [World.cell?, unhide HR3]
      have q1 : w3.cell? ⟨w2.heap.size, 5, none⟩ = some (.int .u32 (s2.turn : Nat)) := by simp [World.cell?, unhide HR3]
      have q2 : w3.cell? ⟨w2.heap.size, 6, none⟩ = some (.int .i64 s2.count) := by simp [World.cell?, unhide HR3]
      have q3 : w3.cell? ⟨w2.heap.size, 7, none⟩ = some (.slice a2 n2 c2) := by simp [World.cell?, unhide HR3]
      rw [h0]
      have hcc : s2.count < 9223372036854775807 := by rw [← hcu]; exact hct
      have hc0 : 0 ≤ s2.count := by rw [← hcu]; exact (S.rcd_is k).2.1
      by_cases hla : s2.laid = true
      · rw [hla] at q0
        obtain ⟨W4, hW4⟩ : ∃ W4, W4 = w3.alloc (.cells #[.bool true, .int .u32 (s2.turn : Nat), .int .i64 s2.count, .slice a2 n2 c2] 49) := ⟨_, rfl⟩
        have HB4 : Hid (Below w2.heap.size w2 W4) := hide (by rw [hW4]; exact (unhide HB3).alloc (by omega) _)
        have z4 : W4.heap.size = w3.heap.size + 1 := by rw [hW4]; simp
        have HR4 : Hid (W4.heap[w2.heap.size]? = some (.cells (twoC s1 s2 (.slice a1 n1 c1) (.slice a2 n2 c2)) 50 (0, 0))) := hide (by rw [hW4, Below.heap_alloc _ _ _ (by omega)]; exact unhide HR3)
        have hE : S.store k d = S.burn.burn.putF (k + 1 - newR s1 s2) (slotL ⟨false, ((curS s1 s2).turn + 1) % 4294967296, s2.count + 1, d⟩ k) := by rw [unhide HE, if_pos (by rw [hcu, hla]), hcu]
        have HE2 := hide hE
        clear hE hcu HE hla
        go_wp2_with (first | (refine wpList_load_row rfl 50 (.tmp 8) rfl w2.heap.size rfl 50 (twoC s1 s2 (.slice a1 n1 c1) (.slice a2 n2 c2)) (0, 0) _ (by first | exact unhide HR3 | (rw [← hW4]; exact unhide HR4)) Try.underlying50 rfl sizeTwo ?_) | fail)
        rw [← hW4]
        clear hW4
        refine (write_any (base := base) ((unhide HD2).grown (unhide HB4)) (fun j hj => by have := hF j hj; omega) (by omega) k hk (by show S.burn.burn.down = false; rw [St.well_up hr.2.2, St.well_up hr.2.1]; exact hr.1) (by omega) s1 s2 a1 a2 n1 c1 n2 c2 t1 t2 (s2.count + 1) (by omega) (by omega) a _ c d ((unhide HV2).below (unhide HB4) (Nat.le_refl _)) hl).mono ?_
        rintro e w5 ⟨rfl, ⟨F', g1, g2, g3⟩, k3⟩
        have z5 := k3.size
        have H3 := hide (And.intro g3 k3)
        clear g3 k3
        rw [← unhide HE2] at H3 ⊢
        go_wp2
        go_ret
        refine ⟨rfl, ⟨F', fun j hj => g1 j hj, fun j hj => ?_, (unhide H3).1⟩, ?_⟩
        · rcases g2 j hj with h | h
          · exact .inl h
          · exact .inr (by omega)
        · exact (((Kept.of_below (unhide HB1)).trans (unhide HK2)).trans (Kept.of_below (unhide HB4))).trans (unhide H3).2
      · have hla : s2.laid = false := by simpa using hla
        rw [hla] at q0
        obtain ⟨W4, hW4⟩ : ∃ W4, W4 = w3.alloc (.cells #[.bool false, .int .u32 (s2.turn : Nat), .int .i64 s2.count, .slice a2 n2 c2] 49) := ⟨_, rfl⟩
        have HB4 : Hid (Below w2.heap.size w2 W4) := hide (by rw [hW4]; exact (unhide HB3).alloc (by omega) _)
        have z4 : W4.heap.size = w3.heap.size + 1 := by rw [hW4]; simp
        have HR4 : Hid (W4.heap[w2.heap.size]? = some (.cells (twoC s1 s2 (.slice a1 n1 c1) (.slice a2 n2 c2)) 50 (0, 0))) := hide (by rw [hW4, Below.heap_alloc _ _ _ (by omega)]; exact unhide HR3)
        have hE : S.store k d = (30, S.burn.burn) := by rw [unhide HE, if_neg (by rw [hcu, hla]; decide)]
        have HE2 := hide hE
        clear hE hcu hla HE
        go_wp2
        (try rw [← hW4])
        go_ret
        rw [unhide HE2]
        refine ⟨rfl, ⟨F, fun j hj => ?_, fun j hj => .inl hj, ((unhide HD2).grown (unhide HB4)).mono (fun _ h => h) (by omega)⟩, ((Kept.of_below (unhide HB1)).trans (unhide HK2)).trans (Kept.of_below (unhide HB4))⟩
        have := hF j hj
        omega
  · have HE : Hid (S.store k d = (2, S.halted)) := hide (by unfold St.store; rw [if_neg hr])
    go_wp2_with fail
    refine (read_stops (unhide HD1) k hk hr (by omega) hF1).mono ?_
    rintro e w2 ⟨rfl, d2, k2⟩
    have HD2 := hide d2
    have HK2 := hide k2
    have z2 := k2.size
    clear d2 k2
    have HBW := hide ((Below.refl w2.heap.size w2).alloc (Nat.le_refl _) (.cells two0 50))
    have zW : (w2.alloc (.cells two0 50)).heap.size = w2.heap.size + 1 := by simp
    go_wp2
    go_ret
    rw [unhide HE]
    refine ⟨rfl, ⟨F, fun j hj => ?_, fun j hj => .inl hj, ((unhide HD2).grown (unhide HBW)).mono (fun _ h => h) (by omega)⟩, ((Kept.of_below (unhide HB1)).trans (unhide HK2)).trans (Kept.of_below (unhide HBW))⟩
    have := hF j hj
    show base ≤ j ∧ j < (w2.alloc (.cells two0 50)).heap.size
    omega
end Go.Proofs.Ytnmmdefkmjlkaaa

/-
  DERIVED. Load over a device in memory.
-/
namespace Go.Proofs.Ytnmmdefkmjlkaaa
open Go.RowKit
set_option linter.unusedVariables false

set_option maxRecDepth 20000 in
set_option maxHeartbeats 2000000 in
theorem Load_stops {w : World} {b : Nat} {F : Nat → Prop} {N : Nat} {S : St} (h : Dev w b F N S) (hF : ∀ k, F k → k < w.heap.size) (k : Nat) (hk : k + 1 < S.safe.length) (hN : N < 800000) (hr : ¬ S.reads) :
    Calls Try.prog 7 #[.pointer (some ⟨b, 0, none⟩), .int .i64 k] w fun e w' => e = .returned (.tuple #[.slice none 0 0, .int .i64 0, .int .i64 2]) ∧ Dev w' b F (N + 2) S.halted ∧ Kept F w w' := by
  have hs : S.safe.length ≤ 512 := by obtain ⟨g, c, m, vf, D, h0⟩ := h; exact h0.n2
  have HD := hide h
  clear h
  go_enter Try.func7, Try.ntmps7
  go_wp2_with fail
  refine (check_ok (unhide HD) k hk none 0 0 (by omega)).mono ?_
  rintro e w1 ⟨rfl, b1⟩
  have HB1 := hide b1
  have z1 := b1.size
  have HD1 := hide ((unhide HD).grown b1)
  clear b1 HD
  have hF1 : ∀ j, F j → j < w1.heap.size := fun j hj => by have := hF j hj; omega
  go_wp2_with fail
  refine (read_stops (unhide HD1) k hk hr (by omega) hF1).mono ?_
  rintro e w2 ⟨rfl, d2, k2⟩
  have HD2 := hide d2
  have HK2 := hide k2
  clear d2 k2
  have HBW := hide ((Below.refl w2.heap.size w2).alloc (Nat.le_refl _) (.cells two0 50))
  go_wp2
  go_ret3
  exact ⟨rfl, (unhide HD2).grown (unhide HBW), ((Kept.of_below (unhide HB1)).trans (unhide HK2)).trans (Kept.of_below (unhide HBW))⟩

set_option maxRecDepth 20000 in
set_option maxHeartbeats 2000000 in
theorem Load_none {w : World} {b : Nat} {F : Nat → Prop} {N : Nat} {S : St} (h : Dev w b F N S) (hF : ∀ k, F k → k < w.heap.size) (k : Nat) (hk : k + 1 < S.safe.length) (hN : N < 800000) (hr : S.reads) (hla : (S.rcd k).laid = false) :
    Calls Try.prog 7 #[.pointer (some ⟨b, 0, none⟩), .int .i64 k] w fun e w' => e = .returned (.tuple #[.slice none 0 0, .int .i64 0, .int .i64 30]) ∧ Dev w' b F (N + 2) S.burn.burn ∧ Kept F w w' := by
  have hs : S.safe.length ≤ 512 := by obtain ⟨g, c, m, vf, D, h0⟩ := h; exact h0.n2
  have HD := hide h
  clear h
  go_enter Try.func7, Try.ntmps7
  go_wp2_with fail
  refine (check_ok (unhide HD) k hk none 0 0 (by omega)).mono ?_
  rintro e w1 ⟨rfl, b1⟩
  have HB1 := hide b1
  have z1 := b1.size
  have HD1 := hide ((unhide HD).grown b1)
  clear b1 HD
  have hF1 : ∀ j, F j → j < w1.heap.size := fun j hj => by have := hF j hj; omega
  go_wp2_with fail
  refine (read_well (unhide HD1) k hk hr (by omega) hF1).mono ?_
  rintro e w2 ⟨a1, n1, c1, a2, n2, c2, rfl, f1, f2, l1, l2, d2, k2⟩
  have hrc : S.rcd k = curS (unl k (S.newest k)) (unl k (S.newest (k + 1))) := rfl
  obtain ⟨s1, hs1⟩ : ∃ s, unl k (S.newest k) = s := ⟨_, rfl⟩
  obtain ⟨s2, hs2⟩ : ∃ s, unl k (S.newest (k + 1)) = s := ⟨_, rfl⟩
  rw [hs1] at l1
  rw [hs2] at l2
  rw [hs1, hs2] at hrc ⊢
  have HD2 := hide d2
  have HK2 := hide k2
  have z2 := k2.size
  have HL := hide (And.intro l1 l2)
  have HFr := hide (And.intro f1 f2)
  clear d2 k2 l1 l2 f1 f2 HD1 hs1 hs2
  obtain ⟨W2, hW2⟩ : ∃ W2, W2 = w2.alloc (.cells (twoC s1 s2 (.slice a1 n1 c1) (.slice a2 n2 c2)) 50) := ⟨_, rfl⟩
  have HBW : Hid (Below w2.heap.size w2 W2) := hide (by rw [hW2]; exact (Below.refl _ _).alloc (Nat.le_refl _) _)
  have HRW : Hid (W2.heap[w2.heap.size]? = some (.cells (twoC s1 s2 (.slice a1 n1 c1) (.slice a2 n2 c2)) 50 (0, 0))) := hide (by rw [hW2]; exact heap_alloc_self _ _)
  have zW : W2.heap.size = w2.heap.size + 1 := by rw [hW2]; simp
  rcases newR_or s1 s2 with h0 | h0
  · have hcu : S.rcd k = s1 := by rw [hrc]; unfold curS; rw [if_neg (by omega)]
    rw [hcu] at hla
    have HLA := hide hla
    have HCU := hide hcu
    clear hrc hla hcu
    go_wp2_with (first | (refine wpList_load_row rfl 50 (.tmp 9) rfl w2.heap.size rfl 50 (twoC s1 s2 (.slice a1 n1 c1) (.slice a2 n2 c2)) (0, 0) _ (by exact heap_alloc_self _ _) Try.underlying50 rfl sizeTwo ?_) | fail)
    rw [← hW2]
    clear hW2
    refine (newer_any s1 s2 _ _ _).mono ?_
    rintro e w3 ⟨rfl, b3⟩
    have z3 := b3.size
    have HR3 : Hid (w3.heap[w2.heap.size]? = some (.cells (twoC s1 s2 (.slice a1 n1 c1) (.slice a2 n2 c2)) 50 (0, 0))) := hide ((b3.block _ (by omega)).trans (unhide HRW))
    have HB3 := hide ((unhide HBW).trans (b3.mono (by omega)))
    clear b3
    have q0 : w3.cell? ⟨w2.heap.size, 0, none⟩ = some (.bool s1.laid) := by simp [World.cell?, unhide HR3]
    have q1 : w3.cell? ⟨w2.heap.size, 1, none⟩ = some (.int .u32 (s1.turn : Nat)) := by simp [World.cell?, unhide HR3]
    have q2 : w3.cell? ⟨w2.heap.size, 2, none⟩ = some (.int .i64 s1.count) := by simp [World.cell?, unhide HR3]
    have q3 : w3.cell? ⟨w2.heap.size, 3, none⟩ = some (.slice a1 n1 c1) := by simp [World.cell?, unhide HR3]
    rw [h0]
    rw [unhide HLA] at q0
    obtain ⟨W4, hW4⟩ : ∃ W4, W4 = w3.alloc (.cells #[.bool false, .int .u32 (s1.turn : Nat), .int .i64 s1.count, .slice a1 n1 c1] 49) := ⟨_, rfl⟩
    have HB4 : Hid (Below w2.heap.size w2 W4) := hide (by rw [hW4]; exact (unhide HB3).alloc (by omega) _)
    go_wp2
    (try rw [← hW4])
    go_ret3
    exact ⟨rfl, (unhide HD2).grown (unhide HB4), ((Kept.of_below (unhide HB1)).trans (unhide HK2)).trans (Kept.of_below (unhide HB4))⟩
  · have hcu : S.rcd k = s2 := by rw [hrc]; unfold curS; rw [if_pos h0]
    rw [hcu] at hla
    have HLA := hide hla
    have HCU := hide hcu
    clear hrc hla hcu
    go_wp2_with (first | (refine wpList_load_row rfl 50 (.tmp 9) rfl w2.heap.size rfl 50 (twoC s1 s2 (.slice a1 n1 c1) (.slice a2 n2 c2)) (0, 0) _ (by exact heap_alloc_self _ _) Try.underlying50 rfl sizeTwo ?_) | fail)
    rw [← hW2]
    clear hW2
    refine (newer_any s1 s2 _ _ _).mono ?_
    rintro e w3 ⟨rfl, b3⟩
    have z3 := b3.size
    have HR3 : Hid (w3.heap[w2.heap.size]? = some (.cells (twoC s1 s2 (.slice a1 n1 c1) (.slice a2 n2 c2)) 50 (0, 0))) := hide ((b3.block _ (by omega)).trans (unhide HRW))
    have HB3 := hide ((unhide HBW).trans (b3.mono (by omega)))
    clear b3
    have q0 : w3.cell? ⟨w2.heap.size, 4, none⟩ = some (.bool s2.laid) := by simp [World.cell?, unhide HR3]
    have q1 : w3.cell? ⟨w2.heap.size, 5, none⟩ = some (.int .u32 (s2.turn : Nat)) := by simp [World.cell?, unhide HR3]
    have q2 : w3.cell? ⟨w2.heap.size, 6, none⟩ = some (.int .i64 s2.count) := by simp [World.cell?, unhide HR3]
    have q3 : w3.cell? ⟨w2.heap.size, 7, none⟩ = some (.slice a2 n2 c2) := by simp [World.cell?, unhide HR3]
    rw [h0]
    rw [unhide HLA] at q0
    obtain ⟨W4, hW4⟩ : ∃ W4, W4 = w3.alloc (.cells #[.bool false, .int .u32 (s2.turn : Nat), .int .i64 s2.count, .slice a2 n2 c2] 49) := ⟨_, rfl⟩
    have HB4 : Hid (Below w2.heap.size w2 W4) := hide (by rw [hW4]; exact (unhide HB3).alloc (by omega) _)
    go_wp2
    (try rw [← hW4])
    go_ret3
    exact ⟨rfl, (unhide HD2).grown (unhide HB4), ((Kept.of_below (unhide HB1)).trans (unhide HK2)).trans (Kept.of_below (unhide HB4))⟩

set_option maxRecDepth 20000 in
set_option maxHeartbeats 2000000 in
theorem Load_laid {w : World} {b : Nat} {F : Nat → Prop} {N : Nat} {S : St} (h : Dev w b F N S) (hF : ∀ k, F k → k < w.heap.size) (k : Nat) (hk : k + 1 < S.safe.length) (hN : N < 800000) (hr : S.reads) (hla : (S.rcd k).laid = true) :
    Calls Try.prog 7 #[.pointer (some ⟨b, 0, none⟩), .int .i64 k] w fun e w' => ∃ a n c, e = .returned (.tuple #[.slice a n c, .int .i64 (S.rcd k).count, .int .i64 0]) ∧ Sl w' (.slice a n c) (S.rcd k).data ∧ (∀ ad, a = some ad → w.heap.size ≤ ad.block) ∧ Dev w' b F (N + 2) S.burn.burn ∧ Kept F w w' := by
  have hs : S.safe.length ≤ 512 := by obtain ⟨g, c, m, vf, D, h0⟩ := h; exact h0.n2
  have HD := hide h
  clear h
  go_enter Try.func7, Try.ntmps7
  go_wp2_with fail
  refine (check_ok (unhide HD) k hk none 0 0 (by omega)).mono ?_
  rintro e w1 ⟨rfl, b1⟩
  have HB1 := hide b1
  have z1 := b1.size
  have HD1 := hide ((unhide HD).grown b1)
  clear b1 HD
  have hF1 : ∀ j, F j → j < w1.heap.size := fun j hj => by have := hF j hj; omega
  go_wp2_with fail
  refine (read_well (unhide HD1) k hk hr (by omega) hF1).mono ?_
  rintro e w2 ⟨a1, n1, c1, a2, n2, c2, rfl, f1, f2, l1, l2, d2, k2⟩
  have hrc : S.rcd k = curS (unl k (S.newest k)) (unl k (S.newest (k + 1))) := rfl
  obtain ⟨s1, hs1⟩ : ∃ s, unl k (S.newest k) = s := ⟨_, rfl⟩
  obtain ⟨s2, hs2⟩ : ∃ s, unl k (S.newest (k + 1)) = s := ⟨_, rfl⟩
  rw [hs1] at l1
  rw [hs2] at l2
  rw [hs1, hs2] at hrc ⊢
  have HD2 := hide d2
  have HK2 := hide k2
  have z2 := k2.size
  have HL := hide (And.intro l1 l2)
  have HFr := hide (And.intro f1 f2)
  clear d2 k2 l1 l2 f1 f2 HD1 hs1 hs2
  obtain ⟨W2, hW2⟩ : ∃ W2, W2 = w2.alloc (.cells (twoC s1 s2 (.slice a1 n1 c1) (.slice a2 n2 c2)) 50) := ⟨_, rfl⟩
  have HBW : Hid (Below w2.heap.size w2 W2) := hide (by rw [hW2]; exact (Below.refl _ _).alloc (Nat.le_refl _) _)
  have HRW : Hid (W2.heap[w2.heap.size]? = some (.cells (twoC s1 s2 (.slice a1 n1 c1) (.slice a2 n2 c2)) 50 (0, 0))) := hide (by rw [hW2]; exact heap_alloc_self _ _)
  have zW : W2.heap.size = w2.heap.size + 1 := by rw [hW2]; simp
  rcases newR_or s1 s2 with h0 | h0
  · have hcu : S.rcd k = s1 := by rw [hrc]; unfold curS; rw [if_neg (by omega)]
    rw [hcu] at hla
    have HLA := hide hla
    have HCU := hide hcu
    clear hrc hla hcu
    go_wp2_with (first | (refine wpList_load_row rfl 50 (.tmp 9) rfl w2.heap.size rfl 50 (twoC s1 s2 (.slice a1 n1 c1) (.slice a2 n2 c2)) (0, 0) _ (by exact heap_alloc_self _ _) Try.underlying50 rfl sizeTwo ?_) | fail)
    rw [← hW2]
    clear hW2
    refine (newer_any s1 s2 _ _ _).mono ?_
    rintro e w3 ⟨rfl, b3⟩
    have z3 := b3.size
    have HR3 : Hid (w3.heap[w2.heap.size]? = some (.cells (twoC s1 s2 (.slice a1 n1 c1) (.slice a2 n2 c2)) 50 (0, 0))) := hide ((b3.block _ (by omega)).trans (unhide HRW))
    have HB3 := hide ((unhide HBW).trans (b3.mono (by omega)))
    clear b3
    have q0 : w3.cell? ⟨w2.heap.size, 0, none⟩ = some (.bool s1.laid) := by simp [World.cell?, unhide HR3]
    have q1 : w3.cell? ⟨w2.heap.size, 1, none⟩ = some (.int .u32 (s1.turn : Nat)) := by simp [World.cell?, unhide HR3]
    have q2 : w3.cell? ⟨w2.heap.size, 2, none⟩ = some (.int .i64 s1.count) := by simp [World.cell?, unhide HR3]
    have q3 : w3.cell? ⟨w2.heap.size, 3, none⟩ = some (.slice a1 n1 c1) := by simp [World.cell?, unhide HR3]
    rw [h0]
    rw [unhide HLA] at q0
    obtain ⟨W4, hW4⟩ : ∃ W4, W4 = w3.alloc (.cells #[.bool true, .int .u32 (s1.turn : Nat), .int .i64 s1.count, .slice a1 n1 c1] 49) := ⟨_, rfl⟩
    have HB4 : Hid (Below w2.heap.size w2 W4) := hide (by rw [hW4]; exact (unhide HB3).alloc (by omega) _)
    have r2 : W4.cell? ⟨w3.heap.size, 2, none⟩ = some (.int .i64 s1.count) := by rw [hW4]; simp
    have r3 : W4.cell? ⟨w3.heap.size, 3, none⟩ = some (.slice a1 n1 c1) := by rw [hW4]; simp
    go_wp2
    rw [← hW4]
    clear hW4
    go_quiet (fail)
    go_wp2
    go_ret3
    refine ⟨a1, n1, c1, by rw [unhide HCU]; rfl, ?_, fun ad h => by have := (unhide HFr).1 ad h; omega, (unhide HD2).grown (below_drewN (unhide HB4) _), ((Kept.of_below (unhide HB1)).trans (unhide HK2)).trans (Kept.of_below (below_drewN (unhide HB4) _))⟩
    rw [unhide HCU]
    exact (unhide HL).1.below (below_drewN (unhide HB4) _) (Nat.le_refl _)
  · have hcu : S.rcd k = s2 := by rw [hrc]; unfold curS; rw [if_pos h0]
    rw [hcu] at hla
    have HLA := hide hla
    have HCU := hide hcu
    clear hrc hla hcu
    go_wp2_with (first | (refine wpList_load_row rfl 50 (.tmp 9) rfl w2.heap.size rfl 50 (twoC s1 s2 (.slice a1 n1 c1) (.slice a2 n2 c2)) (0, 0) _ (by exact heap_alloc_self _ _) Try.underlying50 rfl sizeTwo ?_) | fail)
    rw [← hW2]
    clear hW2
    refine (newer_any s1 s2 _ _ _).mono ?_
    rintro e w3 ⟨rfl, b3⟩
    have z3 := b3.size
    have HR3 : Hid (w3.heap[w2.heap.size]? = some (.cells (twoC s1 s2 (.slice a1 n1 c1) (.slice a2 n2 c2)) 50 (0, 0))) := hide ((b3.block _ (by omega)).trans (unhide HRW))
    have HB3 := hide ((unhide HBW).trans (b3.mono (by omega)))
    clear b3
    have q0 : w3.cell? ⟨w2.heap.size, 4, none⟩ = some (.bool s2.laid) := by simp [World.cell?, unhide HR3]
    have q1 : w3.cell? ⟨w2.heap.size, 5, none⟩ = some (.int .u32 (s2.turn : Nat)) := by simp [World.cell?, unhide HR3]
    have q2 : w3.cell? ⟨w2.heap.size, 6, none⟩ = some (.int .i64 s2.count) := by simp [World.cell?, unhide HR3]
    have q3 : w3.cell? ⟨w2.heap.size, 7, none⟩ = some (.slice a2 n2 c2) := by simp [World.cell?, unhide HR3]
    rw [h0]
    rw [unhide HLA] at q0
    obtain ⟨W4, hW4⟩ : ∃ W4, W4 = w3.alloc (.cells #[.bool true, .int .u32 (s2.turn : Nat), .int .i64 s2.count, .slice a2 n2 c2] 49) := ⟨_, rfl⟩
    have HB4 : Hid (Below w2.heap.size w2 W4) := hide (by rw [hW4]; exact (unhide HB3).alloc (by omega) _)
    have r2 : W4.cell? ⟨w3.heap.size, 2, none⟩ = some (.int .i64 s2.count) := by rw [hW4]; simp
    have r3 : W4.cell? ⟨w3.heap.size, 3, none⟩ = some (.slice a2 n2 c2) := by rw [hW4]; simp
    go_wp2
    rw [← hW4]
    clear hW4
    go_quiet (fail)
    go_wp2
    go_ret3
    refine ⟨a2, n2, c2, by rw [unhide HCU]; rfl, ?_, fun ad h => by have := (unhide HFr).2 ad h; omega, (unhide HD2).grown (below_drewN (unhide HB4) _), ((Kept.of_below (unhide HB1)).trans (unhide HK2)).trans (Kept.of_below (below_drewN (unhide HB4) _))⟩
    rw [unhide HCU]
    exact (unhide HL).2.below (below_drewN (unhide HB4) _) (Nat.le_refl _)
end Go.Proofs.Ytnmmdefkmjlkaaa

/-
  DERIVED. The walks of unlay, read and Load once more: what Load hands out may be written to.
-/
namespace Go.Proofs.Ytnmmdefkmjlkaaa
open Go.RowKit
set_option linter.unusedVariables false

/-- A slice that reads as these bytes, in a block that bears no mark. -/
def SlM (w : World) (v : Value) (l : List UInt8) : Prop := Sl w v l ∧ ∀ q, v.ownBlock = some q → ∃ cs t, w.heap[q]? = some (.cells cs t (0, 0))
theorem nil_slm (w : World) : SlM w (.slice none 0 0) [] := ⟨nil_sl w, fun q hq => by cases hq⟩
theorem nf_row {w : World} {b : Nat} (h : ∃ cs t, w.heap[b]? = some (.cells cs t (0, 0))) {g : Nat} (cs' : Array Value) (hg : g ≠ b) {off n c : Nat} : ∀ q, (Value.slice (some ⟨b, off, none⟩) n c).ownBlock = some q → ∃ cs t, (w.setRow g cs').heap[q]? = some (.cells cs t (0, 0)) := fun q hq => by
  cases hq
  obtain ⟨cs, t, h⟩ := h
  exact ⟨cs, t, (setRow_other _ _ _ _ (Ne.symm hg)).trans h⟩
theorem SlM.below {B : Nat} {w w' : World} {v : Value} {l : List UInt8} (h : SlM w v l) (hb : Below B w w') (hB : w.heap.size ≤ B) : SlM w' v l :=
  ⟨h.1.below hb hB, fun q hq => by obtain ⟨cs, t, e⟩ := h.2 q hq; exact ⟨cs, t, (hb.block q (by have := lt_of_block e; omega)).trans e⟩⟩
theorem SlM.kept {F : Nat → Prop} {w w' : World} {a : Option Addr} {n c : Nat} {l : List UInt8} (h : SlM w (.slice a n c) l) (hk : Kept F w w') (hF : ∀ ad, a = some ad → ¬ F ad.block) : SlM w' (.slice a n c) l :=
  ⟨h.1.kept hk hF, fun q hq => by
    obtain ⟨cs, t, e⟩ := h.2 q hq
    refine ⟨cs, t, (hk.block q (lt_of_block e) ?_).trans e⟩
    cases a with
    | none => cases hq
    | some ad => cases hq; exact hF ad rfl⟩

set_option maxHeartbeats 2000000 in
theorem unlayM_any (v : Value) (L : List UInt8) (at_ : Int) (w : World) (hv : Sl w v L) (hat0 : -9223372036854775808 ≤ at_) (hat1 : at_ ≤ 9223372036854775807) :
    Calls Try.prog 25 #[v, .int .i64 at_] w fun e w' => ∃ a n c, e = .returned (.agg (slotC (unl at_ L) (.slice a n c))) ∧ (∀ ad, a = some ad → w.heap.size ≤ ad.block) ∧ SlM w' (.slice a n c) (unl at_ L).data ∧ Below w.heap.size w w' := by
  have HV := hide hv
  clear hv
  obtain ⟨E, hE⟩ : ∃ E, frE L = E := ⟨_, rfl⟩
  obtain ⟨kd, hkd⟩ : ∃ kd, frKind L = kd := ⟨_, rfl⟩
  obtain ⟨d, hd⟩ : ∃ d, frD L = d := ⟨_, rfl⟩
  obtain ⟨K, hK⟩ : ∃ K, frK L = K := ⟨_, rfl⟩
  obtain ⟨U, hU⟩ : ∃ U, unl at_ L = U := ⟨_, rfl⟩
  have HU := (unl_names (at_ := at_) hE hkd hd).symm.trans hU
  rw [hU]
  clear hU
  have HF := hide (And.intro hE (And.intro hkd (And.intro hK hd)))
  clear hE hkd hd hK
  go_enter Try.func25, Try.ntmps25
  go_wp2_with fail
  have HW : Hid (Below w.heap.size w (w.alloc (.cells slot0 49))) := hide ((Below.refl _ _).alloc (Nat.le_refl _) _)
  refine (Frame_any v L _ ((unhide HV).below (unhide HW) (Nat.le_refl _))).mono ?_
  rintro e w1 ⟨a, n, c, rfl, own1, b1⟩
  rw [(unhide HF).2.2.2] at own1
  rw [(unhide HF).1, (unhide HF).2.1, (unhide HF).2.2.1]
  have s1 := b1.size
  simp at s1
  obtain ⟨W, hW⟩ : ∃ W, W = w1.alloc (.cells #[bv kd, .slice a n c] 75) := ⟨_, rfl⟩
  have HS : Hid (W.heap[w.heap.size]? = some (.cells slot0 49 (0, 0))) := hide (by rw [hW, Below.heap_alloc _ _ _ (by omega), b1.block _ (by simp)]; exact heap_alloc_self _ _)
  have HB : Hid (Below w.heap.size w W) := hide (by rw [hW]; exact ((unhide HW).trans (b1.mono (by simp))).alloc (by omega) _)
  have HL : Hid (Sl W (.slice a n c) d) := hide (by rw [hW]; exact own1.sl.alloc _)
  have hWs : w.heap.size < W.heap.size := by rw [hW]; simp; omega
  have q0 : W.cell? ⟨w1.heap.size, 0, none⟩ = some (bv kd) := by rw [hW]; simp
  have q1 : W.cell? ⟨w1.heap.size, 1, none⟩ = some (.slice a n c) := by rw [hW]; simp
  have HN : Hid (∀ b off n' c', Value.slice a n c = .slice (some ⟨b, off, none⟩) n' c' → w.heap.size < b) := hide (fun b' off' n' c' hh => by
    rcases own1.2 with ⟨h, _⟩ | ⟨g, cap, cur, h, hg, _⟩
    · rw [h] at hh; cases hh
    · rw [h] at hh; simp at hg; injection hh with e1; injection e1 with e2; injection e2 with e3; omega)
  have HNF : Hid (∀ b off n' c', Value.slice a n c = .slice (some ⟨b, off, none⟩) n' c' → ∃ cs t, W.heap[b]? = some (.cells cs t (0, 0))) := hide (fun b' off' n' c' hh => by
    rcases own1.2 with ⟨h, _⟩ | ⟨g, cap, cur, h, hg, hgb, _⟩
    · rw [h] at hh; cases hh
    · rw [h] at hh; injection hh with e1; injection e1 with e2; injection e2 with e3
      subst e3
      exact ⟨cur, _, by rw [hW, Below.heap_alloc _ _ _ (lt_of_block hgb)]; exact hgb⟩)
  clear own1 b1 HV HF
  subst hW
  clear q0 q1
  by_cases h1 : E ≠ 0
  · rw [if_pos (.inl h1)] at HU
    have hne : ((E : Int) != 0) = true := by rw [bne_iff_ne]; omega
    go_wp2_with (first | (refine wpList_store_row rfl 49 (.tmp 4) (.tmp 26) rfl w.heap.size slot0 rfl rfl 49 slot0 (unhide HS) sizeSlot rfl (one_slot _ _ _ _ _ _) ?_))
    (try simp only [Exit.inBlock, Exit.then])
    refine bodyPost_ret (v := .agg slot0) (results_cell_row rfl _ _ w.heap.size 49 slot0 (0, 0) _ rfl (setRow_heap _ _ _ _ _ _ (unhide HS)) Try.underlying49 rfl sizeSlot) rfl ⟨none, 0, 0, by rw [← HU]; rfl, fun _ h => by (cases h), by rw [← HU]; exact nil_slm _, (unhide HB).trans (below_setRowD _ _ _ _ (Nat.le_refl _))⟩
  obtain rfl : E = 0 := by omega
  by_cases h2 : kd ≠ 83
  · rw [if_pos (.inr h2)] at HU
    have hne : ((kd.toNat : Int) != 83) = true := by rw [bne_iff_ne]; intro hh; exact h2 (UInt8.toNat_inj.1 (by simpa using (by omega : kd.toNat = 83)))
    go_wp2_with (first | (refine wpList_store_row rfl 49 (.tmp 4) (.tmp 26) rfl w.heap.size slot0 rfl rfl 49 slot0 (unhide HS) sizeSlot rfl (one_slot _ _ _ _ _ _) ?_))
    (try simp only [Exit.inBlock, Exit.then])
    refine bodyPost_ret (v := .agg slot0) (results_cell_row rfl _ _ w.heap.size 49 slot0 (0, 0) _ rfl (setRow_heap _ _ _ _ _ _ (unhide HS)) Try.underlying49 rfl sizeSlot) rfl ⟨none, 0, 0, by rw [← HU]; rfl, fun _ h => by (cases h), by rw [← HU]; exact nil_slm _, (unhide HB).trans (below_setRowD _ _ _ _ (Nat.le_refl _))⟩
  obtain rfl : kd = 83 := by simpa using h2
  rw [if_neg (by simp)] at HU
  clear h1 h2
  obtain ⟨k, hk⟩ : ∃ k, (rd d).2.1 = k := ⟨_, rfl⟩
  obtain ⟨e1, he1⟩ : ∃ e, (rd d).2.2 = e := ⟨_, rfl⟩
  obtain ⟨i1, hi1⟩ : ∃ i, rdI d = i := ⟨_, rfl⟩
  obtain ⟨-, -, -, r4⟩ := rd_facts d
  rw [hk, he1] at r4
  rw [he1, hi1, hk] at HU
  have HR1 := hide (And.intro hi1 (And.intro hk he1))
  clear hi1 hk he1
  by_cases h3 : e1 ≠ 0
  · rw [if_pos (.inl h3)] at HU
    have hne : ((e1 : Int) != 0) = true := by rw [bne_iff_ne]; omega
    clear r4
    go_wp2_with (first | (go_at_call 36; refine (Int_nm _ d _ _ _ _ (unhide HL) (unhide HR1).1 (unhide HR1).2.1 (unhide HR1).2.2).mono ?_; rintro e w' ⟨rfl, rfl⟩) | (refine wpList_store_row rfl 49 (.tmp 4) (.tmp 42) rfl w.heap.size slot0 rfl rfl 49 slot0 (unhide HS) sizeSlot rfl (one_slot _ _ _ _ _ _) ?_))
    (try simp only [Exit.inBlock, Exit.then])
    refine bodyPost_ret (v := .agg slot0) (results_cell_row rfl _ _ w.heap.size 49 slot0 (0, 0) _ rfl (setRow_heap _ _ _ _ _ _ (unhide HS)) Try.underlying49 rfl sizeSlot) rfl ⟨none, 0, 0, by rw [← HU]; rfl, fun _ h => by (cases h), by rw [← HU]; exact nil_slm _, (unhide HB).trans (below_setRowD _ _ _ _ (Nat.le_refl _))⟩
  obtain rfl : e1 = 0 := by omega
  obtain ⟨r1, r2, r3⟩ := r4 rfl
  by_cases h4 : i1 ≠ at_
  · rw [if_pos (.inr h4)] at HU
    have hne : (i1 != at_) = true := by rw [bne_iff_ne]; exact h4
    go_wp2_with (first | (go_at_call 36; refine (Int_nm _ d _ _ _ _ (unhide HL) (unhide HR1).1 (unhide HR1).2.1 (unhide HR1).2.2).mono ?_; rintro e w' ⟨rfl, rfl⟩) | (refine wpList_store_row rfl 49 (.tmp 4) (.tmp 42) rfl w.heap.size slot0 rfl rfl 49 slot0 (unhide HS) sizeSlot rfl (one_slot _ _ _ _ _ _) ?_))
    (try simp only [Exit.inBlock, Exit.then])
    refine bodyPost_ret (v := .agg slot0) (results_cell_row rfl _ _ w.heap.size 49 slot0 (0, 0) _ rfl (setRow_heap _ _ _ _ _ _ (unhide HS)) Try.underlying49 rfl sizeSlot) rfl ⟨none, 0, 0, by rw [← HU]; rfl, fun _ h => by (cases h), by rw [← HU]; exact nil_slm _, (unhide HB).trans (below_setRowD _ _ _ _ (Nat.le_refl _))⟩
  obtain rfl : i1 = at_ := by simpa using h4
  rw [if_neg (by simp)] at HU
  rcases (unhide HL).cases with ⟨rfl, ao, hz⟩ | ⟨b, off, cap, hz, l1, l2, l3, lc⟩
  · simp at r2; omega
  have hbg := unhide HN _ _ _ _ hz
  have HNB := hide (unhide HNF _ _ _ _ hz)
  clear HN HNF
  obtain ⟨l, hl⟩ : ∃ l, l = d.drop k := ⟨_, rfl⟩
  rw [← hl] at HU
  have hll : l.length = d.length - k := by rw [hl, List.length_drop]
  obtain ⟨rfl, rfl, rfl⟩ : a = some ⟨b, off, none⟩ ∧ n = d.length ∧ cap = c := by simpa [eq_comm] using hz
  clear hz h3 h4 r4
  by_cases h5 : cap = k
  · have hl0 : l = [] := List.eq_nil_of_length_eq_zero (by omega)
    rw [if_pos (by rw [hl0]; simp)] at HU
    subst h5
    have e5 : d.length - cap = 0 := by omega
    have HS5 : Hid (Sl (w1.alloc (.cells #[bv 83, .slice (some ⟨b, off, none⟩) d.length cap] 75)) (.slice (some ⟨b, off, none⟩) 0 0) []) := hide ⟨_, 0, rfl, by simp, by simp [maxLen], fun h => absurd rfl h⟩
    have HLC := hide lc
    clear hl hl0 lc
    go_wp2_with (first | (go_at_call 36; refine (Int_nm _ d _ _ _ _ (unhide HL) (unhide HR1).1 (unhide HR1).2.1 (unhide HR1).2.2).mono ?_; rintro e w' ⟨rfl, rfl⟩) | fail)
    refine (U32_short _ [] _ (unhide HS5) (by decide)).mono ?_
    rintro e w3 ⟨rfl, b3⟩
    have HS3 : Hid (w3.heap[w.heap.size]? = some (.cells slot0 49 (0, 0))) := hide (((b3 (w.heap.size + 1)).block _ (by omega)).trans (unhide HS))
    have HB3 := hide ((unhide HB).trans (b3 _))
    have HB3' := hide b3
    clear b3
    go_wp2_with (first | (refine wpList_store_row rfl 49 (.tmp 4) (.tmp 53) rfl w.heap.size slot0 rfl rfl 49 slot0 (unhide HS3) sizeSlot rfl (one_slot _ _ _ _ _ _) ?_))
    (try simp only [Exit.inBlock, Exit.then])
    refine bodyPost_ret (v := .agg slot0) (results_cell_row rfl _ _ w.heap.size 49 slot0 (0, 0) _ rfl (setRow_heap _ _ _ _ _ _ (unhide HS3)) Try.underlying49 rfl sizeSlot) rfl ⟨none, 0, 0, by rw [← HU]; rfl, fun _ h => by (cases h), by rw [← HU]; exact nil_slm _, (unhide HB3).trans (below_setRowD _ _ _ _ (Nat.le_refl _))⟩
  have HS6 : Hid (Sl (w1.alloc (.cells #[bv 83, .slice (some ⟨b, off, none⟩) d.length cap] 75)) (.slice (some ⟨b, off + k, none⟩) (d.length - k) (cap - k)) l) := hide (by rw [hl]; exact Sl.from b off cap d l3 l1 l2 lc k r2)
  have HG : Hid (∀ j, k + j ≤ d.length → Sl (w1.alloc (.cells #[bv 83, .slice (some ⟨b, off, none⟩) d.length cap] 75)) (.slice (some ⟨b, off + (k + j), none⟩) (d.length - (k + j)) (cap - (k + j))) (l.drop j)) := hide (fun j hj => by rw [hl, List.drop_drop]; exact Sl.from b off cap d l3 l1 l2 lc (k + j) hj)
  clear lc hl
  by_cases h6 : l.length < 4
  · rw [if_pos h6] at HU
    go_wp2_with (first | (go_at_call 36; refine (Int_nm _ d _ _ _ _ (unhide HL) (unhide HR1).1 (unhide HR1).2.1 (unhide HR1).2.2).mono ?_; rintro e w' ⟨rfl, rfl⟩) | fail)
    refine (U32_short _ l _ (unhide HS6) h6).mono ?_
    rintro e w3 ⟨rfl, b3⟩
    have HS3 : Hid (w3.heap[w.heap.size]? = some (.cells slot0 49 (0, 0))) := hide (((b3 (w.heap.size + 1)).block _ (by omega)).trans (unhide HS))
    have HB3 := hide ((unhide HB).trans (b3 _))
    have HB3' := hide b3
    clear b3
    go_wp2_with (first | (refine wpList_store_row rfl 49 (.tmp 4) (.tmp 53) rfl w.heap.size slot0 rfl rfl 49 slot0 (unhide HS3) sizeSlot rfl (one_slot _ _ _ _ _ _) ?_))
    (try simp only [Exit.inBlock, Exit.then])
    refine bodyPost_ret (v := .agg slot0) (results_cell_row rfl _ _ w.heap.size 49 slot0 (0, 0) _ rfl (setRow_heap _ _ _ _ _ _ (unhide HS3)) Try.underlying49 rfl sizeSlot) rfl ⟨none, 0, 0, by rw [← HU]; rfl, fun _ h => by (cases h), by rw [← HU]; exact nil_slm _, (unhide HB3).trans (below_setRowD _ _ _ _ (Nat.le_refl _))⟩
  rw [if_neg h6] at HU
  obtain ⟨t, ht⟩ : ∃ t, rd4 l = t := ⟨_, rfl⟩
  rw [ht] at HU
  have HT := hide ht
  clear ht
  go_wp2_with (first | (go_at_call 36; refine (Int_nm _ d _ _ _ _ (unhide HL) (unhide HR1).1 (unhide HR1).2.1 (unhide HR1).2.2).mono ?_; rintro e w' ⟨rfl, rfl⟩) | fail)
  refine (U32_at _ l _ (unhide HS6) (by omega)).mono ?_
  rintro e w3 ⟨rfl, b3⟩
  have HS3 : Hid (w3.heap[w.heap.size]? = some (.cells slot0 49 (0, 0))) := hide (((b3 (w.heap.size + 1)).block _ (by omega)).trans (unhide HS))
  have HB3 := hide ((unhide HB).trans (b3 _))
  have HB3' := hide b3
  clear b3
  rw [unhide HT]
  have HG3 : Hid (∀ j, k + j ≤ d.length → Sl w3 (.slice (some ⟨b, off + (k + j), none⟩) (d.length - (k + j)) (cap - (k + j))) (l.drop j)) := hide (fun j hj => (unhide HG j hj).below (unhide HB3' _) (Nat.le_refl _))
  have s3 := (unhide HB3' 0).size
  have HN3 : Hid (∃ cs t, w3.heap[b]? = some (.cells cs t (0, 0))) := hide (by obtain ⟨cs, t, h⟩ := unhide HNB; exact ⟨cs, t, ((unhide HB3' (b + 1)).block b (Nat.lt_succ_self _)).trans h⟩)
  clear HG HS6 HS HB HL HB3' HR1 HT HNB
  obtain ⟨m, hm⟩ : ∃ m, m = l.drop 4 := ⟨_, rfl⟩
  have hml : m.length = d.length - k - 4 := by rw [hm, List.length_drop, hll]
  rw [← hm] at HU
  obtain ⟨k2, hk2⟩ : ∃ k, (rd m).2.1 = k := ⟨_, rfl⟩
  obtain ⟨e2, he2⟩ : ∃ e, (rd m).2.2 = e := ⟨_, rfl⟩
  obtain ⟨i2, hi2⟩ : ∃ i, rdI m = i := ⟨_, rfl⟩
  obtain ⟨-, -, -, r4⟩ := rd_facts m
  rw [hk2, he2] at r4
  rw [he2, hi2, hk2] at HU
  have HR2 := hide (And.intro hi2 (And.intro hk2 he2))
  clear hi2 hk2 he2
  have l4 : 4 ≤ l.length := by omega
  by_cases h7 : cap - k = 4
  · have hm0 : m = [] := List.eq_nil_of_length_eq_zero (by omega)
    have e7 : d.length - k - 4 = 0 := by omega
    have HS7 : Hid (Sl w3 (.slice (some ⟨b, off + k, none⟩) 0 0) m) := hide ⟨_, 0, by rw [hm0]; rfl, by rw [hm0]; simp, by simp [maxLen], fun h => absurd rfl h⟩
    have h8 : e2 ≠ 0 := fun h => by have := (r4 h).2.1; have := (r4 h).1; rw [hm0] at *; simp at *; omega
    rw [if_pos (.inl h8)] at HU
    have hne : ((e2 : Int) != 0) = true := by rw [bne_iff_ne]; omega
    clear r4 hm hm0
    go_wp2_with (first | (go_at_call 36; refine (Int_nm _ m _ _ _ _ (unhide HS7) (unhide HR2).1 (unhide HR2).2.1 (unhide HR2).2.2).mono ?_; rintro e w' ⟨rfl, rfl⟩) | (refine wpList_store_row rfl 49 (.tmp 4) (.tmp 75) rfl w.heap.size slot0 rfl rfl 49 slot0 (unhide HS3) sizeSlot rfl (one_slot _ _ _ _ _ _) ?_))
    (try simp only [Exit.inBlock, Exit.then])
    refine bodyPost_ret (v := .agg slot0) (results_cell_row rfl _ _ w.heap.size 49 slot0 (0, 0) _ rfl (setRow_heap _ _ _ _ _ _ (unhide HS3)) Try.underlying49 rfl sizeSlot) rfl ⟨none, 0, 0, by rw [← HU]; rfl, fun _ h => by (cases h), by rw [← HU]; exact nil_slm _, (unhide HB3).trans (below_setRowD _ _ _ _ (Nat.le_refl _))⟩
  have HS7 : Hid (Sl w3 (.slice (some ⟨b, off + k + 4, none⟩) (d.length - k - 4) (cap - k - 4)) m) := hide (by
    have := unhide HG3 4 (by omega)
    rw [← hm] at this
    rw [Nat.add_assoc, Nat.sub_sub, Nat.sub_sub]
    exact this)
  have HG4 : Hid (k2 ≤ m.length → Sl w3 (.slice (some ⟨b, off + k + 4 + k2, none⟩) (d.length - k - 4 - k2) (cap - k - 4 - k2)) (m.drop k2)) := hide (fun hj => by
    have := unhide HG3 (4 + k2) (by omega)
    rw [← List.drop_drop, ← hm] at this
    rw [Nat.sub_sub, Nat.sub_sub, Nat.sub_sub, Nat.sub_sub, show off + k + 4 + k2 = off + (k + (4 + k2)) by omega, show k + (4 + k2) = k + (4 + k2) from rfl]
    exact this)
  clear HG3 hm
  by_cases h8 : e2 ≠ 0
  · rw [if_pos (.inl h8)] at HU
    have hne : ((e2 : Int) != 0) = true := by rw [bne_iff_ne]; omega
    clear r4
    go_wp2_with (first | (go_at_call 36; refine (Int_nm _ m _ _ _ _ (unhide HS7) (unhide HR2).1 (unhide HR2).2.1 (unhide HR2).2.2).mono ?_; rintro e w' ⟨rfl, rfl⟩) | (refine wpList_store_row rfl 49 (.tmp 4) (.tmp 75) rfl w.heap.size slot0 rfl rfl 49 slot0 (unhide HS3) sizeSlot rfl (one_slot _ _ _ _ _ _) ?_))
    (try simp only [Exit.inBlock, Exit.then])
    refine bodyPost_ret (v := .agg slot0) (results_cell_row rfl _ _ w.heap.size 49 slot0 (0, 0) _ rfl (setRow_heap _ _ _ _ _ _ (unhide HS3)) Try.underlying49 rfl sizeSlot) rfl ⟨none, 0, 0, by rw [← HU]; rfl, fun _ h => by (cases h), by rw [← HU]; exact nil_slm _, (unhide HB3).trans (below_setRowD _ _ _ _ (Nat.le_refl _))⟩
  obtain rfl : e2 = 0 := by omega
  obtain ⟨q1, q2, q3⟩ := r4 rfl
  clear r4
  by_cases h9 : i2 < 0
  · rw [if_pos (.inr (.inl h9))] at HU
    go_wp2_with (first | (go_at_call 36; refine (Int_nm _ m _ _ _ _ (unhide HS7) (unhide HR2).1 (unhide HR2).2.1 (unhide HR2).2.2).mono ?_; rintro e w' ⟨rfl, rfl⟩) | (refine wpList_store_row rfl 49 (.tmp 4) (.tmp 75) rfl w.heap.size slot0 rfl rfl 49 slot0 (unhide HS3) sizeSlot rfl (one_slot _ _ _ _ _ _) ?_))
    (try simp only [Exit.inBlock, Exit.then])
    refine bodyPost_ret (v := .agg slot0) (results_cell_row rfl _ _ w.heap.size 49 slot0 (0, 0) _ rfl (setRow_heap _ _ _ _ _ _ (unhide HS3)) Try.underlying49 rfl sizeSlot) rfl ⟨none, 0, 0, by rw [← HU]; rfl, fun _ h => by (cases h), by rw [← HU]; exact nil_slm _, (unhide HB3).trans (below_setRowD _ _ _ _ (Nat.le_refl _))⟩
  by_cases h10 : 400 < m.length - k2
  · rw [if_pos (.inr (.inr h10))] at HU
    have h11 : (400 : Int) < ((d.length - k - 4 : Nat) : Int) - (k2 : Int) := by omega
    go_wp2_with (first | (go_at_call 36; refine (Int_nm _ m _ _ _ _ (unhide HS7) (unhide HR2).1 (unhide HR2).2.1 (unhide HR2).2.2).mono ?_; rintro e w' ⟨rfl, rfl⟩) | (refine wpList_store_row rfl 49 (.tmp 4) (.tmp 75) rfl w.heap.size slot0 rfl rfl 49 slot0 (unhide HS3) sizeSlot rfl (one_slot _ _ _ _ _ _) ?_))
    (try simp only [Exit.inBlock, Exit.then])
    refine bodyPost_ret (v := .agg slot0) (results_cell_row rfl _ _ w.heap.size 49 slot0 (0, 0) _ rfl (setRow_heap _ _ _ _ _ _ (unhide HS3)) Try.underlying49 rfl sizeSlot) rfl ⟨none, 0, 0, by rw [← HU]; rfl, fun _ h => by (cases h), by rw [← HU]; exact nil_slm _, (unhide HB3).trans (below_setRowD _ _ _ _ (Nat.le_refl _))⟩
  rw [if_neg (by simp; omega)] at HU
  have h11 : ¬ (400 : Int) < ((d.length - k - 4 : Nat) : Int) - (k2 : Int) := by omega
  by_cases h12 : cap - k - 4 = k2
  · have HS8 : Hid (Sl w3 (.slice (some ⟨b, off + k + 4, none⟩) (d.length - k - 4) k2) m) := hide (by have := unhide HS7; rwa [h12] at this)
    have HD : Hid (Sl w3 (.slice (some ⟨b, off + k + 4, none⟩) (d.length - k - 4 - k2) 0) (m.drop k2)) := hide ⟨_, 0, by rw [List.length_drop, hml], by rw [List.length_drop]; omega, by simp [maxLen], fun h => absurd rfl h⟩
    go_wp2_with (first | (go_at_call 36; refine (Int_nm _ m _ _ _ _ (unhide HS8) (unhide HR2).1 (unhide HR2).2.1 (unhide HR2).2.2).mono ?_; rintro e w' ⟨rfl, rfl⟩) | (refine wpList_store_row rfl 49 (.tmp 4) (.tmp 81) rfl w.heap.size _ rfl rfl 49 slot0 (unhide HS3) sizeSlot rfl (one_slot _ _ _ _ _ _) ?_))
    (try simp only [Exit.inBlock, Exit.then])
    refine bodyPost_ret (v := .agg #[.bool true, .int .u32 (t : Nat), .int .i64 i2, .slice (some ⟨b, off + k + 4, none⟩) (d.length - k - 4 - k2) 0]) (results_cell_row rfl _ _ w.heap.size 49 _ (0, 0) _ rfl (setRow_heap _ _ _ _ _ _ (unhide HS3)) Try.underlying49 rfl sizeSlot) rfl ⟨_, _, _, by rw [← HU], fun ad h => by (obtain rfl := Option.some.inj h; exact Nat.le_of_lt hbg), by rw [← HU]; exact ⟨(unhide HD).setRow _ (by omega), nf_row (unhide HN3) _ (by omega)⟩, (unhide HB3).trans (below_setRowD _ _ _ _ (Nat.le_refl _))⟩
  · go_wp2_with (first | (go_at_call 36; refine (Int_nm _ m _ _ _ _ (unhide HS7) (unhide HR2).1 (unhide HR2).2.1 (unhide HR2).2.2).mono ?_; rintro e w' ⟨rfl, rfl⟩) | (refine wpList_store_row rfl 49 (.tmp 4) (.tmp 81) rfl w.heap.size _ rfl rfl 49 slot0 (unhide HS3) sizeSlot rfl (one_slot _ _ _ _ _ _) ?_))
    (try simp only [Exit.inBlock, Exit.then])
    refine bodyPost_ret (v := .agg #[.bool true, .int .u32 (t : Nat), .int .i64 i2, .slice (some ⟨b, off + k + 4 + k2, none⟩) (d.length - k - 4 - k2) (cap - k - 4 - k2)]) (results_cell_row rfl _ _ w.heap.size 49 _ (0, 0) _ rfl (setRow_heap _ _ _ _ _ _ (unhide HS3)) Try.underlying49 rfl sizeSlot) rfl ⟨_, _, _, by rw [← HU], fun ad h => by (obtain rfl := Option.some.inj h; exact Nat.le_of_lt hbg), by rw [← HU]; exact ⟨(unhide HG4 q2).setRow _ (by omega), nf_row (unhide HN3) _ (by omega)⟩, (unhide HB3).trans (below_setRowD _ _ _ _ (Nat.le_refl _))⟩

set_option maxHeartbeats 4000000 in
theorem readM_ok {w : World} {b : Nat} {F : Nat → Prop} {N : Nat} {S : St} (h : Dev w b F N S) (k : Nat) (hk : k + 1 < S.safe.length) (hs : S.safe.length ≤ 512) (hd : S.down = false) (hB : burnE S.fused S.fuse = 0) (hd2 : S.burn.down = false) (hB2 : burnE S.burn.fused S.burn.fuse = 0) (hN : N < 900000) (hF : ∀ k, F k → k < w.heap.size)
    (hL : (S.newest k).length = 512) (hL2 : (S.burn.newest (k + 1)).length = 512) (hsb : S.burn.safe = S.safe) :
    Calls Try.prog 14 #[.pointer (some ⟨b, 0, none⟩), .int .i64 k] w fun e w' => ∃ a1 n1 c1 a2 n2 c2, e = .returned (.tuple #[.agg (twoC (unl k (S.newest k)) (unl k (S.burn.newest (k + 1))) (.slice a1 n1 c1) (.slice a2 n2 c2)), .int .i64 0]) ∧
      (∀ ad, a1 = some ad → w.heap.size ≤ ad.block) ∧ (∀ ad, a2 = some ad → w.heap.size ≤ ad.block) ∧ SlM w' (.slice a1 n1 c1) (unl k (S.newest k)).data ∧ SlM w' (.slice a2 n2 c2) (unl k (S.burn.newest (k + 1))).data ∧ Dev w' b F (N + 1 + 1) S.burn.burn ∧ Kept F w w' := by
  have HD := hide h
  clear h
  obtain ⟨s1, hs1⟩ : ∃ s, unl k (S.newest k) = s := ⟨_, rfl⟩
  obtain ⟨s2, hs2⟩ : ∃ s, unl k (S.burn.newest (k + 1)) = s := ⟨_, rfl⟩
  obtain ⟨W, hW⟩ : ∃ W, W = (w.alloc (.cells two0 50)).alloc (.cells two0 50) := ⟨_, rfl⟩
  have HW : Hid (Below w.heap.size w W) := hide (by rw [hW]; exact ((Below.refl _ _).alloc (Nat.le_refl _) _).alloc (by simp) _)
  have HZ : Hid (W.heap[w.heap.size]? = some (.cells two0 50 (0, 0))) := hide (by rw [hW, Below.heap_alloc _ _ _ (by simp)]; exact heap_alloc_self _ _)
  have HY : Hid (W.heap[w.heap.size + 1]? = some (.cells two0 50 (0, 0))) := hide (by rw [hW]; have := heap_alloc_self (w.alloc (.cells two0 50)) (.cells two0 50); simpa using this)
  have sW : W.heap.size = w.heap.size + 2 := by rw [hW]; simp
  rw [hs1, hs2]
  go_enter Try.func14, Try.ntmps14
  go_wp2_with fail
  rw [← hW]
  clear hW
  refine wp_loop_rounds 3 ?_
  rw [rounds_succ]
  go_wp2_with fail
  refine (Read_dev ((unhide HD).grown (unhide HW)) k (by omega) hd hB (by omega)).mono ?_
  rintro e w1 ⟨q, rfl, hq, hq1, d1, k1⟩
  have z1 : w1.heap.size ≥ W.heap.size := k1.size
  have lq := lt_of_block hq1
  have HZ1 : Hid (w1.heap[w.heap.size]? = some (.cells two0 50 (0, 0))) := hide ((k1.block _ (by omega) (fun h => by have := hF _ h; omega)).trans (unhide HZ))
  have HY1 : Hid (w1.heap[w.heap.size + 1]? = some (.cells two0 50 (0, 0))) := hide ((k1.block _ (by omega) (fun h => by have := hF _ h; omega)).trans (unhide HY))
  have H1 := hide (And.intro d1 k1)
  have HS1 := hide (Sl.ofRow hL hq1)
  clear d1 k1 hq1 HZ HY
  go_wp2_with fail
  refine (unlayM_any _ (S.newest k) k w1 (unhide HS1) (by omega) (by omega)).mono ?_
  rintro e w2 ⟨a1, n1, c1, rfl, fr1, sl1, b2⟩
  rw [hs1] at sl1 ⊢
  have z2 := b2.size
  have HZ2 : Hid (w2.heap[w.heap.size]? = some (.cells two0 50 (0, 0))) := hide ((b2.block _ (by omega)).trans (unhide HZ1))
  have HY2 : Hid (w2.heap[w.heap.size + 1]? = some (.cells two0 50 (0, 0))) := hide ((b2.block _ (by omega)).trans (unhide HY1))
  have H2 := hide (And.intro fr1 (And.intro sl1 b2))
  clear fr1 sl1 b2 HZ1 HY1 HS1
  have HT2 := hide (there_row (unhide HY2) 0 4 (by decide))
  go_wp2_with (first | (refine wpList_store_mid rfl 49 (.tmp 29) (.tmp 28) rfl (w.heap.size + 1) 0 (slotC s1 (.slice a1 n1 c1)) rfl rfl (unhide HT2) sizeSlot (one_slotL _ _ _ _) ?_) | fail)
  obtain ⟨w3, hw3⟩ : ∃ w3, w3 = w2.setCells (w.heap.size + 1) 0 (slotC s1 (.slice a1 n1 c1)).toList := ⟨_, rfl⟩
  rw [← hw3]
  have K3 : Kept (fun j => j = w.heap.size + 1) w2 w3 := by rw [hw3]; exact kept_cells _ _ _ _
  have HY3 : Hid (w3.heap[w.heap.size + 1]? = some (.cells (twoC s1 noSlot (.slice a1 n1 c1) (.slice none 0 0)) 50 (0, 0))) := hide (by rw [hw3]; exact heap_setCells_row _ _ _ 0 _ _ (unhide HY2) (by show 0 + 4 ≤ 8; omega))
  have HZ3 : Hid (w3.heap[w.heap.size]? = some (.cells two0 50 (0, 0))) := hide ((K3.block _ (by omega) (by omega)).trans (unhide HZ2))
  have HL3 : Hid (SlM w3 (.slice a1 n1 c1) s1.data) := hide ((unhide H2).2.1.kept K3 (fun ad h => by have := (unhide H2).1 ad h; omega))
  have HD3 : Hid (Dev w3 b F (N + 1) S.burn) := hide (((unhide H1).1.grown (unhide H2).2.2).frame fun j hj hl => K3.block j hl (by have := hF _ hj; omega))
  have HK3 : Hid (Kept F w w3) := hide (by
    refine ⟨K3.os.trans ((unhide H2).2.2.os.trans ((unhide H1).2.os.trans (unhide HW).os)), K3.tape.trans ((unhide H2).2.2.tape.trans ((unhide H1).2.tape.trans (unhide HW).tape)), K3.output.trans ((unhide H2).2.2.output.trans ((unhide H1).2.output.trans (unhide HW).output)), ?_, fun j hj hn => ?_⟩
    · have := K3.size; omega
    · rw [K3.block j (by omega) (by omega), (unhide H2).2.2.block j (by omega), (unhide H1).2.block j (by omega) hn, (unhide HW).block j hj])
  have z3 := K3.size
  have HR1 : Hid (∀ ad, a1 = some ad → w.heap.size + 2 ≤ ad.block) := hide (fun ad h => by have := (unhide H2).1 ad h; omega)
  clear hw3 K3 HY2 HZ2 H2 H1 HW HT2
  rw [rounds_succ]
  go_wp2_with fail
  have RD := Read_dev (unhide HD3) (k + 1) (by rw [hsb]; omega) hd2 hB2 (by omega)
  rw [show ((k + 1 : Nat) : Int) = (k : Int) + 1 by omega] at RD
  refine RD.mono ?_
  clear RD
  rintro e w4 ⟨q4, rfl, hq4, hq41, d4, k4⟩
  have z4 := k4.size
  have HZ4 : Hid (w4.heap[w.heap.size]? = some (.cells two0 50 (0, 0))) := hide ((k4.block _ (by omega) (fun h => by have := hF _ h; omega)).trans (unhide HZ3))
  have HY4 : Hid (w4.heap[w.heap.size + 1]? = some (.cells (twoC s1 noSlot (.slice a1 n1 c1) (.slice none 0 0)) 50 (0, 0))) := hide ((k4.block _ (by omega) (fun h => by have := hF _ h; omega)).trans (unhide HY3))
  have HL4 : Hid (SlM w4 (.slice a1 n1 c1) s1.data) := hide ((unhide HL3).kept k4 (fun ad h hf => by have := (unhide HR1) ad h; have := hF _ hf; omega))
  have HK4 := hide ((unhide HK3).trans k4)
  have HD4 := hide d4
  have HS4 := hide (Sl.ofRow hL2 hq41)
  clear d4 k4 hq41 HZ3 HY3 HL3 HK3 HD3
  go_wp2_with fail
  refine (unlayM_any _ (S.burn.newest (k + 1)) k w4 (unhide HS4) (by omega) (by omega)).mono ?_
  rintro e w5 ⟨a2, n2, c2, rfl, fr2, sl2, b5⟩
  rw [hs2] at sl2 ⊢
  have z5 := b5.size
  have HZ5 : Hid (w5.heap[w.heap.size]? = some (.cells two0 50 (0, 0))) := hide ((b5.block _ (by omega)).trans (unhide HZ4))
  have HY5 : Hid (w5.heap[w.heap.size + 1]? = some (.cells (twoC s1 noSlot (.slice a1 n1 c1) (.slice none 0 0)) 50 (0, 0))) := hide ((b5.block _ (by omega)).trans (unhide HY4))
  have H5 := hide (And.intro fr2 (And.intro sl2 b5))
  clear fr2 sl2 b5 HZ4 HY4 HS4
  have HT5 := hide (there_row (unhide HY5) 4 4 (by show 4 + 4 ≤ 8; omega))
  go_wp2_with (first | (refine wpList_store_mid rfl 49 (.tmp 29) (.tmp 28) rfl (w.heap.size + 1) 4 (slotC s2 (.slice a2 n2 c2)) rfl rfl (unhide HT5) sizeSlot (one_slotL _ _ _ _) ?_) | fail)
  obtain ⟨w6, hw6⟩ : ∃ w6, w6 = w5.setCells (w.heap.size + 1) 4 (slotC s2 (.slice a2 n2 c2)).toList := ⟨_, rfl⟩
  rw [← hw6]
  have K6 : Kept (fun j => j = w.heap.size + 1) w5 w6 := by rw [hw6]; exact kept_cells _ _ _ _
  have HY6 : Hid (w6.heap[w.heap.size + 1]? = some (.cells (twoC s1 s2 (.slice a1 n1 c1) (.slice a2 n2 c2)) 50 (0, 0))) := hide (by rw [hw6]; exact heap_setCells_row _ _ _ 4 _ _ (unhide HY5) (by show 4 + 4 ≤ 8; omega))
  have HZ6 : Hid (w6.heap[w.heap.size]? = some (.cells two0 50 (0, 0))) := hide ((K6.block _ (by omega) (by omega)).trans (unhide HZ5))
  have z6 := K6.size
  have H6 := hide K6
  clear hw6 K6 HY5 HZ5 HT5
  rw [rounds_succ]
  go_wp2_with (first | (refine wpList_load_row rfl 50 (.tmp 6) rfl (w.heap.size + 1) rfl 50 (twoC s1 s2 (.slice a1 n1 c1) (.slice a2 n2 c2)) (0, 0) _ (unhide HY6) Try.underlying50 rfl sizeTwo ?_) | (refine wpList_store_row rfl 50 (.tmp 4) (.tmp 31) rfl w.heap.size (twoC s1 s2 (.slice a1 n1 c1) (.slice a2 n2 c2)) rfl rfl 50 two0 (unhide HZ6) sizeTwo rfl (one_two _ _ _ _ _ _ _ _) ?_))
  (try simp only [Exit.inBlock, Exit.then])
  have KR : Kept (fun j => j = w.heap.size) w6 (w6.setRow w.heap.size (twoC s1 s2 (.slice a1 n1 c1) (.slice a2 n2 c2))) := ⟨rfl, rfl, rfl, by simp [World.setRow], fun j _ hn => setRow_other _ _ _ _ hn⟩
  have H5' := unhide H5
  have H6' := unhide H6
  have HD5 := ((unhide HD4).grown H5'.2.2).frame (fun j hj hl => H6'.block j hl (by have := hF _ hj; omega))
  refine bodyPost_ret (v := .tuple #[.agg (twoC s1 s2 (.slice a1 n1 c1) (.slice a2 n2 c2)), .int .i64 0]) (results_row_tmp rfl _ _ w.heap.size _ _ rfl rfl (run_loadVar_row _ w.heap.size 50 50 (twoC s1 s2 (.slice a1 n1 c1) (.slice a2 n2 c2)) (0, 0) _ (setRow_heap _ _ _ _ _ _ (unhide HZ6)) Try.underlying50 rfl sizeTwo)) rfl ⟨a1, n1, c1, a2, n2, c2, rfl, ?_, ?_, ?_, ?_, ?_, ?_⟩
  · exact fun ad h => by have := unhide HR1 ad h; omega
  · exact fun ad h => by have := H5'.1 ad h; omega
  · exact (((unhide HL4).below H5'.2.2 (Nat.le_refl _)).kept H6' (fun ad h => by have := unhide HR1 ad h; omega)).kept KR (fun ad h => by have := unhide HR1 ad h; omega)
  · exact (H5'.2.1.kept H6' (fun ad h => by have := H5'.1 ad h; omega)).kept KR (fun ad h => by have := H5'.1 ad h; omega)
  · exact HD5.frame fun j hj hl => KR.block j hl (by have := hF _ hj; omega)
  · have K4 := unhide HK4
    refine ⟨KR.os.trans (H6'.os.trans (H5'.2.2.os.trans K4.os)), KR.tape.trans (H6'.tape.trans (H5'.2.2.tape.trans K4.tape)), KR.output.trans (H6'.output.trans (H5'.2.2.output.trans K4.output)), ?_, fun j hj hn => ?_⟩
    · have := KR.size; omega
    · rw [KR.block j (by omega) (by omega), H6'.block j (by omega) (by omega), H5'.2.2.block j (by omega), K4.block j hj hn]

theorem readM_well {w : World} {b : Nat} {F : Nat → Prop} {N : Nat} {S : St} (h : Dev w b F N S) (k : Nat) (hk : k + 1 < S.safe.length) (hr : S.reads) (hN : N < 900000) (hF : ∀ k, F k → k < w.heap.size) :
    Calls Try.prog 14 #[.pointer (some ⟨b, 0, none⟩), .int .i64 k] w fun e w' => ∃ a1 n1 c1 a2 n2 c2, e = .returned (.tuple #[.agg (twoC (unl k (S.newest k)) (unl k (S.newest (k + 1))) (.slice a1 n1 c1) (.slice a2 n2 c2)), .int .i64 0]) ∧
      (∀ ad, a1 = some ad → w.heap.size ≤ ad.block) ∧ (∀ ad, a2 = some ad → w.heap.size ≤ ad.block) ∧ SlM w' (.slice a1 n1 c1) (unl k (S.newest k)).data ∧ SlM w' (.slice a2 n2 c2) (unl k (S.newest (k + 1))).data ∧ Dev w' b F (N + 2) S.burn.burn ∧ Kept F w w' := by
  obtain ⟨g, c, m, vf, D, h0⟩ := h
  exact readM_ok ⟨g, c, m, vf, D, h0⟩ k hk h0.n2 hr.1 hr.2.1 (by rw [St.well_up hr.2.1]; exact hr.1) hr.2.2 hN hF (St.newest_len h0 k (by omega)) (St.newest_len h0 (k + 1) hk) rfl

set_option maxRecDepth 20000 in
set_option maxHeartbeats 2000000 in
theorem LoadM_laid {w : World} {b : Nat} {F : Nat → Prop} {N : Nat} {S : St} (h : Dev w b F N S) (hF : ∀ k, F k → k < w.heap.size) (k : Nat) (hk : k + 1 < S.safe.length) (hN : N < 800000) (hr : S.reads) (hla : (S.rcd k).laid = true) :
    Calls Try.prog 7 #[.pointer (some ⟨b, 0, none⟩), .int .i64 k] w fun e w' => ∃ a n c, e = .returned (.tuple #[.slice a n c, .int .i64 (S.rcd k).count, .int .i64 0]) ∧ SlM w' (.slice a n c) (S.rcd k).data ∧ (∀ ad, a = some ad → w.heap.size ≤ ad.block) ∧ Dev w' b F (N + 2) S.burn.burn ∧ Kept F w w' := by
  have hs : S.safe.length ≤ 512 := by obtain ⟨g, c, m, vf, D, h0⟩ := h; exact h0.n2
  have HD := hide h
  clear h
  go_enter Try.func7, Try.ntmps7
  go_wp2_with fail
  refine (check_ok (unhide HD) k hk none 0 0 (by omega)).mono ?_
  rintro e w1 ⟨rfl, b1⟩
  have HB1 := hide b1
  have z1 := b1.size
  have HD1 := hide ((unhide HD).grown b1)
  clear b1 HD
  have hF1 : ∀ j, F j → j < w1.heap.size := fun j hj => by have := hF j hj; omega
  go_wp2_with fail
  refine (readM_well (unhide HD1) k hk hr (by omega) hF1).mono ?_
  rintro e w2 ⟨a1, n1, c1, a2, n2, c2, rfl, f1, f2, l1, l2, d2, k2⟩
  have hrc : S.rcd k = curS (unl k (S.newest k)) (unl k (S.newest (k + 1))) := rfl
  obtain ⟨s1, hs1⟩ : ∃ s, unl k (S.newest k) = s := ⟨_, rfl⟩
  obtain ⟨s2, hs2⟩ : ∃ s, unl k (S.newest (k + 1)) = s := ⟨_, rfl⟩
  rw [hs1] at l1
  rw [hs2] at l2
  rw [hs1, hs2] at hrc ⊢
  have HD2 := hide d2
  have HK2 := hide k2
  have z2 := k2.size
  have HL := hide (And.intro l1 l2)
  have HFr := hide (And.intro f1 f2)
  clear d2 k2 l1 l2 f1 f2 HD1 hs1 hs2
  obtain ⟨W2, hW2⟩ : ∃ W2, W2 = w2.alloc (.cells (twoC s1 s2 (.slice a1 n1 c1) (.slice a2 n2 c2)) 50) := ⟨_, rfl⟩
  have HBW : Hid (Below w2.heap.size w2 W2) := hide (by rw [hW2]; exact (Below.refl _ _).alloc (Nat.le_refl _) _)
  have HRW : Hid (W2.heap[w2.heap.size]? = some (.cells (twoC s1 s2 (.slice a1 n1 c1) (.slice a2 n2 c2)) 50 (0, 0))) := hide (by rw [hW2]; exact heap_alloc_self _ _)
  have zW : W2.heap.size = w2.heap.size + 1 := by rw [hW2]; simp
  rcases newR_or s1 s2 with h0 | h0
  · have hcu : S.rcd k = s1 := by rw [hrc]; unfold curS; rw [if_neg (by omega)]
    rw [hcu] at hla
    have HLA := hide hla
    have HCU := hide hcu
    clear hrc hla hcu
    go_wp2_with (first | (refine wpList_load_row rfl 50 (.tmp 9) rfl w2.heap.size rfl 50 (twoC s1 s2 (.slice a1 n1 c1) (.slice a2 n2 c2)) (0, 0) _ (by exact heap_alloc_self _ _) Try.underlying50 rfl sizeTwo ?_) | fail)
    rw [← hW2]
    clear hW2
    refine (newer_any s1 s2 _ _ _).mono ?_
    rintro e w3 ⟨rfl, b3⟩
    have z3 := b3.size
    have HR3 : Hid (w3.heap[w2.heap.size]? = some (.cells (twoC s1 s2 (.slice a1 n1 c1) (.slice a2 n2 c2)) 50 (0, 0))) := hide ((b3.block _ (by omega)).trans (unhide HRW))
    have HB3 := hide ((unhide HBW).trans (b3.mono (by omega)))
    clear b3
    have q0 : w3.cell? ⟨w2.heap.size, 0, none⟩ = some (.bool s1.laid) := by simp [World.cell?, unhide HR3]
    have q1 : w3.cell? ⟨w2.heap.size, 1, none⟩ = some (.int .u32 (s1.turn : Nat)) := by simp [World.cell?, unhide HR3]
    have q2 : w3.cell? ⟨w2.heap.size, 2, none⟩ = some (.int .i64 s1.count) := by simp [World.cell?, unhide HR3]
    have q3 : w3.cell? ⟨w2.heap.size, 3, none⟩ = some (.slice a1 n1 c1) := by simp [World.cell?, unhide HR3]
    rw [h0]
    rw [unhide HLA] at q0
    obtain ⟨W4, hW4⟩ : ∃ W4, W4 = w3.alloc (.cells #[.bool true, .int .u32 (s1.turn : Nat), .int .i64 s1.count, .slice a1 n1 c1] 49) := ⟨_, rfl⟩
    have HB4 : Hid (Below w2.heap.size w2 W4) := hide (by rw [hW4]; exact (unhide HB3).alloc (by omega) _)
    have r2 : W4.cell? ⟨w3.heap.size, 2, none⟩ = some (.int .i64 s1.count) := by rw [hW4]; simp
    have r3 : W4.cell? ⟨w3.heap.size, 3, none⟩ = some (.slice a1 n1 c1) := by rw [hW4]; simp
    go_wp2
    rw [← hW4]
    clear hW4
    go_quiet (fail)
    go_wp2
    go_ret3
    refine ⟨a1, n1, c1, by rw [unhide HCU]; rfl, ?_, fun ad h => by have := (unhide HFr).1 ad h; omega, (unhide HD2).grown (below_drewN (unhide HB4) _), ((Kept.of_below (unhide HB1)).trans (unhide HK2)).trans (Kept.of_below (below_drewN (unhide HB4) _))⟩
    rw [unhide HCU]
    exact (unhide HL).1.below (below_drewN (unhide HB4) _) (Nat.le_refl _)
  · have hcu : S.rcd k = s2 := by rw [hrc]; unfold curS; rw [if_pos h0]
    rw [hcu] at hla
    have HLA := hide hla
    have HCU := hide hcu
    clear hrc hla hcu
    go_wp2_with (first | (refine wpList_load_row rfl 50 (.tmp 9) rfl w2.heap.size rfl 50 (twoC s1 s2 (.slice a1 n1 c1) (.slice a2 n2 c2)) (0, 0) _ (by exact heap_alloc_self _ _) Try.underlying50 rfl sizeTwo ?_) | fail)
    rw [← hW2]
    clear hW2
    refine (newer_any s1 s2 _ _ _).mono ?_
    rintro e w3 ⟨rfl, b3⟩
    have z3 := b3.size
    have HR3 : Hid (w3.heap[w2.heap.size]? = some (.cells (twoC s1 s2 (.slice a1 n1 c1) (.slice a2 n2 c2)) 50 (0, 0))) := hide ((b3.block _ (by omega)).trans (unhide HRW))
    have HB3 := hide ((unhide HBW).trans (b3.mono (by omega)))
    clear b3
    have q0 : w3.cell? ⟨w2.heap.size, 4, none⟩ = some (.bool s2.laid) := by simp [World.cell?, unhide HR3]
    have q1 : w3.cell? ⟨w2.heap.size, 5, none⟩ = some (.int .u32 (s2.turn : Nat)) := by simp [World.cell?, unhide HR3]
    have q2 : w3.cell? ⟨w2.heap.size, 6, none⟩ = some (.int .i64 s2.count) := by simp [World.cell?, unhide HR3]
    have q3 : w3.cell? ⟨w2.heap.size, 7, none⟩ = some (.slice a2 n2 c2) := by simp [World.cell?, unhide HR3]
    rw [h0]
    rw [unhide HLA] at q0
    obtain ⟨W4, hW4⟩ : ∃ W4, W4 = w3.alloc (.cells #[.bool true, .int .u32 (s2.turn : Nat), .int .i64 s2.count, .slice a2 n2 c2] 49) := ⟨_, rfl⟩
    have HB4 : Hid (Below w2.heap.size w2 W4) := hide (by rw [hW4]; exact (unhide HB3).alloc (by omega) _)
    have r2 : W4.cell? ⟨w3.heap.size, 2, none⟩ = some (.int .i64 s2.count) := by rw [hW4]; simp
    have r3 : W4.cell? ⟨w3.heap.size, 3, none⟩ = some (.slice a2 n2 c2) := by rw [hW4]; simp
    go_wp2
    rw [← hW4]
    clear hW4
    go_quiet (fail)
    go_wp2
    go_ret3
    refine ⟨a2, n2, c2, by rw [unhide HCU]; rfl, ?_, fun ad h => by have := (unhide HFr).2 ad h; omega, (unhide HD2).grown (below_drewN (unhide HB4) _), ((Kept.of_below (unhide HB1)).trans (unhide HK2)).trans (Kept.of_below (below_drewN (unhide HB4) _))⟩
    rw [unhide HCU]
    exact (unhide HL).2.below (below_drewN (unhide HB4) _) (Nat.le_refl _)

end Go.Proofs.Ytnmmdefkmjlkaaa

/-
  DERIVED. A record on a device that is up and has no fuse: Format, Store, Load go well.
-/
namespace Go.Proofs.Ytnmmdefkmjlkaaa
open Go.RowKit
set_option linter.unusedVariables false

/-- A device of 64 blocks that is up, with no fuse. -/
structure Up (S : St) : Prop where
  fused : S.fused = false
  up : S.down = false
  len : S.safe.length = 64
theorem Up.reads {S : St} (h : Up S) : S.reads := St.reads_free h.fused h.up
theorem Up.new : Up (St.new 64) := ⟨rfl, rfl, List.length_replicate⟩
theorem Up.burn {S : St} (h : Up S) : Up S.burn := ⟨h.fused, by rw [St.well_up (St.well_free h.fused)]; exact h.up, h.len⟩
theorem Up.crash (S : St) (ps : List Int) (h : S.safe.length = 64) : Up (S.crash ps) := ⟨rfl, rfl, by rw [crash_len]; exact h⟩
theorem Put.isUp {S T : St} {k : Nat} {cnt : Int} {d : List UInt8} (h : Put S T k cnt d) (hS : Up S) : Up T := ⟨h.fused.trans hS.fused, h.up, h.len.trans hS.len⟩
/-- Of another place a record stays. -/
theorem Put.apart {S T : St} {k j : Nat} {cnt : Int} {d : List UInt8} (h : Put S T k cnt d) (hl : j + 1 < S.safe.length) (h1 : j + 1 < k ∨ k + 1 < j) : T.rcd j = S.rcd j :=
  St.rcd_of (h.other j (by omega) (by omega) (by omega)) (h.other (j + 1) hl (by omega) (by omega))

theorem fmt_up {S : St} (h : Up S) (k : Nat) (hk : k + 1 < 64) (d : List UInt8) (hl : d.length ≤ 400) : ∃ T, S.format k d = (0, T) ∧ Put S T k 0 d := by
  have hf : ∀ X : St, X.fused = S.fused → X.well := fun X hX => St.well_free (hX.trans h.fused)
  have := putF_good (S := S) (k := k) (by rw [h.len]; exact hk) (by rw [h.len]; decide) h.up _ rfl h.burn.burn.up (cnt := 0) (d := d) (by decide) (by decide) hl (hf _ rfl) (hf _ rfl)
  exact ⟨_, by unfold St.format; rw [if_pos h.reads]; exact this.1, this.2⟩
theorem store_up {S : St} (h : Up S) (k : Nat) (hk : k + 1 < 64) (d : List UInt8) (hl : d.length ≤ 400) (hla : (S.rcd k).laid = true) (hc : (S.rcd k).count < 9223372036854775807) : ∃ T, S.store k d = (0, T) ∧ Put S T k ((S.rcd k).count + 1) d := by
  have hf : ∀ X : St, X.fused = S.fused → X.well := fun X hX => St.well_free (hX.trans h.fused)
  have hc0 := (S.rcd_is k).2.1
  have := putF_good (S := S) (k := k) (by rw [h.len]; exact hk) (by rw [h.len]; decide) h.up _ rfl h.burn.burn.up (cnt := (S.rcd k).count + 1) (d := d) (by omega) (by omega) hl (hf _ rfl) (hf _ rfl)
  exact ⟨_, by unfold St.store; rw [if_pos h.reads, if_pos hla]; exact this.1, this.2⟩

/-- The device at a point of a law that began in w0: all that it has is new since then. -/
structure Run (w0 w : World) (b N : Nat) (F : Nat → Prop) (S : St) : Prop where
  dev : Dev w b F N S
  foot : ∀ j, F j → w0.heap.size ≤ j ∧ j < w.heap.size
  bel : Below w0.heap.size w0 w
theorem Run.grown {w0 w w' : World} {b N : Nat} {F : Nat → Prop} {S : St} (h : Run w0 w b N F S) (hb : Below w.heap.size w w') : Run w0 w' b N F S :=
  ⟨h.dev.grown hb, fun j hj => by have := h.foot j hj; have := hb.size; omega, h.bel.trans (hb.mono h.bel.size)⟩
theorem Run.of {w0 w w' : World} {b N M : Nat} {F F' : Nat → Prop} {S T : St} (h : Run w0 w b N F S) (hd : Dev w' b F' M T) (hf : ∀ j, F' j → w0.heap.size ≤ j ∧ j < w'.heap.size) (hk : Kept F w w') : Run w0 w' b M F' T :=
  ⟨hd, hf, h.bel.trans (hk.below h.bel.size fun j hj => (h.foot j hj).1)⟩
/-- What was there at the beginning is none of the device's. -/
theorem Sl.old {w : World} {a : Option Addr} {n c : Nat} {d : List UInt8} (h : Sl w (.slice a n c) d) (hc : c ≠ 0) : ∀ ad, a = some ad → ad.block < w.heap.size := by
  obtain ⟨ao, cap, e, h1, h2, h4⟩ := h
  have ec : c = cap := by injection e
  obtain ⟨b', off', e', h5, h6⟩ := h4 (by rw [← ec]; first | exact hc | omega)
  intro ad had
  have ea : a = some ⟨b', off', none⟩ := by rw [← e']; injection e
  rw [had] at ea
  cases ea
  exact h5
theorem Run.notF {w0 w : World} {b N : Nat} {F : Nat → Prop} {S : St} (h : Run w0 w b N F S) {a : Option Addr} {n c : Nat} {d : List UInt8} (hv : Sl w0 (.slice a n c) d) : c ≠ 0 → ∀ ad, a = some ad → ¬ F ad.block :=
  fun hd ad ha hf => by have := hv.old hd ad ha; have := h.foot _ hf; omega
theorem Run.newF {w0 w : World} {b N : Nat} {F : Nat → Prop} {S : St} (h : Run w0 w b N F S) (c o : Nat) : c ≠ 0 → ∀ ad, some (⟨w.heap.size, o, none⟩ : Addr) = some ad → ¬ F ad.block :=
  fun _ ad ha hf => by cases ha; exact absurd (h.foot _ hf).2 (Nat.lt_irrefl _)
theorem Run.sl {w0 w : World} {b N : Nat} {F : Nat → Prop} {S : St} (h : Run w0 w b N F S) {v : Value} {d : List UInt8} (hv : Sl w0 v d) : Sl w v d := hv.below h.bel (Nat.le_refl _)

theorem New_run (w0 w : World) (hb : Below w0.heap.size w0 w) :
    Calls Try.prog 5 #[.int .i64 64] w fun e w' => e = .returned (.tuple #[.pointer (some ⟨w.heap.size + 2, 0, none⟩), .int .i64 0]) ∧ Run w0 w' (w.heap.size + 2) 0 (fun k => w.heap.size ≤ k ∧ k < w'.heap.size) (St.new 64) ∧ Below w.heap.size w w' := by
  refine (New_dev 64 w (by omega) (by omega)).mono ?_
  rintro e w' ⟨rfl, d1, b1⟩
  have := hb.size
  exact ⟨rfl, ⟨d1, fun j hj => ⟨by have := hj.1; omega, hj.2⟩, hb.trans (b1.mono hb.size)⟩, b1⟩

theorem Format_up {w0 w : World} {b N : Nat} {F : Nat → Prop} {S : St} (h : Run w0 w b N F S) (hU : Up S) (k : Nat) (hk : k + 1 < 64) (hN : N < 800000) (a : Option Addr) (c : Nat) (d : List UInt8) (hv : Sl w (.slice a d.length c) d) (hva : c ≠ 0 → ∀ ad, a = some ad → ¬ F ad.block) (hl : d.length ≤ 400) :
    Calls Try.prog 6 #[.pointer (some ⟨b, 0, none⟩), .int .i64 k, .slice a d.length c] w fun e w' => e = .returned (.int .i64 0) ∧ ∃ F' T, Run w0 w' b (N + 6) F' T ∧ Put S T k 0 d ∧ Up T ∧ (∀ j, F' j → F j ∨ w.heap.size ≤ j) ∧ Kept F w w' := by
  obtain ⟨T, hT, hP⟩ := fmt_up hU k hk d hl
  refine (Format_dev h.dev h.foot h.bel.size k (by rw [hU.len]; exact hk) hN a d.length c d hv hva hl rfl).mono ?_
  rintro e w' ⟨rfl, ⟨F', f1, f2, f3⟩, k1⟩
  rw [hT] at f3 ⊢
  exact ⟨rfl, F', T, h.of f3 f1 k1, hP, hP.isUp hU, f2, k1⟩

theorem Store_up {w0 w : World} {b N : Nat} {F : Nat → Prop} {S : St} (h : Run w0 w b N F S) (hU : Up S) (k : Nat) (hk : k + 1 < 64) (hN : N < 800000) (a : Option Addr) (c : Nat) (d : List UInt8) (hv : Sl w (.slice a d.length c) d) (hva : c ≠ 0 → ∀ ad, a = some ad → ¬ F ad.block) (hl : d.length ≤ 400)
    (hla : (S.rcd k).laid = true) (hc : (S.rcd k).count < 9223372036854775807) :
    Calls Try.prog 12 #[.pointer (some ⟨b, 0, none⟩), .int .i64 k, .slice a d.length c] w fun e w' => e = .returned (.int .i64 0) ∧ ∃ F' T, Run w0 w' b (N + 6) F' T ∧ Put S T k ((S.rcd k).count + 1) d ∧ Up T ∧ (∀ j, F' j → F j ∨ w.heap.size ≤ j) ∧ Kept F w w' := by
  obtain ⟨T, hT, hP⟩ := store_up hU k hk d hl hla hc
  refine (Store_dev h.dev h.foot h.bel.size k (by rw [hU.len]; exact hk) hN a d.length c d hv hva hl rfl hc).mono ?_
  rintro e w' ⟨rfl, ⟨F', f1, f2, f3⟩, k1⟩
  rw [hT] at f3 ⊢
  exact ⟨rfl, F', T, h.of f3 f1 k1, hP, hP.isUp hU, f2, k1⟩

/-- Store where no record lies. -/
theorem Store_no {w0 w : World} {b N : Nat} {F : Nat → Prop} {S : St} (h : Run w0 w b N F S) (hU : Up S) (k : Nat) (hk : k + 1 < 64) (hN : N < 800000) (a : Option Addr) (c : Nat) (d : List UInt8) (hv : Sl w (.slice a d.length c) d) (hva : c ≠ 0 → ∀ ad, a = some ad → ¬ F ad.block) (hl : d.length ≤ 400)
    (hla : (S.rcd k).laid = false) (hc : (S.rcd k).count < 9223372036854775807) :
    Calls Try.prog 12 #[.pointer (some ⟨b, 0, none⟩), .int .i64 k, .slice a d.length c] w fun e w' => e = .returned (.int .i64 30) ∧ ∃ F', Run w0 w' b (N + 6) F' S.burn.burn ∧ (∀ j, F' j → F j ∨ w.heap.size ≤ j) ∧ Kept F w w' := by
  have hT : S.store k d = (30, S.burn.burn) := by unfold St.store; rw [if_pos hU.reads, if_neg (by rw [hla]; decide)]
  refine (Store_dev h.dev h.foot h.bel.size k (by rw [hU.len]; exact hk) hN a d.length c d hv hva hl rfl hc).mono ?_
  rintro e w' ⟨rfl, ⟨F', f1, f2, f3⟩, k1⟩
  rw [hT] at f3 ⊢
  exact ⟨rfl, F', h.of f3 f1 k1, f2, k1⟩

theorem Load_up {w0 w : World} {b N : Nat} {F : Nat → Prop} {S : St} (h : Run w0 w b N F S) (hU : Up S) (k : Nat) (hk : k + 1 < 64) (hN : N < 800000) (hla : (S.rcd k).laid = true) :
    Calls Try.prog 7 #[.pointer (some ⟨b, 0, none⟩), .int .i64 k] w fun e w' => ∃ a n c, e = .returned (.tuple #[.slice a n c, .int .i64 (S.rcd k).count, .int .i64 0]) ∧ Sl w' (.slice a n c) (S.rcd k).data ∧ (∀ ad, a = some ad → w.heap.size ≤ ad.block) ∧ Run w0 w' b (N + 2) F S.burn.burn ∧ Kept F w w' := by
  refine (Load_laid h.dev (fun j hj => (h.foot j hj).2) k (by rw [hU.len]; exact hk) hN hU.reads hla).mono ?_
  rintro e w' ⟨a, n, c, rfl, h1, h2, h3, h4⟩
  exact ⟨a, n, c, rfl, h1, h2, h.of h3 (fun j hj => by have := h.foot j hj; have := h4.size; omega) h4, h4⟩
theorem Load_no {w0 w : World} {b N : Nat} {F : Nat → Prop} {S : St} (h : Run w0 w b N F S) (hU : Up S) (k : Nat) (hk : k + 1 < 64) (hN : N < 800000) (hla : (S.rcd k).laid = false) :
    Calls Try.prog 7 #[.pointer (some ⟨b, 0, none⟩), .int .i64 k] w fun e w' => e = .returned (.tuple #[.slice none 0 0, .int .i64 0, .int .i64 30]) ∧ Run w0 w' b (N + 2) F S.burn.burn ∧ Kept F w w' := by
  refine (Load_none h.dev (fun j hj => (h.foot j hj).2) k (by rw [hU.len]; exact hk) hN hU.reads hla).mono ?_
  rintro e w' ⟨rfl, h3, h4⟩
  exact ⟨rfl, h.of h3 (fun j hj => by have := h.foot j hj; have := h4.size; omega) h4, h4⟩

theorem new_rcd (k : Nat) (hk : k + 1 < 64) : (St.new 64).rcd k = noSlot := by
  have h : ∀ j, j < 64 → (St.new 64).newest j = List.replicate 512 0 := fun j hj => by
    show ((List.replicate 64 (List.replicate 512 (0 : UInt8)))[j]?).getD [] = _
    rw [List.getElem?_replicate, if_pos hj]; rfl
  unfold St.rcd
  rw [h k (by omega), h (k + 1) hk, unl_noughts]
  rfl
theorem St.rcd_burn (S : St) (k : Nat) : S.burn.rcd k = S.rcd k := rfl
end Go.Proofs.Ytnmmdefkmjlkaaa

/-
  DERIVED. How an argument of bytes is opened, beside the device.
-/
namespace Go.Proofs.Ytnmmdefkmjlkaaa
open Go.ChangeShapes Go.WideShapes Go.ChangeAt Go.RowKit

theorem Try.bytes5 : Try.prog.bytesOf 5 = 1 := by kernel_rfl
theorem Try.cells5 : Try.prog.cellsOf 5 = 1 := by kernel_rfl

theorem byte_wf {n : Int} (h : (Lit.int .u8 n).wf = true) : n = ((UInt8.ofNat n.toNat).toNat : Int) := by
  have := bounds_u8 h
  simp only [UInt8.toNat_ofNat']
  omega

theorem open_bytes {H : Type} {enc : TypeId × Value → H} {W : World} {a : Option Addr} {n c : Nat} {d : DataW H} {p : List MemPlace}
    (h : DataW.Trod enc Try.prog W 0 (fun _ => true) true 22 (.slice a n c) d p) :
    ∃ l : List UInt8, Sl W (.slice a n c) l ∧ ((d = .nil ∧ l = []) ∨ ∃ es sp, d = .slice es sp ∧ l.length ≤ es.length + sp.length) := by
  obtain ⟨fuel, hf⟩ := h
  rcases open_ints Try.underlying22 Try.underlying5 Try.cells5 hf with ⟨hcs, hx⟩ | ⟨x, l, cp, zs, hcs, _, hl, hm, hz, hx, hcell, hwz⟩
  · simp [Value.cells] at hcs
    obtain ⟨rfl, rfl, rfl⟩ := hcs
    simp only [Prod.mk.injEq] at hx
    exact ⟨[], nil_sl W, .inl ⟨hx.1, rfl⟩⟩
  · simp [Value.cells] at hcs
    obtain ⟨rfl, rfl, rfl⟩ := hcs
    simp only [Prod.mk.injEq] at hx
    rw [if_pos rfl] at hz
    have hlen : ((zs.take n).map (fun z => UInt8.ofNat z.toNat)).length = n := by simp; omega
    refine ⟨(zs.take n).map (fun z => UInt8.ofNat z.toNat), ⟨some x, c, by rw [hlen], by rw [hlen]; exact hl, hm, fun hc => ?_⟩, .inr ⟨_, _, hx.1, ?_⟩⟩
    · have h0 := hcell 0 (by omega)
      have hsp := World.cell?_spot h0
      obtain ⟨b, off, sp⟩ := x
      have hsp' : sp = none := by
        cases sp with
        | none => rfl
        | some k => simp [Addr.add] at hsp
      subst hsp'
      refine ⟨b, off, rfl, ?_, fun i hi => ?_⟩
      · rw [addr_add] at h0
        exact World.block_lt_of_cell? W ⟨b, off + 0, none⟩ h0
      · have hi' : i < n := by rw [hlen] at hi; exact hi
        have := hcell i (by omega)
        rw [addr_add] at this
        rw [this]
        have hmem : zs.getD i 0 ∈ zs := by
          rw [List.getD_eq_getElem?_getD, List.getElem?_eq_getElem (by omega)]; exact List.getElem_mem _
        have hb := byte_wf (hwz _ hmem)
        have e : ((zs.take n).map (fun z => UInt8.ofNat z.toNat))[i] = UInt8.ofNat (zs.getD i 0).toNat := by
          simp [List.getD_eq_getElem?_getD, List.getElem?_eq_getElem (show i < zs.length by omega)]
        rw [e]
        show _ = some (Value.int .u8 _)
        rw [← hb]
    · rw [hlen]; simp only [lits, List.length_map, List.length_take, List.length_drop]; omega
theorem Sl.lenEq {w : World} {a : Option Addr} {n c : Nat} {l : List UInt8} (h : Sl w (.slice a n c) l) : n = l.length := by
  obtain ⟨ao, cap, e, _⟩ := h
  injection e
end Go.Proofs.Ytnmmdefkmjlkaaa

/-
  DERIVED. A record on a device with a fuse, and behind a crash.
-/
namespace Go.Proofs.Ytnmmdefkmjlkaaa
open Go.RowKit
set_option linter.unusedVariables false

theorem Ints.belowS {B : Nat} {w w' : World} {v : Value} {l : List Int} (h : Ints w v l) (hb : Below B w w') (hB : w.heap.size ≤ B) : Ints w' v l := by
  obtain ⟨ao, cap, e, h1, h2, h3⟩ := h
  refine ⟨ao, cap, e, h1, h2, fun hl => ?_⟩
  obtain ⟨pb, off, e2, h4, h5⟩ := h3 hl
  exact ⟨pb, off, e2, Nat.lt_of_lt_of_le h4 hb.size, fun i hi => (hb.cell (p := ⟨pb, off + i, none⟩) (by show pb < B; omega)).trans (h5 i hi)⟩
theorem Ints.oldS {w : World} {v : Value} {l : List Int} (h : Ints w v l) (hl : l ≠ []) : ∀ pb, v.ownBlock = some pb → pb < w.heap.size := by
  obtain ⟨ao, cap, rfl, h1, h2, h3⟩ := h
  obtain ⟨pb, off, rfl, h4, h5⟩ := h3 hl
  intro q hq
  cases hq
  exact h4

theorem Crash_run {w0 w : World} {b N : Nat} {F : Nat → Prop} {S : St} (h : Run w0 w b N F S) (hN : N < 800000) (ps : List Int) (v : Value) (hv : Ints w0 v ps) :
    Calls Try.prog 11 #[.pointer (some ⟨b, 0, none⟩), v] w fun e w' => e = .returned (.tuple #[]) ∧ Run w0 w' b N F (S.crash ps) ∧ Kept F w w' := by
  refine (Crash_dev h.dev (by omega) ps v (hv.belowS h.bel (Nat.le_refl _)) (fun hne pb hpb hf => by have := hv.oldS hne pb hpb; have := (h.foot pb hf).1; omega)).mono ?_
  rintro e w' ⟨rfl, d', k'⟩
  exact ⟨rfl, h.of d' (fun j hj => by have := h.foot j hj; have := k'.size; omega) k', k'⟩
theorem ints_nil (w : World) : Ints w (.slice none 0 0) [] := ⟨none, 0, rfl, by simp, by simp, fun h => absurd rfl h⟩
theorem Down_run {w0 w : World} {b N : Nat} {F : Nat → Prop} {S : St} (h : Run w0 w b N F S) :
    Calls Try.prog 17 #[.pointer (some ⟨b, 0, none⟩)] w fun e w' => e = .returned (.bool S.down) ∧ w = w' := by
  obtain ⟨g, c, m, vf, D, h0⟩ := h.dev
  exact Down_dev h0.dev
theorem Fuse_run {w0 w : World} {b N : Nat} {F : Nat → Prop} {S : St} (h : Run w0 w b N F S) (k : Int) (k1 : -9223372036854775808 ≤ k) (k2 : k < 9223372036854775808) :
    Calls Try.prog 10 #[.pointer (some ⟨b, 0, none⟩), .int .i64 k] w fun e w' => e = .returned (.int .i64 (if S.down then 2 else 0)) ∧ Run w0 w' b N F (S.fuseK k) ∧ Kept F w w' := by
  refine (Fuse_devS h.dev k k1 k2).mono ?_
  rintro e w' ⟨rfl, d', k'⟩
  exact ⟨rfl, h.of d' (fun j hj => by have := h.foot j hj; have := k'.size; omega) k', k'⟩
theorem Store_run {w0 w : World} {b N : Nat} {F : Nat → Prop} {S : St} (h : Run w0 w b N F S) (hlen : S.safe.length = 64) (k : Nat) (hk : k + 1 < 64) (hN : N < 800000) (a : Option Addr) (c : Nat) (d : List UInt8) (hv : Sl w (.slice a d.length c) d) (hva : c ≠ 0 → ∀ ad, a = some ad → ¬ F ad.block) (hl : d.length ≤ 400) (hc : (S.rcd k).count < 9223372036854775807) :
    Calls Try.prog 12 #[.pointer (some ⟨b, 0, none⟩), .int .i64 k, .slice a d.length c] w fun e w' => e = .returned (.int .i64 (S.store k d).1) ∧ ∃ F', Run w0 w' b (N + 6) F' (S.store k d).2 ∧ (∀ j, F' j → F j ∨ w.heap.size ≤ j) ∧ Kept F w w' := by
  refine (Store_dev h.dev h.foot h.bel.size k (by rw [hlen]; exact hk) hN a d.length c d hv hva hl rfl hc).mono ?_
  rintro e w' ⟨rfl, ⟨F', f1, f2, f3⟩, k1⟩
  exact ⟨rfl, F', h.of f3 f1 k1, f2, k1⟩

theorem St.fuseK_newest (S : St) (k : Int) (n : Nat) : (S.fuseK k).newest n = S.newest n := by unfold St.fuseK; split <;> rfl
theorem St.fuseK_rcd (S : St) (k : Int) (n : Nat) : (S.fuseK k).rcd n = S.rcd n := St.rcd_of (S.fuseK_newest k n) (S.fuseK_newest k (n + 1))
theorem St.fuseK_len (S : St) (k : Int) : (S.fuseK k).safe.length = S.safe.length := by unfold St.fuseK; split <;> rfl
theorem St.fuseK_down (S : St) (k : Int) : (S.fuseK k).down = S.down := by
  unfold St.fuseK
  split
  · rfl
  · rfl
theorem St.fuseK_pend (S : St) (k : Int) : (S.fuseK k).pend = S.pend := by unfold St.fuseK; split <;> rfl

/-- Where nothing is pending at its place a crash leaves a record. -/
theorem crash_rcd {S : St} {k : Nat} (h : S.calm k) (hk : k + 1 < S.safe.length) (ps : List Int) : (S.crash ps).rcd k = S.rcd k :=
  St.rcd_of (crash_calm S ps k (by omega) h.1) (crash_calm S ps (k + 1) hk h.2)

/-- A store that goes well, or the device is down behind it, and a crash then keeps the old record or the new one. -/
theorem store_cases {S : St} (hlen : S.safe.length = 64) (k : Nat) (hk : k + 1 < 64) (hd : S.down = false) (hcalm : S.calm k) (hla : (S.rcd k).laid = true) (hc : (S.rcd k).count < 9223372036854775807) (d : List UInt8) (hl : d.length ≤ 400) :
    ((S.store k d).1 = 0 ∧ Put S (S.store k d).2 k ((S.rcd k).count + 1) d) ∨
    ((S.store k d).1 = 2 ∧ (S.store k d).2.down = true ∧ (S.store k d).2.safe.length = 64 ∧ ∀ ps, ((S.store k d).2.crash ps).rcd k = S.rcd k ∨ ((S.store k d).2.crash ps).rcd k = ⟨true, ((S.rcd k).turn + 1) % 4294967296, (S.rcd k).count + 1, d⟩) := by
  have hc0 := (S.rcd_is k).2.1
  by_cases hr : S.reads
  · have hX : S.burn.burn.down = false := by rw [St.well_up hr.2.2, St.well_up hr.2.1]; exact hd
    have hs : S.store k d = S.burn.burn.putF (S.elder k) (S.nextB k ((S.rcd k).count + 1) d) := by unfold St.store; rw [if_pos hr, if_pos hla]
    by_cases h1 : S.burn.burn.well
    · by_cases h2 : (S.burn.burn.burn.wrote (S.elder k) (S.nextB k ((S.rcd k).count + 1) d)).well
      · left
        have := putF_good (S := S) (k := k) (by rw [hlen]; exact hk) (by rw [hlen]; decide) hd _ rfl hX (cnt := (S.rcd k).count + 1) (d := d) (by omega) (by omega) hl h1 h2
        rw [hs, this.1]
        exact ⟨rfl, this.2⟩
      · right
        have e : S.store k d = (2, (S.burn.burn.burn.wrote (S.elder k) (S.nextB k ((S.rcd k).count + 1) d)).burn) := by rw [hs]; unfold St.putF; rw [if_pos h1, if_neg h2]
        rw [e]
        exact ⟨rfl, St.unwell h2, hlen, fun ps => putF_stop (by rw [hlen]; exact hk) (by rw [hlen]; decide) hcalm (by omega) (by omega) hl _ (.inr rfl) ps⟩
    · right
      have e : S.store k d = (2, S.burn.burn.burn) := by rw [hs]; unfold St.putF; rw [if_neg h1]
      rw [e]
      exact ⟨rfl, St.unwell h1, hlen, fun ps => putF_stop (cnt := (S.rcd k).count + 1) (d := d) (by rw [hlen]; exact hk) (by rw [hlen]; decide) hcalm (by omega) (by omega) hl _ (.inl rfl) ps⟩
  · right
    have e : S.store k d = (2, S.halted) := by unfold St.store; rw [if_neg hr]
    rw [e]
    refine ⟨rfl, St.halted_down hr, by show S.halted.safe.length = 64; rw [St.halted_safe]; exact hlen, fun ps => .inl ?_⟩
    have hp := S.halted_pend
    have hn : ∀ n, S.halted.newest n = S.newest n := fun n => by unfold St.newest; rw [hp, S.halted_safe]
    exact (crash_rcd (S := S.halted) ⟨by rw [hp]; exact hcalm.1, by rw [hp]; exact hcalm.2⟩ (by rw [S.halted_safe, hlen]; exact hk) ps).trans (St.rcd_of (hn k) (hn (k + 1)))
end Go.Proofs.Ytnmmdefkmjlkaaa

/-
  DERIVED. The document's record in memory: Told, Store.
-/
namespace Go.Proofs.Ytnmmdefkmjlkaaa
open Go.RowKit
set_option linter.unusedVariables false

/-- The document's record. -/
structure Rc where
  laid : Bool
  other : Bool
  data : List UInt8
  next : List UInt8
  count : Int
abbrev rcC (R : Rc) : Array Value := #[.bool R.laid, .bool R.other, .string ⟨R.data.toArray⟩, .string ⟨R.next.toArray⟩, .int .i64 R.count]
def RcAt (w : World) (q : Nat) (R : Rc) : Prop := w.heap[q]? = some (.cells (rcC R) 34 (0, 0))
theorem RcAt.c0 {w : World} {q : Nat} {R : Rc} (h : RcAt w q R) : w.cell? ⟨q, 0, none⟩ = some (.bool R.laid) := by rw [cell_of_row _ _ _ _ _ _ h]; rfl
theorem RcAt.c1 {w : World} {q : Nat} {R : Rc} (h : RcAt w q R) : w.cell? ⟨q, 1, none⟩ = some (.bool R.other) := by rw [cell_of_row _ _ _ _ _ _ h]; rfl
theorem RcAt.c2 {w : World} {q : Nat} {R : Rc} (h : RcAt w q R) : w.cell? ⟨q, 2, none⟩ = some (.string ⟨R.data.toArray⟩) := by rw [cell_of_row _ _ _ _ _ _ h]; rfl
theorem RcAt.c3 {w : World} {q : Nat} {R : Rc} (h : RcAt w q R) : w.cell? ⟨q, 3, none⟩ = some (.string ⟨R.next.toArray⟩) := by rw [cell_of_row _ _ _ _ _ _ h]; rfl
theorem RcAt.c4 {w : World} {q : Nat} {R : Rc} (h : RcAt w q R) : w.cell? ⟨q, 4, none⟩ = some (.int .i64 R.count) := by rw [cell_of_row _ _ _ _ _ _ h]; rfl
theorem RcAt.nf {w : World} {q : Nat} {R : Rc} (h : RcAt w q R) (i : Nat) : w.frozen? ⟨q, i, none⟩ = false := frozen_of_row w q i _ _ h
theorem RcAt.lt {w : World} {q : Nat} {R : Rc} (h : RcAt w q R) : q < w.heap.size := lt_of_block h
theorem RcAt.s1 {w : World} {q : Nat} {R : Rc} (h : RcAt w q R) (o : Bool) : RcAt (w.setCell ⟨q, 1, none⟩ (.bool o)) q { R with other := o } := heap_setCell_same w q 1 _ _ _ h
theorem RcAt.s2 {w : World} {q : Nat} {R : Rc} (h : RcAt w q R) (d : List UInt8) : RcAt (w.setCell ⟨q, 2, none⟩ (.string ⟨d.toArray⟩)) q { R with data := d } := heap_setCell_same w q 2 _ _ _ h
theorem RcAt.s3 {w : World} {q : Nat} {R : Rc} (h : RcAt w q R) (d : List UInt8) : RcAt (w.setCell ⟨q, 3, none⟩ (.string ⟨d.toArray⟩)) q { R with next := d } := heap_setCell_same w q 3 _ _ _ h
theorem RcAt.s4 {w : World} {q : Nat} {R : Rc} (h : RcAt w q R) (c : Int) : RcAt (w.setCell ⟨q, 4, none⟩ (.int .i64 c)) q { R with count := c } := heap_setCell_same w q 4 _ _ _ h
theorem kept_set (w : World) (q o : Nat) (v : Value) : Kept (fun j => j = q) w (w.setCell ⟨q, o, none⟩ v) := ⟨rfl, rfl, rfl, by simp [World.setCell], fun k _ hk => heap_setCell_other _ _ _ _ hk⟩
theorem kept_drewN (F : Nat → Prop) (w : World) (n : Nat) : Kept F w (w.drewN n) := ⟨rfl, rfl, rfl, Nat.le_refl _, fun _ _ _ => rfl⟩

set_option maxHeartbeats 2000000 in
theorem Told_same {w : World} {q : Nat} {R : Rc} (h : RcAt w q R) (a : Option Addr) (n c : Nat) (hv : Sl w (.slice a n c) R.data) (hc0 : 0 ≤ R.count) (hc1 : R.count < 1000000) :
    Calls Try.prog 18 #[.pointer (some ⟨q, 0, none⟩), .slice a n c, .int .i64 R.count] w fun e w' => e = .returned (.bool true) ∧ RcAt w' q { R with other := false } ∧ Kept (fun j => j = q) w w' := by
  have hstr : ∀ nq, (convert 22 9 (.slice a n c)).run Try.prog (w.drewN nq) = .ok (.string ⟨R.data.toArray⟩) (w.drewN nq) := fun nq => (hv.below (below_drewN (Below.refl w.heap.size w) nq) (Nat.le_refl _)).str
  have hstr0 := hv.str
  have c1 := h.c1
  have c2 := h.c2
  have c4 := h.c4
  have n1 := h.nf 1
  have HX : Hid (∀ nq, RcAt ((w.drewN nq).setCell ⟨q, 1, none⟩ (.bool false)) q { R with other := false } ∧ Kept (fun j => j = q) w ((w.drewN nq).setCell ⟨q, 1, none⟩ (.bool false))) := hide (fun nq => ⟨RcAt.s1 (w := w.drewN nq) h false, (kept_drewN _ w nq).trans (kept_set _ _ _ _)⟩)
  clear h hv
  go_enter Try.func18, Try.ntmps18
  go_wp2_with fail
  go_quiet (fail)
  go_wp2
  go_ret
  exact ⟨rfl, (unhide HX _).1, (unhide HX _).2⟩

set_option maxHeartbeats 4000000 in
theorem Told_next {w : World} {q : Nat} {R : Rc} (h : RcAt w q R) (a : Option Addr) (n c : Nat) (ho : R.other = true) (hv : Sl w (.slice a n c) R.next) (hc0 : 0 ≤ R.count) (hc1 : R.count < 1000000) :
    Calls Try.prog 18 #[.pointer (some ⟨q, 0, none⟩), .slice a n c, .int .i64 (R.count + 1)] w fun e w' => e = .returned (.bool true) ∧ RcAt w' q { R with other := false, data := R.next, count := R.count + 1 } ∧ Kept (fun j => j = q) w w' := by
  have hstr : ∀ nq, (convert 22 9 (.slice a n c)).run Try.prog (w.drewN nq) = .ok (.string ⟨R.next.toArray⟩) (w.drewN nq) := fun nq => (hv.below (below_drewN (Below.refl w.heap.size w) nq) (Nat.le_refl _)).str
  have c1 := h.c1
  rw [ho] at c1
  have c2 := h.c2
  have c3 := h.c3
  have c4 := h.c4
  have n1 := h.nf 1
  have n2 := h.nf 2
  have n4 := h.nf 4
  have hne : ¬ (R.count + 1 = R.count) := by omega
  have HX : Hid (∀ nq mq, RcAt (((((w.drewN nq).setCell ⟨q, 1, none⟩ (.bool false)).setCell ⟨q, 2, none⟩ (.string ⟨R.next.toArray⟩)).setCell ⟨q, 4, none⟩ (.int .i64 (R.count + 1))).drewN mq) q { R with other := false, data := R.next, count := R.count + 1 } ∧ Kept (fun j => j = q) w (((((w.drewN nq).setCell ⟨q, 1, none⟩ (.bool false)).setCell ⟨q, 2, none⟩ (.string ⟨R.next.toArray⟩)).setCell ⟨q, 4, none⟩ (.int .i64 (R.count + 1))).drewN mq)) := hide (fun nq mq => ⟨((RcAt.s1 (w := w.drewN nq) h false).s2 R.next).s4 (R.count + 1), ((((kept_drewN _ w nq).trans (kept_set _ _ _ _)).trans (kept_set _ _ _ _)).trans (kept_set _ _ _ _)).trans (kept_drewN _ _ _)⟩)
  clear h hv ho
  go_enter Try.func18, Try.ntmps18
  by_cases hd : R.next = R.data
  · go_wp2_with fail
    go_quiet (fail)
    go_wp2_with fail
    go_quiet (fail)
    go_wp2
    go_ret
    rw [← hd]
    exact ⟨rfl, (unhide HX _ 0).1, (unhide HX _ 0).2⟩
  · go_wp2_with fail
    go_quiet (fail)
    go_wp2_with fail
    go_quiet (fail)
    go_wp2
    go_ret
    exact ⟨rfl, (unhide HX _ 0).1, (unhide HX _ 0).2⟩

set_option maxHeartbeats 2000000 in
theorem rStore_ok {w : World} {q : Nat} {R : Rc} (h : RcAt w q R) (hla : R.laid = true) (a : Option Addr) (c : Nat) (d : List UInt8) (hv : Sl w (.slice a d.length c) d) (hl : d.length ≤ 400) (hc0 : 0 ≤ R.count) (hc1 : R.count < 1000000) :
    Calls Try.prog 19 #[.pointer (some ⟨q, 0, none⟩), .slice a d.length c] w fun e w' => e = .returned (.int .i64 0) ∧ RcAt w' q { R with data := d, count := R.count + 1 } ∧ Kept (fun j => j = q) w w' := by
  have hstr := hv.str
  have c0 := h.c0
  rw [hla] at c0
  have c2 := h.c2
  have c4 := h.c4
  have n2 := h.nf 2
  have n4 := h.nf 4
  have hl' : ¬ (400 : Int) < (d.length : Int) := by omega
  have HX : Hid (RcAt ((w.setCell ⟨q, 2, none⟩ (.string ⟨d.toArray⟩)).setCell ⟨q, 4, none⟩ (.int .i64 (R.count + 1))) q { R with data := d, count := R.count + 1 } ∧ Kept (fun j => j = q) w ((w.setCell ⟨q, 2, none⟩ (.string ⟨d.toArray⟩)).setCell ⟨q, 4, none⟩ (.int .i64 (R.count + 1)))) := hide ⟨(h.s2 d).s4 (R.count + 1), (kept_set _ _ _ _).trans (kept_set _ _ _ _)⟩
  clear h hv hla
  go_enter Try.func19, Try.ntmps19
  go_wp2
  go_ret
  exact ⟨rfl, (unhide HX).1, (unhide HX).2⟩
end Go.Proofs.Ytnmmdefkmjlkaaa
