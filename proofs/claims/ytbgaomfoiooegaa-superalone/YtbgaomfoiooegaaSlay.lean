/-
  DERIVED. The walk of lay.
-/
import Derived.Test.YtbgaomfoiooegaaScheck
import Derived.Laws.CopyOwn
namespace Go.Proofs.Ytbgaomfoiooegaa
open Go.RowKit
set_option linter.unusedVariables false

theorem noughts_listS (n : Nat) : noughts n = (List.replicate n (Value.int .u8 0)).toArray := by simp [noughts]
theorem splice_zero (n : Nat) (l : List UInt8) : splice (List.replicate n (Value.int .u8 0)) 0 (l.map bv) = (l ++ List.replicate (n - l.length) 0).map bv := by simp [splice]
def cur512 : List Value := List.replicate 512 (.int .u8 0)
theorem cur512_len : cur512.length = 512 := by unfold cur512; rw [List.length_replicate]
theorem run_make_bytes512 (w : World) : (Instr.makeSlice 22 (.int .i64 512) (.int .i64 512)).run Try.prog w = .ok (.slice (some ⟨w.heap.size, 0, none⟩) 512 512) (w.alloc (.cells (noughts 512) 5)) := by kernel_rfl

set_option maxRecDepth 20000 in
set_option maxHeartbeats 2000000 in
theorem lay_any (s : Slot) (a : Option Addr) (n c : Nat) (at_ : Int) (w : World) (hv : Sl w (.slice a n c) s.data) (hat0 : -9223372036854775808 ≤ at_) (hat1 : at_ ≤ 9223372036854775807) (ht : s.turn < 4294967296) (hc0 : 0 ≤ s.count) (hc1 : s.count ≤ 9223372036854775807) (hd : s.data.length ≤ 400) :
    Calls Try.prog 37 #[.agg (slotC s (.slice a n c)), .int .i64 at_] w fun e w' => ∃ g, e = .returned (.tuple #[.slice (some ⟨g, 0, none⟩) 512 512, .int .i64 0]) ∧ w.heap.size ≤ g ∧ w'.heap[g]? = some (.cells ((slotL s at_).map bv).toArray 5 (0, 0)) ∧ Below w.heap.size w w' := by
  have HV := hide hv
  clear hv
  have l1 := lay_len (zig at_)
  have l2 := lay_len (zig s.count)
  have l3 : ∀ x, (le4 x).length = 4 := fun _ => rfl
  obtain ⟨W0, hW0⟩ : ∃ W0, W0 = w.alloc (.cells (slotC s (.slice a n c)) 61) := ⟨_, rfl⟩
  have HW0 : Hid (Below w.heap.size w W0) := hide (by rw [hW0]; exact (Below.refl _ _).alloc (Nat.le_refl _) _)
  have s0 : W0.heap.size = w.heap.size + 1 := by rw [hW0]; simp
  have q1 : W0.cell? ⟨w.heap.size, 1, none⟩ = some (.int .u32 (s.turn : Nat)) := by rw [hW0]; simp
  have q2 : W0.cell? ⟨w.heap.size, 2, none⟩ = some (.int .i64 s.count) := by rw [hW0]; simp
  have q3 : W0.cell? ⟨w.heap.size, 3, none⟩ = some (.slice a n c) := by rw [hW0]; simp
  have HQ := hide (And.intro q1 (And.intro q2 q3))
  clear q1 q2 q3
  go_enter Try.func37, Try.ntmps37
  go_wp2_with fail
  rw [← hW0]
  refine (PutInt_any _ [] at_ W0 (nil_sl _) hat0 hat1 (by simp)).mono ?_
  rintro e w1 ⟨v1, rfl, o1, b1⟩
  have B1 := hide b1
  have O1 := hide o1
  have s1 := b1.size
  have q1 := (b1.cell (p := ⟨w.heap.size, 1, none⟩) (by show w.heap.size < _; omega)).trans (unhide HQ).1
  clear b1 o1 hW0
  go_wp2_with fail
  refine (Put32_any _ _ _ s.turn w1 (unhide O1).sl ht rfl (by simp; omega)).mono ?_
  rintro e w2 ⟨v2, rfl, o2, b2⟩
  have B2 := hide ((unhide B1).trans (b2.mono s1))
  have O2 := hide o2
  have s2 := b2.size
  have q2 := ((unhide B2).cell (p := ⟨w.heap.size, 2, none⟩) (by show w.heap.size < _; omega)).trans (unhide HQ).2.1
  clear b2 o2 O1 B1 q1
  go_wp2_with fail
  refine (PutInt_any _ _ s.count w2 (unhide O2).sl (by omega) hc1 (by simp [l3]; omega)).mono ?_
  rintro e w3 ⟨v3, rfl, o3, b3⟩
  have B3 := hide ((unhide B2).trans (b3.mono (by omega)))
  have O3 := hide o3
  have s3 := b3.size
  have q3 := ((unhide B3).cell (p := ⟨w.heap.size, 3, none⟩) (by show w.heap.size < _; omega)).trans (unhide HQ).2.2
  have V3 : Hid (Sl w3 (.slice a n c) s.data) := hide ((unhide HV).below ((unhide HW0).trans ((unhide B3).mono (by omega))) (Nat.le_refl _))
  clear b3 o3 O2 B2 q2
  go_wp2_with (first | (at_builtin; refine wpList_append_mine rfl (.tmp 20) (.tmp 22) rfl w2.heap.size _ _ rfl (unhide O3) _ s.data rfl (unhide V3) ?hlen ?hbase ?_) | fail)
  case hlen => simp [l3]; omega
  case hbase => exact s3
  intro v4 w4 o4 b4
  obtain ⟨a4, n4, c4, rfl⟩ := own_slice o4
  have hbody : lay (zig at_) ++ (le4 s.turn ++ (lay (zig s.count) ++ s.data)) = slotB s at_ := by simp [slotB]
  rw [hbody] at o4
  have B4 := hide ((unhide B3).trans (b4.mono (by omega)))
  have O4 := hide o4
  have s4 := b4.size
  have hlB := slotB_len s at_
  have hlF := frLay_len (slotB s at_)
  clear b4 o4 O3 B3 q3 V3 hbody
  go_wp2_with fail
  refine (PutFrame_sl _ [] 83 a4 n4 c4 (slotB s at_) w4 (nil_sl _) (unhide O4).sl (by omega) (by simp)).mono ?_
  rintro e w5 ⟨a5, c5, rfl, o5, b5⟩
  simp only [List.nil_append] at o5 ⊢
  have B5 := hide ((unhide B4).trans (b5.mono (by omega)))
  have O5 := hide o5
  have s5 := b5.size
  clear b5 o5 O4 B4
  have mk := run_make_bytes512 w5
  have HP : Hid (0 < ((frLay 83 (slotB s at_)).map bv).length → (some (⟨w5.heap.size, 0, none⟩ : Addr)) = some ⟨w5.heap.size, 0, none⟩ ∧ ∃ ad, a5 = some ad ∧ ∀ j v, ((frLay 83 (slotB s at_)).map bv)[j]? = some v → (w5.alloc (.cells (noughts 512) 5)).cell? (ad.add j) = some v) := hide (fun hp => by
    refine ⟨rfl, ?_⟩
    rcases ((unhide O5).sl.alloc (.cells (noughts 512) 5)).cases with ⟨h, _⟩ | ⟨b, off, cap, hz, _, _, _, hc⟩
    · rw [h] at hp; simp at hp
    · injection hz with e1 e2 e3
      refine ⟨_, e1, fun j v hj => ?_⟩
      obtain ⟨x, hx, rfl⟩ := by simpa using hj
      obtain ⟨hjl, rfl⟩ := List.getElem?_eq_some_iff.1 hx
      rw [addr_add]
      exact hc j hjl)
  have HG : Hid ((w5.alloc (.cells (noughts 512) 5)).heap[w5.heap.size]? = some (.cells cur512.toArray 5 (0, 0))) := hide (by rw [heap_alloc_self, noughts_listS]; rfl)
  have HSP : Hid (splice cur512 0 ((frLay 83 (slotB s at_)).map bv) = (slotL s at_).map bv) := hide (splice_zero 512 _)
  have hF : (frLay 83 (slotB s at_)).length ≤ 512 := by omega
  have HN : Hid (((frLay 83 (slotB s at_)).map bv).length = Nat.min (frLay 83 (slotB s at_)).length 512) := hide (by rw [List.length_map]; exact (Nat.min_eq_left hF).symm)
  have HFT : Hid (0 + ((frLay 83 (slotB s at_)).map bv).length ≤ cur512.length) := hide (by rw [cur512_len, List.length_map]; omega)
  have HB6 := hide ((Below.refl w5.heap.size w5).alloc (Nat.le_refl _) (.cells (noughts 512) 5))
  go_wp2_with (refine wpList_copy_splice rfl (.tmp 34) (.tmp 35) 22 22 rfl 5 Try.underlying22 (by kernel_rfl) _ _ _ _ _ _ rfl rfl w5.heap.size 0 cur512 5 (unhide HG) ((frLay 83 (slotB s at_)).map bv) (unhide HN) (unhide HP) (unhide HFT) (bv_one _) w5.heap.size w5 (unhide HB6) (Nat.le_refl _) ?_)
  intro w7 hg7 b7
  have G7 := hide (And.intro hg7 b7)
  clear hg7 b7
  go_wp2
  go_ret2
  refine ⟨w5.heap.size, rfl, by omega, ?_, ?_⟩
  · rw [← unhide HSP]; exact (unhide G7).1
  · exact (unhide HW0).trans (((unhide B5).mono (by omega)).trans ((unhide G7).2.mono (by omega)))
end Go.Proofs.Ytbgaomfoiooegaa
