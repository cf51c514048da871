/-
  DERIVED. A block's bytes read; a write, and which blocks of memory the device has then.
-/
import Derived.Test.YtbgaomfoiooegaaDcrash
namespace Go.Proofs.Ytbgaomfoiooegaa
open Go.RowKit Go.Maps
set_option linter.unusedVariables false

theorem Row.sl {w : World} {g : Nat} {L : List UInt8} (h : Row w g L) (hL : L.length = 512) : Sl w (.slice (some ⟨g, 0, none⟩) 512 512) L := by
  refine ⟨some ⟨g, 0, none⟩, 512, by rw [hL], by rw [hL]; exact Nat.le_refl _, by unfold maxLen; omega, fun _ => ⟨g, 0, rfl, lt_of_block h, fun i hi => ?_⟩⟩
  rw [Nat.zero_add]
  exact h.cell i hi
theorem headL_len (s : ByteArray) (x : UInt8) : (headL s (fillL x 512)).length = 512 := by
  unfold headL
  have := fillL_len x 512 (Nat.le_refl _)
  have hs : s.data.toList.length = s.size := Array.length_toList
  rw [List.length_append, List.length_take, List.length_drop, this, hs]
  omega

theorem Write_own {w : World} {b base : Nat} {F : Nat → Prop} {N : Nat} {S : St} (h : Dev w b F N S) (hF : ∀ k, F k → base ≤ k ∧ k < w.heap.size) (hbs : base ≤ w.heap.size) (k : Nat) (L : List UInt8) (v : Value) (hk : k < S.safe.length) (hd : S.down = false) (hB : burnE S.fused S.fuse = 0)
    (hv : Sl w v L) (hL : L.length = 512) (hN : N < 1000000) :
    Calls Try.prog 21 #[.pointer (some ⟨b, 0, none⟩), .int .i64 k, v] w fun e w' => e = .returned (.int .i64 0) ∧ (∃ F', (∀ k, F' k → base ≤ k ∧ k < w'.heap.size) ∧ (∀ k, F' k → F k ∨ w.heap.size ≤ k) ∧ Dev w' b F' (N + 2) (S.burn.wrote k L)) ∧ Kept F w w' := by
  refine (Write_ext h k L v hk hd hB hv hL hN).mono ?_
  rintro e w' ⟨rfl, hd', hk'⟩
  refine ⟨rfl, ⟨_, fun j hj => ?_, fun j hj => hj.imp id And.left, hd'⟩, hk'⟩
  have := hk'.size
  rcases hj with h1 | h1
  · have := hF j h1; omega
  · omega

end Go.Proofs.Ytbgaomfoiooegaa
