/-
  DERIVED. A record on a device that is up and has no fuse: Format, Store, Load go well.
-/
import Derived.Test.YtbgaomfoiooegaaSload
namespace Go.Proofs.Ytbgaomfoiooegaa
open Go.RowKit
set_option linter.unusedVariables false

/-- A device of 64 blocks that is up, with no fuse. -/
structure Up (S : St) : Prop where
  fused : S.fused = false
  up : S.down = false
  len : S.safe.length = 64
theorem Up.reads {S : St} (h : Up S) : S.reads := St.reads_free h.fused h.up
theorem Up.new : Up (St.new 64) := ⟨rfl, rfl, List.length_replicate⟩
theorem Up.burn {S : St} (h : Up S) : Up S.burn := ⟨h.fused, by rw [St.well_up (St.well_free h.fused)]; exact h.up, h.len⟩
theorem Up.crash (S : St) (ps : List Int) (h : S.safe.length = 64) : Up (S.crash ps) := ⟨rfl, rfl, by rw [crash_len]; exact h⟩
theorem Put.isUp {S T : St} {k : Nat} {cnt : Int} {d : List UInt8} (h : Put S T k cnt d) (hS : Up S) : Up T := ⟨h.fused.trans hS.fused, h.up, h.len.trans hS.len⟩
/-- Of another place a record stays. -/
theorem Put.apart {S T : St} {k j : Nat} {cnt : Int} {d : List UInt8} (h : Put S T k cnt d) (hl : j + 1 < S.safe.length) (h1 : j + 1 < k ∨ k + 1 < j) : T.rcd j = S.rcd j :=
  St.rcd_of (h.other j (by omega) (by omega) (by omega)) (h.other (j + 1) hl (by omega) (by omega))

theorem fmt_up {S : St} (h : Up S) (k : Nat) (hk : k + 1 < 64) (d : List UInt8) (hl : d.length ≤ 400) : ∃ T, S.format k d = (0, T) ∧ Put S T k 0 d := by
  have hf : ∀ X : St, X.fused = S.fused → X.well := fun X hX => St.well_free (hX.trans h.fused)
  have := putF_good (S := S) (k := k) (by rw [h.len]; exact hk) (by rw [h.len]; decide) h.up _ rfl h.burn.burn.up (cnt := 0) (d := d) (by decide) (by decide) hl (hf _ rfl) (hf _ rfl)
  exact ⟨_, by unfold St.format; rw [if_pos h.reads]; exact this.1, this.2⟩
theorem store_up {S : St} (h : Up S) (k : Nat) (hk : k + 1 < 64) (d : List UInt8) (hl : d.length ≤ 400) (hla : (S.rcd k).laid = true) (hc : (S.rcd k).count < 9223372036854775807) : ∃ T, S.store k d = (0, T) ∧ Put S T k ((S.rcd k).count + 1) d := by
  have hf : ∀ X : St, X.fused = S.fused → X.well := fun X hX => St.well_free (hX.trans h.fused)
  have hc0 := (S.rcd_is k).2.1
  have := putF_good (S := S) (k := k) (by rw [h.len]; exact hk) (by rw [h.len]; decide) h.up _ rfl h.burn.burn.up (cnt := (S.rcd k).count + 1) (d := d) (by omega) (by omega) hl (hf _ rfl) (hf _ rfl)
  exact ⟨_, by unfold St.store; rw [if_pos h.reads, if_pos hla]; exact this.1, this.2⟩

/-- The device at a point of a law that began in w0: all that it has is new since then. -/
structure Run (w0 w : World) (b N : Nat) (F : Nat → Prop) (S : St) : Prop where
  dev : Dev w b F N S
  foot : ∀ j, F j → w0.heap.size ≤ j ∧ j < w.heap.size
  bel : Below w0.heap.size w0 w
theorem Run.grown {w0 w w' : World} {b N : Nat} {F : Nat → Prop} {S : St} (h : Run w0 w b N F S) (hb : Below w.heap.size w w') : Run w0 w' b N F S :=
  ⟨h.dev.grown hb, fun j hj => by have := h.foot j hj; have := hb.size; omega, h.bel.trans (hb.mono h.bel.size)⟩
theorem Run.of {w0 w w' : World} {b N M : Nat} {F F' : Nat → Prop} {S T : St} (h : Run w0 w b N F S) (hd : Dev w' b F' M T) (hf : ∀ j, F' j → w0.heap.size ≤ j ∧ j < w'.heap.size) (hk : Kept F w w') : Run w0 w' b M F' T :=
  ⟨hd, hf, h.bel.trans (hk.below h.bel.size fun j hj => (h.foot j hj).1)⟩
/-- What was there at the beginning is none of the device's. -/
theorem Sl.old {w : World} {a : Option Addr} {n c : Nat} {d : List UInt8} (h : Sl w (.slice a n c) d) (hc : c ≠ 0) : ∀ ad, a = some ad → ad.block < w.heap.size := by
  obtain ⟨ao, cap, e, h1, h2, h4⟩ := h
  have ec : c = cap := by injection e
  obtain ⟨b', off', e', h5, h6⟩ := h4 (by rw [← ec]; first | exact hc | omega)
  intro ad had
  have ea : a = some ⟨b', off', none⟩ := by rw [← e']; injection e
  rw [had] at ea
  cases ea
  exact h5
theorem Run.notF {w0 w : World} {b N : Nat} {F : Nat → Prop} {S : St} (h : Run w0 w b N F S) {a : Option Addr} {n c : Nat} {d : List UInt8} (hv : Sl w0 (.slice a n c) d) : c ≠ 0 → ∀ ad, a = some ad → ¬ F ad.block :=
  fun hd ad ha hf => by have := hv.old hd ad ha; have := h.foot _ hf; omega
theorem Run.newF {w0 w : World} {b N : Nat} {F : Nat → Prop} {S : St} (h : Run w0 w b N F S) (c o : Nat) : c ≠ 0 → ∀ ad, some (⟨w.heap.size, o, none⟩ : Addr) = some ad → ¬ F ad.block :=
  fun _ ad ha hf => by cases ha; exact absurd (h.foot _ hf).2 (Nat.lt_irrefl _)
theorem Run.sl {w0 w : World} {b N : Nat} {F : Nat → Prop} {S : St} (h : Run w0 w b N F S) {v : Value} {d : List UInt8} (hv : Sl w0 v d) : Sl w v d := hv.below h.bel (Nat.le_refl _)

theorem New_run (w0 w : World) (hb : Below w0.heap.size w0 w) :
    Calls Try.prog 10 #[.int .i64 64] w fun e w' => e = .returned (.tuple #[.pointer (some ⟨w.heap.size + 2, 0, none⟩), .int .i64 0]) ∧ Run w0 w' (w.heap.size + 2) 0 (fun k => w.heap.size ≤ k ∧ k < w'.heap.size) (St.new 64) ∧ Below w.heap.size w w' := by
  refine (New_dev 64 w (by omega) (by omega)).mono ?_
  rintro e w' ⟨rfl, d1, b1⟩
  have := hb.size
  exact ⟨rfl, ⟨d1, fun j hj => ⟨by have := hj.1; omega, hj.2⟩, hb.trans (b1.mono hb.size)⟩, b1⟩

theorem Format_up {w0 w : World} {b N : Nat} {F : Nat → Prop} {S : St} (h : Run w0 w b N F S) (hU : Up S) (k : Nat) (hk : k + 1 < 64) (hN : N < 800000) (a : Option Addr) (c : Nat) (d : List UInt8) (hv : Sl w (.slice a d.length c) d) (hva : c ≠ 0 → ∀ ad, a = some ad → ¬ F ad.block) (hl : d.length ≤ 400) :
    Calls Try.prog 11 #[.pointer (some ⟨b, 0, none⟩), .int .i64 k, .slice a d.length c] w fun e w' => e = .returned (.int .i64 0) ∧ ∃ F' T, Run w0 w' b (N + 6) F' T ∧ Put S T k 0 d ∧ Up T ∧ (∀ j, F' j → F j ∨ w.heap.size ≤ j) ∧ Kept F w w' := by
  obtain ⟨T, hT, hP⟩ := fmt_up hU k hk d hl
  refine (Format_dev h.dev h.foot h.bel.size k (by rw [hU.len]; exact hk) hN a d.length c d hv hva hl rfl).mono ?_
  rintro e w' ⟨rfl, ⟨F', f1, f2, f3⟩, k1⟩
  rw [hT] at f3 ⊢
  exact ⟨rfl, F', T, h.of f3 f1 k1, hP, hP.isUp hU, f2, k1⟩

theorem Store_up {w0 w : World} {b N : Nat} {F : Nat → Prop} {S : St} (h : Run w0 w b N F S) (hU : Up S) (k : Nat) (hk : k + 1 < 64) (hN : N < 800000) (a : Option Addr) (c : Nat) (d : List UInt8) (hv : Sl w (.slice a d.length c) d) (hva : c ≠ 0 → ∀ ad, a = some ad → ¬ F ad.block) (hl : d.length ≤ 400)
    (hla : (S.rcd k).laid = true) (hc : (S.rcd k).count < 9223372036854775807) :
    Calls Try.prog 17 #[.pointer (some ⟨b, 0, none⟩), .int .i64 k, .slice a d.length c] w fun e w' => e = .returned (.int .i64 0) ∧ ∃ F' T, Run w0 w' b (N + 6) F' T ∧ Put S T k ((S.rcd k).count + 1) d ∧ Up T ∧ (∀ j, F' j → F j ∨ w.heap.size ≤ j) ∧ Kept F w w' := by
  obtain ⟨T, hT, hP⟩ := store_up hU k hk d hl hla hc
  refine (Store_dev h.dev h.foot h.bel.size k (by rw [hU.len]; exact hk) hN a d.length c d hv hva hl rfl hc).mono ?_
  rintro e w' ⟨rfl, ⟨F', f1, f2, f3⟩, k1⟩
  rw [hT] at f3 ⊢
  exact ⟨rfl, F', T, h.of f3 f1 k1, hP, hP.isUp hU, f2, k1⟩

/-- Store where no record lies. -/
theorem Store_no {w0 w : World} {b N : Nat} {F : Nat → Prop} {S : St} (h : Run w0 w b N F S) (hU : Up S) (k : Nat) (hk : k + 1 < 64) (hN : N < 800000) (a : Option Addr) (c : Nat) (d : List UInt8) (hv : Sl w (.slice a d.length c) d) (hva : c ≠ 0 → ∀ ad, a = some ad → ¬ F ad.block) (hl : d.length ≤ 400)
    (hla : (S.rcd k).laid = false) (hc : (S.rcd k).count < 9223372036854775807) :
    Calls Try.prog 17 #[.pointer (some ⟨b, 0, none⟩), .int .i64 k, .slice a d.length c] w fun e w' => e = .returned (.int .i64 30) ∧ ∃ F', Run w0 w' b (N + 6) F' S.burn.burn ∧ (∀ j, F' j → F j ∨ w.heap.size ≤ j) ∧ Kept F w w' := by
  have hT : S.store k d = (30, S.burn.burn) := by unfold St.store; rw [if_pos hU.reads, if_neg (by rw [hla]; decide)]
  refine (Store_dev h.dev h.foot h.bel.size k (by rw [hU.len]; exact hk) hN a d.length c d hv hva hl rfl hc).mono ?_
  rintro e w' ⟨rfl, ⟨F', f1, f2, f3⟩, k1⟩
  rw [hT] at f3 ⊢
  exact ⟨rfl, F', h.of f3 f1 k1, f2, k1⟩

theorem Load_up {w0 w : World} {b N : Nat} {F : Nat → Prop} {S : St} (h : Run w0 w b N F S) (hU : Up S) (k : Nat) (hk : k + 1 < 64) (hN : N < 800000) (hla : (S.rcd k).laid = true) :
    Calls Try.prog 12 #[.pointer (some ⟨b, 0, none⟩), .int .i64 k] w fun e w' => ∃ a n c, e = .returned (.tuple #[.slice a n c, .int .i64 (S.rcd k).count, .int .i64 0]) ∧ Sl w' (.slice a n c) (S.rcd k).data ∧ (∀ ad, a = some ad → w.heap.size ≤ ad.block) ∧ Run w0 w' b (N + 2) F S.burn.burn ∧ Kept F w w' := by
  refine (Load_laid h.dev (fun j hj => (h.foot j hj).2) k (by rw [hU.len]; exact hk) hN hU.reads hla).mono ?_
  rintro e w' ⟨a, n, c, rfl, h1, h2, h3, h4⟩
  exact ⟨a, n, c, rfl, h1, h2, h.of h3 (fun j hj => by have := h.foot j hj; have := h4.size; omega) h4, h4⟩
theorem Load_no {w0 w : World} {b N : Nat} {F : Nat → Prop} {S : St} (h : Run w0 w b N F S) (hU : Up S) (k : Nat) (hk : k + 1 < 64) (hN : N < 800000) (hla : (S.rcd k).laid = false) :
    Calls Try.prog 12 #[.pointer (some ⟨b, 0, none⟩), .int .i64 k] w fun e w' => e = .returned (.tuple #[.slice none 0 0, .int .i64 0, .int .i64 30]) ∧ Run w0 w' b (N + 2) F S.burn.burn ∧ Kept F w w' := by
  refine (Load_none h.dev (fun j hj => (h.foot j hj).2) k (by rw [hU.len]; exact hk) hN hU.reads hla).mono ?_
  rintro e w' ⟨rfl, h3, h4⟩
  exact ⟨rfl, h.of h3 (fun j hj => by have := h.foot j hj; have := h4.size; omega) h4, h4⟩

theorem new_rcd (k : Nat) (hk : k + 1 < 64) : (St.new 64).rcd k = noSlot := by
  have h : ∀ j, j < 64 → (St.new 64).newest j = List.replicate 512 0 := fun j hj => by
    show ((List.replicate 64 (List.replicate 512 (0 : UInt8)))[j]?).getD [] = _
    rw [List.getElem?_replicate, if_pos hj]; rfl
  unfold St.rcd
  rw [h k (by omega), h (k + 1) hk, unl_noughts]
  rfl
theorem St.rcd_burn (S : St) (k : Nat) : S.burn.rcd k = S.rcd k := rfl
end Go.Proofs.Ytbgaomfoiooegaa
