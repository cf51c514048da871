/-
  DERIVED. A record on a device with a fuse, and behind a crash.
-/
import Derived.Test.YtbgaomfoiooegaaSopen
namespace Go.Proofs.Ytbgaomfoiooegaa
open Go.RowKit
set_option linter.unusedVariables false

theorem Ints.belowS {B : Nat} {w w' : World} {v : Value} {l : List Int} (h : Ints w v l) (hb : Below B w w') (hB : w.heap.size ≤ B) : Ints w' v l := by
  obtain ⟨ao, cap, e, h1, h2, h3⟩ := h
  refine ⟨ao, cap, e, h1, h2, fun hl => ?_⟩
  obtain ⟨pb, off, e2, h4, h5⟩ := h3 hl
  exact ⟨pb, off, e2, Nat.lt_of_lt_of_le h4 hb.size, fun i hi => (hb.cell (p := ⟨pb, off + i, none⟩) (by show pb < B; omega)).trans (h5 i hi)⟩
theorem Ints.oldS {w : World} {v : Value} {l : List Int} (h : Ints w v l) (hl : l ≠ []) : ∀ pb, v.ownBlock = some pb → pb < w.heap.size := by
  obtain ⟨ao, cap, rfl, h1, h2, h3⟩ := h
  obtain ⟨pb, off, rfl, h4, h5⟩ := h3 hl
  intro q hq
  cases hq
  exact h4

theorem Crash_run {w0 w : World} {b N : Nat} {F : Nat → Prop} {S : St} (h : Run w0 w b N F S) (hN : N < 800000) (ps : List Int) (v : Value) (hv : Ints w0 v ps) :
    Calls Try.prog 16 #[.pointer (some ⟨b, 0, none⟩), v] w fun e w' => e = .returned (.tuple #[]) ∧ Run w0 w' b N F (S.crash ps) ∧ Kept F w w' := by
  refine (Crash_dev h.dev (by omega) ps v (hv.belowS h.bel (Nat.le_refl _)) (fun hne pb hpb hf => by have := hv.oldS hne pb hpb; have := (h.foot pb hf).1; omega)).mono ?_
  rintro e w' ⟨rfl, d', k'⟩
  exact ⟨rfl, h.of d' (fun j hj => by have := h.foot j hj; have := k'.size; omega) k', k'⟩
theorem ints_nil (w : World) : Ints w (.slice none 0 0) [] := ⟨none, 0, rfl, by simp, by simp, fun h => absurd rfl h⟩
theorem Down_run {w0 w : World} {b N : Nat} {F : Nat → Prop} {S : St} (h : Run w0 w b N F S) :
    Calls Try.prog 19 #[.pointer (some ⟨b, 0, none⟩)] w fun e w' => e = .returned (.bool S.down) ∧ w = w' := by
  obtain ⟨g, c, m, vf, D, h0⟩ := h.dev
  exact Down_dev h0.dev
theorem Fuse_run {w0 w : World} {b N : Nat} {F : Nat → Prop} {S : St} (h : Run w0 w b N F S) (k : Int) (k1 : -9223372036854775808 ≤ k) (k2 : k < 9223372036854775808) :
    Calls Try.prog 15 #[.pointer (some ⟨b, 0, none⟩), .int .i64 k] w fun e w' => e = .returned (.int .i64 (if S.down then 2 else 0)) ∧ Run w0 w' b N F (S.fuseK k) ∧ Kept F w w' := by
  refine (Fuse_devS h.dev k k1 k2).mono ?_
  rintro e w' ⟨rfl, d', k'⟩
  exact ⟨rfl, h.of d' (fun j hj => by have := h.foot j hj; have := k'.size; omega) k', k'⟩
theorem Store_run {w0 w : World} {b N : Nat} {F : Nat → Prop} {S : St} (h : Run w0 w b N F S) (hlen : S.safe.length = 64) (k : Nat) (hk : k + 1 < 64) (hN : N < 800000) (a : Option Addr) (c : Nat) (d : List UInt8) (hv : Sl w (.slice a d.length c) d) (hva : c ≠ 0 → ∀ ad, a = some ad → ¬ F ad.block) (hl : d.length ≤ 400) (hc : (S.rcd k).count < 9223372036854775807) :
    Calls Try.prog 17 #[.pointer (some ⟨b, 0, none⟩), .int .i64 k, .slice a d.length c] w fun e w' => e = .returned (.int .i64 (S.store k d).1) ∧ ∃ F', Run w0 w' b (N + 6) F' (S.store k d).2 ∧ (∀ j, F' j → F j ∨ w.heap.size ≤ j) ∧ Kept F w w' := by
  refine (Store_dev h.dev h.foot h.bel.size k (by rw [hlen]; exact hk) hN a d.length c d hv hva hl rfl hc).mono ?_
  rintro e w' ⟨rfl, ⟨F', f1, f2, f3⟩, k1⟩
  exact ⟨rfl, F', h.of f3 f1 k1, f2, k1⟩

theorem St.fuseK_newest (S : St) (k : Int) (n : Nat) : (S.fuseK k).newest n = S.newest n := by unfold St.fuseK; split <;> rfl
theorem St.fuseK_rcd (S : St) (k : Int) (n : Nat) : (S.fuseK k).rcd n = S.rcd n := St.rcd_of (S.fuseK_newest k n) (S.fuseK_newest k (n + 1))
theorem St.fuseK_len (S : St) (k : Int) : (S.fuseK k).safe.length = S.safe.length := by unfold St.fuseK; split <;> rfl
theorem St.fuseK_down (S : St) (k : Int) : (S.fuseK k).down = S.down := by
  unfold St.fuseK
  split
  · rfl
  · rfl
theorem St.fuseK_pend (S : St) (k : Int) : (S.fuseK k).pend = S.pend := by unfold St.fuseK; split <;> rfl

/-- Where nothing is pending at its place a crash leaves a record. -/
theorem crash_rcd {S : St} {k : Nat} (h : S.calm k) (hk : k + 1 < S.safe.length) (ps : List Int) : (S.crash ps).rcd k = S.rcd k :=
  St.rcd_of (crash_calm S ps k (by omega) h.1) (crash_calm S ps (k + 1) hk h.2)

/-- A store that goes well, or the device is down behind it, and a crash then keeps the old record or the new one. -/
theorem store_cases {S : St} (hlen : S.safe.length = 64) (k : Nat) (hk : k + 1 < 64) (hd : S.down = false) (hcalm : S.calm k) (hla : (S.rcd k).laid = true) (hc : (S.rcd k).count < 9223372036854775807) (d : List UInt8) (hl : d.length ≤ 400) :
    ((S.store k d).1 = 0 ∧ Put S (S.store k d).2 k ((S.rcd k).count + 1) d) ∨
    ((S.store k d).1 = 2 ∧ (S.store k d).2.down = true ∧ (S.store k d).2.safe.length = 64 ∧ ∀ ps, ((S.store k d).2.crash ps).rcd k = S.rcd k ∨ ((S.store k d).2.crash ps).rcd k = ⟨true, ((S.rcd k).turn + 1) % 4294967296, (S.rcd k).count + 1, d⟩) := by
  have hc0 := (S.rcd_is k).2.1
  by_cases hr : S.reads
  · have hX : S.burn.burn.down = false := by rw [St.well_up hr.2.2, St.well_up hr.2.1]; exact hd
    have hs : S.store k d = S.burn.burn.putF (S.elder k) (S.nextB k ((S.rcd k).count + 1) d) := by unfold St.store; rw [if_pos hr, if_pos hla]
    by_cases h1 : S.burn.burn.well
    · by_cases h2 : (S.burn.burn.burn.wrote (S.elder k) (S.nextB k ((S.rcd k).count + 1) d)).well
      · left
        have := putF_good (S := S) (k := k) (by rw [hlen]; exact hk) (by rw [hlen]; decide) hd _ rfl hX (cnt := (S.rcd k).count + 1) (d := d) (by omega) (by omega) hl h1 h2
        rw [hs, this.1]
        exact ⟨rfl, this.2⟩
      · right
        have e : S.store k d = (2, (S.burn.burn.burn.wrote (S.elder k) (S.nextB k ((S.rcd k).count + 1) d)).burn) := by rw [hs]; unfold St.putF; rw [if_pos h1, if_neg h2]
        rw [e]
        exact ⟨rfl, St.unwell h2, hlen, fun ps => putF_stop (by rw [hlen]; exact hk) (by rw [hlen]; decide) hcalm (by omega) (by omega) hl _ (.inr rfl) ps⟩
    · right
      have e : S.store k d = (2, S.burn.burn.burn) := by rw [hs]; unfold St.putF; rw [if_neg h1]
      rw [e]
      exact ⟨rfl, St.unwell h1, hlen, fun ps => putF_stop (cnt := (S.rcd k).count + 1) (d := d) (by rw [hlen]; exact hk) (by rw [hlen]; decide) hcalm (by omega) (by omega) hl _ (.inl rfl) ps⟩
  · right
    have e : S.store k d = (2, S.halted) := by unfold St.store; rw [if_neg hr]
    rw [e]
    refine ⟨rfl, St.halted_down hr, by show S.halted.safe.length = 64; rw [St.halted_safe]; exact hlen, fun ps => .inl ?_⟩
    have hp := S.halted_pend
    have hn : ∀ n, S.halted.newest n = S.newest n := fun n => by unfold St.newest; rw [hp, S.halted_safe]
    exact (crash_rcd (S := S.halted) ⟨by rw [hp]; exact hcalm.1, by rw [hp]; exact hcalm.2⟩ (by rw [S.halted_safe, hlen]; exact hk) ps).trans (St.rcd_of (hn k) (hn (k + 1)))
end Go.Proofs.Ytbgaomfoiooegaa
