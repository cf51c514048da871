/-
  DERIVED. Words for the laws: how what came in is opened.
-/
import Derived.Test.YtmhlfbgchhmffaaRows
import Derived.Test.YtmhlfbgchhmffaaCbase
import Derived.OpenShut
import Derived.ShutString
import Derived.SizedLaws
import Derived.Deep.Slices
import Derived.Deep.Lists
namespace Go.Proofs.Ytmhlfbgchhmffaa
open Go.ChangeShapes Go.WideShapes Go.ChangeAt Go.RowKit
set_option linter.unusedVariables false

theorem own_knob : ownKnob Try.prog.godebug = none := by kernel_rfl
theorem laid_out : laidOutB Try.prog = true := by kernel_rfl
theorem Try.cellsInt : Try.prog.cellsOf 3 = 1 := by kernel_rfl
abbrev I64 (x : Int) : Prop := -9223372036854775808 ≤ x ∧ x ≤ 9223372036854775807
/-- A slice of numbers. -/
def Ints (w : World) (v : Value) (l : List Int) : Prop :=
  ∃ ao cap, v = .slice ao l.length cap ∧ l.length ≤ 9223372036854775807 ∧ (∀ x ∈ l, I64 x) ∧ (l ≠ [] → ∃ pb off, ao = some ⟨pb, off, none⟩ ∧ pb < w.heap.size ∧ ∀ i, (h : i < l.length) → w.cell? ⟨pb, off + i, none⟩ = some (.int .i64 l[i]))
theorem open_intl {H : Type} {enc : TypeId × Value → H} {W : World} {a : Option Addr} {n c : Nat} {d : DataW H} {p : List MemPlace}
    (h : DataW.Trod enc Try.prog W 0 (fun _ => true) true 48 (.slice a n c) d p) : ∃ l : List Int, Ints W (.slice a n c) l := by
  obtain ⟨fuel, hf⟩ := h
  rcases open_ints Try.underlying48 Try.underlying3 Try.cellsInt hf with ⟨hcs, hx⟩ | ⟨x, l, cp, zs, hcs, _, hl, hm, hz, hx, hcell, hwz⟩
  · simp [Value.cells] at hcs
    obtain ⟨rfl, rfl, rfl⟩ := hcs
    exact ⟨[], none, 0, rfl, by simp, by simp, fun h => absurd rfl h⟩
  · simp [Value.cells] at hcs
    obtain ⟨rfl, rfl, rfl⟩ := hcs
    rw [if_pos rfl] at hz
    unfold maxLen at hm
    have hlen : (zs.take n).length = n := by simp; omega
    refine ⟨zs.take n, some x, c, by rw [hlen], by rw [hlen]; omega, fun y hy => ?_, fun hne => ?_⟩
    · have := bounds_i64 (hwz y (List.mem_of_mem_take hy)); exact ⟨by omega, by omega⟩
    · have hn0 : 0 < n := by rw [← hlen]; exact List.length_pos_iff.2 hne
      have h0 := hcell 0 (by omega)
      have hsp := World.cell?_spot h0
      obtain ⟨b, off, sp⟩ := x
      have hsp' : sp = none := by
        cases sp with
        | none => rfl
        | some k => simp [Addr.add] at hsp
      subst hsp'
      refine ⟨b, off, rfl, ?_, fun i hi => ?_⟩
      · rw [addr_add] at h0
        exact World.block_lt_of_cell? W ⟨b, off + 0, none⟩ h0
      · have hi' : i < n := by rw [hlen] at hi; exact hi
        have := hcell i (by omega)
        rw [addr_add] at this
        rw [this]
        simp [List.getD_eq_getElem?_getD, List.getElem?_eq_getElem (show i < zs.length by omega)]

theorem Ints.below {w w' : World} {v : Value} {l : List Int} (h : Ints w v l) (hg : Below w.heap.size w w') : Ints w' v l := by
  obtain ⟨ao, cap, rfl, h1, h2, h3⟩ := h
  refine ⟨ao, cap, rfl, h1, h2, fun hne => ?_⟩
  obtain ⟨pb, off, e, hp, hc⟩ := h3 hne
  exact ⟨pb, off, e, by have := hg.size; omega, fun i hi => (hg.cell (p := ⟨pb, off + i, none⟩) hp).trans (hc i hi)⟩
theorem Ints.at {w : World} {ao : Option Addr} {n cap : Nat} {l : List Int} (h : Ints w (.slice ao n cap) l) {i : Nat} (hi : i < l.length) : ∃ b off, ao = some ⟨b, off, none⟩ ∧ w.cell? ⟨b, off + i, none⟩ = some (.int .i64 l[i]) ∧ I64 l[i] := by
  obtain ⟨ao', cap', e, _, h3, h4⟩ := h
  cases e
  obtain ⟨b, off, e2, _, h5⟩ := h4 (by rintro rfl; simp at hi)
  exact ⟨b, off, e2, h5 i hi, h3 _ (List.getElem_mem hi)⟩
theorem Pick_any (c n : Int) (w : World) (h0 : -9223372036854775808 ≤ c) (h1 : c ≤ 9223372036854775807) (hn : 0 < n) (hn2 : n ≤ 9223372036854775807) :
    Calls Try.prog 12 #[.int .i64 c, .int .i64 n] w fun e w' => ∃ k : Nat, e = .returned (.int .i64 k) ∧ (k : Int) < n ∧ w' = w := by
  by_cases hc : c < 0
  · go_enter Try.func12, Try.ntmps12
    go_wp2
    go_ret
    have h2 := Int.emod_nonneg (-(c + 1)) (show n ≠ 0 by omega)
    have h3 := Int.emod_lt_of_pos (-(c + 1)) hn
    have e : -(c + 1).tmod n = -(c + 1) % n := by rw [← Int.neg_tmod, Int.tmod_eq_emod_of_nonneg (by omega)]
    exact ⟨(-(c + 1) % n).toNat, by rw [Int.toNat_of_nonneg h2, ← e]; rfl, by omega, rfl⟩
  · go_enter Try.func12, Try.ntmps12
    go_wp2
    go_ret
    have h2 := Int.emod_nonneg c (show n ≠ 0 by omega)
    have h3 := Int.emod_lt_of_pos c hn
    exact ⟨(c % n).toNat, by rw [Int.toNat_of_nonneg h2]; rfl, by omega, rfl⟩
end Go.Proofs.Ytmhlfbgchhmffaa
