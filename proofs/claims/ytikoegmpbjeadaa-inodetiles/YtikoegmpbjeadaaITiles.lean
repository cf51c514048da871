/-
  InodeTiles: for every slice of ints and every int it returns true, and its arguments read as before. Conditions: none.
-/
import Derived.Test.YtikoegmpbjeadaaIgrown
namespace Go.Proofs.Ytikoegmpbjeadaa
open Go.ChangeShapes Go.WideShapes Go.ChangeAt Go.RowKit
set_option linter.unusedVariables false

set_option maxRecDepth 100000 in
set_option maxHeartbeats 4000000 in
theorem Tiles.walk (vs : Value) (sz : List Int) (gap : Int) (w : World) (hs : Ints w vs sz) (hgap : I64 gap) :
    Calls Try.prog 8 #[vs, .int .i64 gap] w fun e w' => e = .returned (.bool true) ∧ Below w.heap.size w w' := by
  have HI := hide hs
  clear hs
  go_enter Try.func8, Try.ntmps8
  go_wp2_with fail
  refine (awake_ok _).mono ?_
  rintro e w1 ⟨rfl, g1⟩
  have G1 := hide g1
  clear g1
  go_wp2_with fail
  refine (grown_any w1 vs sz gap ((unhide HI).kept (unhide G1)) hgap).mono ?_
  rintro e w2 ⟨b, n, vn, vl, L, rfl, hb, m2, l2, hn, g2⟩
  have M2 := hide m2
  have L2 := hide l2
  have G2 : Hid (w.grownBy w2 none) := hide ((unhide G1).trans g2)
  obtain ⟨lo, lcap, rfl, hl1, hl2, hl4⟩ := l2.form
  have HL4 := hide hl4
  have hlen := m2.len
  have hsm := m2.small.1
  have hlw := m2.lw
  obtain ⟨q, hq⟩ : ∃ q, q = L.length := ⟨_, rfl⟩
  rw [← hq] at hl1 hsm hlen ⊢
  have HQ := hide hq
  have hqI : (q : Int) ≤ 64 := by omega
  have hnI : (n : Int) ≤ 23980 := by omega
  clear hq m2 l2 g2 hb hl4 G1
  go_wp2
  go_loopw [9] (fun i wr => ∃ k : Nat, i = .int .i64 (k : Int) ∧ k ≤ n ∧ wr = w2) (fun i _ => n - (intOf i).toNat)
  case atStart => exact ⟨0, rfl, by omega, rfl⟩
  case round =>
    obtain ⟨k, rfl, hk, rfl⟩ := hrel
    have hkI : (k : Int) ≤ 23980 := by omega
    by_cases hlt : k < n
    · have hlt' : (k : Int) < (n : Int) := by omega
      go_wp2_with fail
      refine (Size_any _ b n vn L (unhide M2)).mono ?_
      rintro e wx ⟨rfl, rfl⟩
      go_wp2_with fail
      refine (At_ok _ b n vn L (unhide M2) k hlt).mono ?_
      rintro e wx ⟨c, rfl, hc, rfl⟩
      have hkq : k / 512 < q := by rw [hlen]; unfold bf; omega
      have hkL : k / 512 < L.length := by rw [← unhide HQ]; exact hkq
      obtain ⟨g, rfl, _, hcell⟩ := unhide HL4 (by omega)
      have c0 := hcell (k / 512) hkL
      have hcL : c = L[k / 512] := by
        rw [List.getElem?_eq_getElem hkL] at hc
        exact (Option.some.inj hc).symm
      rw [← hcL] at c0
      have c0' : wx.cell? ⟨g, ((k : Int) / 512).toNat, none⟩ = some (.int .i64 (c : Int)) := by
        rw [show ((k : Int) / 512).toNat = k / 512 by omega]
        exact c0
      have hkqI : (k : Int) / 512 < (q : Int) := by omega
      have hk0 : (0 : Int) ≤ (k : Int) / 512 := by omega
      clear hcell hc hcL
      go_wp2
      go_roundw
      case rel => exact ⟨k + 1, rfl, by omega, by first | rfl | trivial⟩
      case measure => simp [intOf]; omega
    · have hkn : k = n := by omega
      subst hkn
      go_wp2_with fail
      refine (Size_any _ b k vn L (unhide M2)).mono ?_
      rintro e wx ⟨rfl, rfl⟩
      go_wp2_with fail
      refine (Size_any _ b k vn L (unhide M2)).mono ?_
      rintro e wx ⟨rfl, rfl⟩
      go_wp2_with fail
      refine (At_far _ b k vn L (unhide M2) (k : Int) (.inr (Int.le_refl _)) (by omega)).mono ?_
      rintro e wx ⟨rfl, rfl⟩
      go_wp2_with fail
      refine (Blocks_any _ b k vn L (unhide M2)).mono ?_
      rintro e wx ⟨rfl, rfl⟩
      rw [← unhide HQ]
      go_wp2
      go_ret
      exact ⟨by simp, below_of_grown (unhide G2)⟩

set_option maxRecDepth 100000 in
theorem Tiles.lifted (os : Os) (started : os.Started) (H : Type) (enc : TypeId × Value → H) :
    ReturnsInHanded {} Try.checked os 8 .any (Rows.inodeTilesSpec.pre6 enc Try.prog Try.f8 Rows.inodeTilesRow.domain false) (Rows.inodeTilesSpec.post enc Try.prog Try.f8 false true false false) := by
  refine returnsInHanded_of_change (C := Try.checked) own_knob started (by kernel_rfl) Try.func8
    (ChangeSpec.witness6 (enc := enc) (C := Try.checked) false ⟨#[], #[.slice none 0 0, .int .i64 0], []⟩ 8 (by kernel_rfl) (by kernel_rfl) (by kernel_rfl) (by kernel_rfl)) ?_
  intro W base args ds gs before hval0 hW hcnd _
  have hval : ∀ (j : Nat) t v, Try.f8.params[j]? = some t → args[j]? = some v → Value.okWide Try.prog W .any base t v := hval0
  have hW' := hW
  obtain ⟨p, q, hA0, hV, rfl, hfz, hnd⟩ := hW
  have hA : DataW.TrodAll enc Try.prog W 0 (fun _ => true) true Try.f8.params.toList args.toList ds p := hA0
  rw [Try.params8] at hA hval
  obtain ⟨v0, v1, d0, d1, p0, p1, rfl, rfl, rfl, h0, h1⟩ := trodAll_two hA
  obtain ⟨rfl, rfl⟩ := trodVars_none hV
  obtain ⟨a1, rfl, rfl, rfl, w1⟩ := open_int Try.underlying3 (hval 1 3 v1 rfl rfl) h1
  have k0 := h0
  have lt0 : ∀ x ∈ p0, x.block < W.heap.size := by obtain ⟨m, hm⟩ := k0; exact DataW.trod_lt m _ _ _ hm
  obtain ⟨a0, len0, cap0, rfl⟩ := okWide_slice Try.underlying28 (hval 0 28 v0 rfl rfl)
  obtain ⟨l0, hl0⟩ := open_intl h0
  have b1 := bounds_i64 w1
  clear hA0 hval0
  refine (Tiles.walk _ l0 a1 W hl0 ⟨by omega, by omega⟩).mono fun e W' ⟨he, bel⟩ => ?_
  subst he
  exact ⟨_, rfl, _, _, _, [], _, [], hW', trodAll_mk1 (shut_bool Try.underlying4 _), (trodAll_cons_mk (Below.trod laid_out (by kernel_rfl) (of_decide_eq_true (by kernel_rfl)) k0 bel lt0) (trodAll_cons_mk (shut_int Try.underlying3 w1) trodAll_mk0)), rfl, bel.frame _, fun h => by cases h⟩

theorem inodeTiles_holds : Rows.InodeTilesSaid :=
  OpenClaim.holds_of_wide 8 Try.f8 rfl rfl rfl rfl rfl rfl rfl ⟨rfl, rfl, rfl, rfl, rfl⟩ rfl rfl rfl rfl rfl (by kernel_rfl) Try.func8 (by kernel_rfl)
    (of_decide_eq_true (by kernel_rfl)) (by unfold Func.isWrapper; first | (rw [if_pos (by decide +kernel)]; kernel_rfl) | (rw [if_neg (by decide +kernel)]; exact ⟨rfl, rfl⟩))
    (fun os started H enc _ => Tiles.lifted os started H enc)
#print axioms inodeTiles_holds
end Go.Proofs.Ytikoegmpbjeadaa
