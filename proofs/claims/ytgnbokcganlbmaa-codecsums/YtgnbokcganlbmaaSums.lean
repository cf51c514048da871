/-
  CodecSums: for every slice of bytes and every int it returns true, and its arguments read as before. Conditions: none beyond the form's own (each slice takes at most 2^47 - 4096 bytes).
-/
import Derived.Test.YtgnbokcganlbmaaRows
import Derived.Test.YtgnbokcganlbmaaRefSum
import Derived.Test.YtgnbokcganlbmaaOpen
import Derived.OpenShut
namespace Go.Proofs.Ytgnbokcganlbmaa
open Go.ChangeShapes Go.WideShapes Go.ChangeAt Go.RowKit

set_option maxHeartbeats 2000000 in
set_option maxRecDepth 100000 in
theorem Sums.walk (v : Value) (l : List UInt8) (bit : Int) (w : World) (hv : Sl w v l) (hl : l.length ≤ 140737488351232) (hb0 : -9223372036854775808 ≤ bit) (hb1 : bit ≤ 9223372036854775807) :
    Calls Try.prog 5 #[v, .int .i64 bit] w fun e w' => e = .returned (.bool true) ∧ Below w.heap.size w w' := by
  obtain ⟨ao, cp, rfl, h1, h2, h4⟩ := id hv
  unfold maxLen at h2
  have HV := hide hv
  clear h4 hv
  go_enter Try.func5, Try.ntmps5
  go_wp2_with (first | (go_at_call 9; refine (awake_any _).mono ?_; rintro e w1 ⟨rfl, b1⟩; have HB1 := hide b1; have s1 := b1.size; clear b1) | (go_at_call 10; refine (lent_any _ l _ ((unhide HV).below (unhide HB1) (Nat.le_refl _)) (by omega)).mono ?_; rintro e w2 ⟨g, cap, rfl, hL, b2⟩; have HL := hide hL; have HB2 := hide b2; have s2 := b2.size; clear hL b2) | (go_at_call 32; refine (Sum_any _ l _ (unhide HL).sl).mono ?_; rintro e w3 ⟨rfl, b3⟩; have HB3 := hide b3; have s3 := b3.size; clear b3))
  have HW2 := hide ((unhide HB1).trans ((unhide HB2).mono s1))
  have HW3 := hide ((unhide HW2).trans ((unhide HB3).mono (by omega)))
  have HL3 := hide ((unhide HL).below (unhide HB3) (Nat.le_refl _))
  have HV3 := hide ((unhide HV).below (unhide HW3) (Nat.le_refl _))
  refine (held_any _ _ _ l _ (unhide HL3) (unhide HV3)).mono ?_
  rintro e w4 ⟨rfl, rfl⟩
  by_cases hz : l = []
  · subst hz
    go_wp2_with (go_at_call 34; refine (rSum_any _ [] _ (unhide HV3)).mono ?_; rintro e w5 ⟨rfl, rfl⟩)
    go_ret
    exact ⟨rfl, unhide HW3⟩
  · have hp : 0 < l.length := List.length_pos_iff.2 hz
    clear hz
    go_wp2_with fail
    refine (Pick_any _ _ _ hb0 hb1 (by omega) (by omega)).mono ?_
    rintro e w5 ⟨k, rfl, hk, rfl⟩
    have hi : k / 8 < l.length := by omega
    obtain ⟨q1, q2, q3, q4, q5, q6⟩ := (unhide HL3).at
    have hcell := q5 (k / 8) hi
    have hfz := q6 (k / 8)
    obtain ⟨c, hce⟩ : ∃ c, c = l[k / 8] := ⟨_, rfl⟩
    rw [← hce] at hcell
    have hfl := flip_bits c k
    have hne := flipB_ne c (Nat.mod_lt k (by decide) : k % 8 < 8)
    obtain ⟨c', hc'⟩ : ∃ c', c' = flipB c (k % 8) := ⟨_, rfl⟩
    rw [← hc'] at hfl hne
    have HL5 := hide ((unhide HL3).set (k / 8) hi c')
    have HNE := hide (crc_set l (k / 8) hi c' (by rw [← hce]; exact hne))
    have HW5 := hide (((unhide HW3).setCell (p := ⟨g, k / 8, none⟩) (by show w.heap.size ≤ g; omega) (bv c')).drew)
    clear q5 q6 hce hc' hne
    go_wp2_with fail
    go_region
    obtain ⟨w5, hw5⟩ : ∃ w5, w5 = (w3.setCell ⟨g, k / 8, none⟩ (bv c')).drew := ⟨_, rfl⟩
    rw [← hw5]
    have HL6 : Hid (Lent w5 w1.heap.size (.slice (some ⟨g, 0, none⟩) l.length cap) (l.set (k / 8) c')) := hide (by rw [hw5]; exact (unhide HL5))
    have HW6 : Hid (Below w.heap.size w w5) := hide (by rw [hw5]; exact (unhide HW5))
    have s5 := (unhide HW6).size
    clear hw5 hcell hfz hfl
    go_wp2_with fail
    refine (Sum_any _ (l.set (k / 8) c') _ (unhide HL6).sl).mono ?_
    rintro e w6 ⟨rfl, b6⟩
    have hcr : ((crc (l.set (k / 8) c') : Int) == (crc l : Int)) = false := beq_eq_false_iff_ne.2 (by have := unhide HNE; omega)
    have HW7 := hide ((unhide HW6).trans (b6.mono s5))
    have HV7 := hide ((unhide HV).below (unhide HW7) (Nat.le_refl _))
    clear b6
    go_wp2_with (go_at_call 34; refine (rSum_any _ l _ (unhide HV7)).mono ?_; rintro e w8 ⟨rfl, rfl⟩)
    go_ret
    exact ⟨rfl, unhide HW7⟩

set_option maxRecDepth 100000 in
theorem Sums.lifted (os : Os) (started : os.Started) (H : Type) (enc : TypeId × Value → H) :
    ReturnsInHanded {} Try.checked os 5 .any (Rows.codecSumsSpec.pre6 enc Try.prog Try.f5 Rows.codecSumsRow.domain false) (Rows.codecSumsSpec.post enc Try.prog Try.f5 false true false false) := by
  refine returnsInHanded_of_change_sized (C := Try.checked) own_knob started (by kernel_rfl) Try.func5
    (ChangeSpec.witness6 (enc := enc) (C := Try.checked) false ⟨#[], #[.slice none 0 0, .int .i64 0], []⟩ 8 (by kernel_rfl) (by kernel_rfl) (by kernel_rfl) (by kernel_rfl)) ?_
  intro W base args ds gs before hval0 hW hcnd hsz0 hholds
  have hval : ∀ (j : Nat) t v, Try.f5.params[j]? = some t → args[j]? = some v → Value.okWide Try.prog W .any base t v := hval0
  have hsz : (DataW.weightsEach Try.prog (Try.f5.params.toList ++ Rows.codecSumsSpec.plain.varTypes Try.prog) (ds ++ gs)).all (· ≤ reachBytes) = true := hsz0
  have hW' := hW
  obtain ⟨p, q, hA0, hV, rfl, hfz, hnd⟩ := hW
  have hA : DataW.TrodAll enc Try.prog W 0 (fun _ => true) true Try.f5.params.toList args.toList ds p := hA0
  rw [Try.params5] at hA hval hsz
  obtain ⟨v0, v1, d0, d1, p0, p1, rfl, rfl, rfl, h0, h1⟩ := trodAll_two hA
  obtain ⟨rfl, rfl⟩ := trodVars_none hV
  obtain ⟨a0, len0, cap0, rfl⟩ := okWide_slice Try.underlying22 (hval 0 22 v0 rfl rfl)
  have k0 := h0
  have lt0 : ∀ x ∈ p0, x.block < W.heap.size := by obtain ⟨m, hm⟩ := k0; exact DataW.trod_lt m _ _ _ hm
  obtain ⟨l, hl, hd⟩ := open_bytes h0
  have hlen : l.length ≤ 140737488351232 := by
    rcases hd with ⟨_, rfl⟩ | ⟨es, sp, rfl, h⟩
    · simp
    · have := sized_slice hsz (j := 0) (t := 22) (e := 5) rfl rfl Try.underlying22
      rw [Try.bytes5] at this
      simp only [reachBytes] at this
      omega
  obtain ⟨x, rfl, rfl, rfl, wx⟩ := open_int Try.underlying3 (hval 1 3 v1 rfl rfl) h1
  have bx := bounds_i64 wx
  clear hA0 hval0 hsz0
  refine (Sums.walk _ l x W hl hlen (by omega) (by omega)).mono fun e W' ⟨he, bel⟩ => ?_
  subst he
  exact ⟨_, rfl, _, _, _, [], _, [], hW', trodAll_mk1 (shut_bool Try.underlying4 _), (trodAll_cons_mk (Below.trod laid_out (by kernel_rfl) (of_decide_eq_true (by kernel_rfl)) k0 bel lt0) (trodAll_cons_mk (shut_int Try.underlying3 wx) trodAll_mk0)), rfl, bel.frame _, fun h => by cases h⟩

theorem codecSums_holds : Rows.CodecSumsSaid :=
  OpenClaim.holds_of_wide 5 Try.f5 rfl rfl rfl rfl rfl rfl rfl ⟨rfl, rfl, rfl, rfl, rfl⟩ rfl rfl rfl rfl rfl (by kernel_rfl) Try.func5 (by kernel_rfl)
    (of_decide_eq_true (by kernel_rfl)) (by unfold Func.isWrapper; first | (rw [if_pos (by decide +kernel)]; kernel_rfl) | (rw [if_neg (by decide +kernel)]; exact ⟨rfl, rfl⟩))
    (fun os started H enc _ => Sums.lifted os started H enc)
#print axioms codecSums_holds
end Go.Proofs.Ytgnbokcganlbmaa
