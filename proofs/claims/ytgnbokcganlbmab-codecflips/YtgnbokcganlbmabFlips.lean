/-
  CodecFlips: for every kind, every slice of bytes and every bit it returns true, and its arguments read as before. Conditions: none beyond the form's own.
-/
import Derived.Test.YtgnbokcganlbmabSame
import Derived.Test.YtgnbokcganlbmabLent
import Derived.Test.YtgnbokcganlbmabMath3
import Derived.Test.YtgnbokcganlbmabOpen
namespace Go.Proofs.Ytgnbokcganlbmab
open Go.ChangeShapes Go.WideShapes Go.ChangeAt Go.RowKit

/-- A frame of which one byte is another one is not read as the frame that it was. -/
theorem fr_flip (kind : UInt8) (d : List UInt8) (i : Nat) (c : UInt8) (hi : i < (frLay kind d).length) (hc : c ≠ (frLay kind d)[i]) (h : frE ((frLay kind d).set i c) = 0) : ¬ [(frKind ((frLay kind d).set i c), frD ((frLay kind d).set i c))] = [(kind, d)] := by
  intro e
  simp only [List.cons.injEq, Prod.mk.injEq, and_true] at e
  obtain ⟨h1, h2, _⟩ := fr_canon h
  rw [e.1, e.2] at h1
  rw [List.length_set] at h2
  have hl : (((frLay kind d).set i c).take (frK ((frLay kind d).set i c))).length = (frLay kind d).length := by rw [h1]
  rw [List.length_take, List.length_set] at hl
  rw [List.take_of_length_le (by rw [List.length_set]; omega)] at h1
  have := congrArg (fun l => l[i]?) h1
  simp only [List.getElem?_set, hi, if_true, List.getElem?_eq_getElem hi, Option.some.injEq] at this
  exact hc this

theorem frLay_len (kind : UInt8) (d : List UInt8) (hd : d.length ≤ 2000) : 6 ≤ (frLay kind d).length ∧ (frLay kind d).length ≤ 2015 := by
  have := lay_len d.length
  simp [frLay, le4, frBody]; omega

theorem PutFrame_at (v : Value) (l : List UInt8) (kind : UInt8) (a : Option Addr) (n c : Nat) (d : List UInt8) (w : World) (hv : Sl w v l) (hd : Sl w (.slice a n c) d) (hl : d.length ≤ 2000) (hll : l.length + 2100 ≤ 140737488355328) :
    Calls Try.prog 19 #[v, .agg #[bv kind, .slice a n c]] w fun e w' => ∃ g c', e = .returned (.tuple #[.slice (some ⟨g, 0, none⟩) (l ++ frLay kind d).length c', .int .i64 0]) ∧ Own w' w.heap.size (.slice (some ⟨g, 0, none⟩) (l ++ frLay kind d).length c') (l ++ frLay kind d) ∧ Below w.heap.size w w' := by
  refine (PutFrame_ok v l kind a n c d w hv hd hl hll).mono ?_
  rintro e w' ⟨v', rfl, h1, h2⟩
  have h1' := h1
  rcases h1.2 with ⟨rfl, hz⟩ | ⟨g, cap, cur, rfl, _⟩
  · have := (frLay_len kind d hl).1
    rw [List.length_append] at hz
    omega
  · exact ⟨_, _, rfl, h1', h2⟩

set_option maxHeartbeats 4000000 in
set_option maxRecDepth 100000 in
theorem Flips.walk (kind : Int) (v : Value) (d : List UInt8) (bit : Int) (w : World) (hv : Sl w v d) (hk0 : -9223372036854775808 ≤ kind) (hk1 : kind ≤ 9223372036854775807) (hb0 : -9223372036854775808 ≤ bit) (hb1 : bit ≤ 9223372036854775807) :
    Calls Try.prog 5 #[.int .i64 kind, v, .int .i64 bit] w fun e w' => e = .returned (.bool true) ∧ Below w.heap.size w w' := by
  obtain ⟨ao, cp, rfl, h1, h2, h4⟩ := id hv
  unfold maxLen at h2
  have HV := hide hv
  clear h4 hv
  go_enter Try.func5, Try.ntmps5
  go_wp2_with (go_at_call 9; refine (awake_any _).mono ?_; rintro e w1 ⟨rfl, b1⟩; have HB1 := hide b1; have s1 := b1.size; clear b1)
  refine (Pick_any kind 256 _ hk0 hk1 (by decide) (by decide)).mono ?_
  rintro e w2 ⟨k, rfl, hk, rfl⟩
  obtain ⟨kd, hkd⟩ : ∃ kd : UInt8, (k : Int) = (kd.toNat : Int) := ⟨UInt8.ofNat k, by simp only [UInt8.toNat_ofNat']; omega⟩
  rw [hkd]
  clear hkd hk
  have hkd8 := kd.toNat_lt
  go_wp2_with fail
  obtain ⟨w2, hw2⟩ : ∃ w2, w2 = w1.alloc (.cells #[bv kd, .slice ao d.length cp] 41) := ⟨_, rfl⟩
  rw [← hw2]
  have b2 : Below w1.heap.size w1 w2 := by rw [hw2]; exact (Below.refl _ _).alloc (Nat.le_refl _) _
  have s2 : w2.heap.size = w1.heap.size + 1 := by rw [hw2]; simp
  have f0 : w2.cell? ⟨w1.heap.size, 0, none⟩ = some (bv kd) := by rw [hw2]; simp
  have f1 : w2.cell? ⟨w1.heap.size, 1, none⟩ = some (.slice ao d.length cp) := by rw [hw2]; simp
  have HW2 := hide ((unhide HB1).trans (b2.mono s1))
  have HV2 := hide ((unhide HV).below (unhide HW2) (Nat.le_refl _))
  clear hw2 b2
  by_cases hd : 2000 < d.length
  · refine (PutFrame_long _ kd ao _ cp d _ (unhide HV2) hd).mono ?_
    rintro e w3 ⟨rfl, b3⟩
    have HW3 := hide ((unhide HW2).trans (b3.mono (by omega)))
    have hdd : decide ((2000 : Int) < (d.length : Int)) = true := decide_eq_true (by omega)
    clear b3
    go_wp2
    go_ret
    exact ⟨rfl, unhide HW3⟩
  · have hd2 : d.length ≤ 2000 := by omega
    have hll := frLay_len kd d hd2
    refine (PutFrame_at _ [] kd ao _ cp d _ (nil_sl _) (unhide HV2) hd2 (by simp)).mono ?_
    rintro e w3 ⟨g, cap, rfl, own3, b3⟩
    simp only [List.nil_append] at own3 ⊢
    have s3 := b3.size
    have f30 := (b3.cell (p := ⟨w1.heap.size, 0, none⟩) (by show w1.heap.size < w2.heap.size; omega)).trans f0
    have f31 := (b3.cell (p := ⟨w1.heap.size, 1, none⟩) (by show w1.heap.size < w2.heap.size; omega)).trans f1
    have HW3 := hide ((unhide HW2).trans (b3.mono (by omega)))
    have HBK := hide hd
    obtain ⟨L, hL⟩ : ∃ L, L = frLay kd d := ⟨_, rfl⟩
    rw [← hL] at own3 hll ⊢
    obtain ⟨z0, a1, a2, a3, a4, a5, a6⟩ := own3.at
    have HO3 := hide own3
    have HL := hide hL
    have HA := hide (And.intro a5 a6)
    clear own3 b3 f0 f1 hd hL a5 a6 z0
    go_wp2_with fail
    refine (Pick_any bit _ _ hb0 hb1 (by omega) (by omega)).mono ?_
    rintro e w4 ⟨k, rfl, hk, rfl⟩
    have hi : k / 8 < L.length := by omega
    have hcell := (unhide HA).1 (k / 8) hi
    rw [Nat.zero_add] at hcell
    have hfz := (unhide HA).2 (k / 8)
    obtain ⟨c, hce⟩ : ∃ c, c = L[k / 8] := ⟨_, rfl⟩
    rw [← hce] at hcell
    have hfl := flip_bits c k
    have hne := flipB_ne c (Nat.mod_lt k (by decide) : k % 8 < 8)
    obtain ⟨c', hc'⟩ : ∃ c', c' = flipB c (k % 8) := ⟨_, rfl⟩
    rw [← hc'] at hfl hne
    have HO5 := hide ((unhide HO3).set (k / 8) c')
    have HNE : Hid (c' ≠ L[k / 8]) := hide (by rw [← hce]; exact hne)
    have HW5 := hide (((unhide HW3).setCell (p := ⟨g, k / 8, none⟩) (by show w.heap.size ≤ g; omega) (bv c')).drew)
    have gne : w1.heap.size ≠ g := by omega
    have f50 : (w3.setCell ⟨g, k / 8, none⟩ (bv c')).drew.cell? ⟨w1.heap.size, 0, none⟩ = some (bv kd) := by
      show (w3.setCell ⟨g, k / 8, none⟩ (bv c')).cell? _ = _
      rw [World.cell?_of_block (Below.heap_setCell _ _ _ _ gne)]; exact f30
    have f51 : (w3.setCell ⟨g, k / 8, none⟩ (bv c')).drew.cell? ⟨w1.heap.size, 1, none⟩ = some (.slice ao d.length cp) := by
      show (w3.setCell ⟨g, k / 8, none⟩ (bv c')).cell? _ = _
      rw [World.cell?_of_block (Below.heap_setCell _ _ _ _ gne)]; exact f31
    clear hce hc' hne f30 f31
    go_wp2_with fail
    go_region
    obtain ⟨w5, hw5⟩ : ∃ w5, w5 = (w3.setCell ⟨g, k / 8, none⟩ (bv c')).drew := ⟨_, rfl⟩
    rw [← hw5] at f50 f51 ⊢
    have HO6 : Hid (Own w5 w2.heap.size (.slice (some ⟨g, 0, none⟩) L.length cap) (L.set (k / 8) c')) := hide (by rw [hw5]; exact (unhide HO5))
    have HW6 : Hid (Below w.heap.size w w5) := hide (by rw [hw5]; exact (unhide HW5))
    have s5 : w3.heap.size ≤ w5.heap.size := by rw [hw5]; show _ ≤ (w3.setCell _ _).heap.size; simp
    clear hw5 hcell hfz hfl gne
    go_wp2_with fail
    have hsl : Sl w5 (.slice (some ⟨g, 0, none⟩) L.length cap) (L.set (k / 8) c') := (unhide HO6).sl
    refine (Frame_any _ (L.set (k / 8) c') _ hsl).mono ?_
    rintro e w6 ⟨a6, n6, c6, rfl, own6, b6⟩
    have s6 := b6.size
    have f60 := (b6.cell (p := ⟨w1.heap.size, 0, none⟩) (by show w1.heap.size < w5.heap.size; omega)).trans f50
    have f61 := (b6.cell (p := ⟨w1.heap.size, 1, none⟩) (by show w1.heap.size < w5.heap.size; omega)).trans f51
    have HW7 := hide ((unhide HW6).trans (b6.mono (by omega)))
    have HV7 := hide ((unhide HV).below (unhide HW7) (Nat.le_refl _))
    have hfacts : (frE (L.set (k / 8) c') ≠ 0 → frK (L.set (k / 8) c') = 0) ∧ (frE (L.set (k / 8) c') = 0 → frK (L.set (k / 8) c') ≤ L.length ∧ decide ([(frKind (L.set (k / 8) c'), frD (L.set (k / 8) c'))] = [(kd, d)]) = false) := by
      constructor
      · intro h; unfold frK; rw [if_neg h]
      · intro h
        have h2 := (fr_canon h).2.1
        rw [List.length_set] at h2
        refine ⟨h2, decide_eq_false ?_⟩
        have hlen : k / 8 < (frLay kd d).length := by rw [← unhide HL]; exact hi
        have hcc : c' ≠ (frLay kd d)[k / 8] := by have := unhide HNE; simpa only [unhide HL] using this
        have := fr_flip kd d (k / 8) c' hlen hcc (by rw [← unhide HL]; exact h)
        rw [← unhide HL] at this
        exact this
    obtain ⟨e, he⟩ : ∃ e, frE (L.set (k / 8) c') = e := ⟨_, rfl⟩
    obtain ⟨m, hm⟩ : ∃ m, frK (L.set (k / 8) c') = m := ⟨_, rfl⟩
    obtain ⟨kd', hkd'⟩ : ∃ m, frKind (L.set (k / 8) c') = m := ⟨_, rfl⟩
    obtain ⟨d', hd'⟩ : ∃ m, frD (L.set (k / 8) c') = m := ⟨_, rfl⟩
    rw [he, hm, hkd', hd'] at hfacts
    rw [hd'] at own6
    rw [he, hm, hkd']
    have HO7 := hide own6
    have HF := hide hfacts
    clear own6 b6 hfacts he hm hkd' hd' hsl f50 f51
    have HX := hide (And.intro (Fl.one (w6.alloc (.cells #[bv kd', .slice a6 n6 c6] 41)) kd' a6 n6 c6 d' (w6.heap.size + 1) (by simp) ((unhide HO7).sl.alloc _)) (Fl.one ((w6.alloc (.cells #[bv kd', .slice a6 n6 c6] 41)).alloc (.cells #[bv kd', .slice a6 n6 c6] 41)) kd ao d.length cp d (w6.heap.size + 2) (by simp) (((unhide HV7).alloc _).alloc _)))
    have s16 : w1.heap.size < w6.heap.size := by omega
    by_cases hE : e = 0
    · subst hE
      obtain ⟨hm, hsame⟩ := (unhide HF).2 rfl
      have hm2 : (m : Int) ≤ (L.length : Int) := by omega
      go_wp2_with fail
      refine (SameFrames_any _ _ [(kd', d')] [(kd, d)] _ ((unhide HX).1.below ((Below.refl _ _).alloc (Nat.le_refl _) _) (Nat.le_refl _)) (unhide HX).2).mono ?_
      rintro e w8 ⟨rfl, b8⟩
      rw [hsame]
      have HW8 := hide (((((unhide HW7).alloc (by omega) _).alloc (by simp; omega) _).alloc (by simp; omega) _).trans (b8 w.heap.size))
      clear b8
      go_wp2
      go_ret
      exact ⟨rfl, unhide HW8⟩
    · obtain rfl := (unhide HF).1 hE
      have hne : ((e : Int) != 0) = true := by rw [bne_iff_ne]; omega
      go_wp2_with fail
      refine (SameFrames_any _ _ [(kd', d')] [(kd, d)] _ ((unhide HX).1.below ((Below.refl _ _).alloc (Nat.le_refl _) _) (Nat.le_refl _)) (unhide HX).2).mono ?_
      rintro e w8 ⟨rfl, b8⟩
      have HW8 := hide (((((unhide HW7).alloc (by omega) _).alloc (by simp; omega) _).alloc (by simp; omega) _).trans (b8 w.heap.size))
      clear b8
      generalize decide ([(kd', d')] = [(kd, d)]) = bb
      go_wp2
      go_ret
      exact ⟨rfl, unhide HW8⟩

set_option maxRecDepth 100000 in
theorem Flips.lifted (os : Os) (started : os.Started) (H : Type) (enc : TypeId × Value → H) :
    ReturnsInHanded {} Try.checked os 5 .any (Rows.codecFlipsSpec.pre6 enc Try.prog Try.f5 Rows.codecFlipsRow.domain false) (Rows.codecFlipsSpec.post enc Try.prog Try.f5 false true false false) := by
  refine returnsInHanded_of_change (C := Try.checked) own_knob started (by kernel_rfl) Try.func5
    (ChangeSpec.witness6 (enc := enc) (C := Try.checked) false ⟨#[], #[.int .i64 0, .slice none 0 0, .int .i64 0], []⟩ 8 (by kernel_rfl) (by kernel_rfl) (by kernel_rfl) (by kernel_rfl)) ?_
  intro W base args ds gs before hval0 hW hcnd _
  have hval : ∀ (j : Nat) t v, Try.f5.params[j]? = some t → args[j]? = some v → Value.okWide Try.prog W .any base t v := hval0
  have hW' := hW
  obtain ⟨p, q, hA0, hV, rfl, hfz, hnd⟩ := hW
  have hA : DataW.TrodAll enc Try.prog W 0 (fun _ => true) true Try.f5.params.toList args.toList ds p := hA0
  rw [Try.params5] at hA hval
  obtain ⟨v0, v1, v2, d0, d1, d2, p0, p1, p2, rfl, rfl, rfl, h0, h1, h2⟩ := trodAll_three hA
  obtain ⟨rfl, rfl⟩ := trodVars_none hV
  obtain ⟨x, rfl, rfl, rfl, wx⟩ := open_int Try.underlying3 (hval 0 3 v0 rfl rfl) h0
  obtain ⟨a0, len0, cap0, rfl⟩ := okWide_slice Try.underlying22 (hval 1 22 v1 rfl rfl)
  have k1 := h1
  have lt1 : ∀ x ∈ p1, x.block < W.heap.size := by obtain ⟨m, hm⟩ := k1; exact DataW.trod_lt m _ _ _ hm
  obtain ⟨l, hl, _⟩ := open_bytes h1
  obtain ⟨y, rfl, rfl, rfl, wy⟩ := open_int Try.underlying3 (hval 2 3 v2 rfl rfl) h2
  have bx := bounds_i64 wx
  have bys := bounds_i64 wy
  clear hA0 hval0
  refine (Flips.walk x _ l y W hl (by omega) (by omega) (by omega) (by omega)).mono fun e W' ⟨he, bel⟩ => ?_
  subst he
  exact ⟨_, rfl, _, _, _, [], _, [], hW', trodAll_mk1 (shut_bool Try.underlying4 _), (trodAll_cons_mk (shut_int Try.underlying3 wx) (trodAll_cons_mk (Below.trod laid_out (by kernel_rfl) (of_decide_eq_true (by kernel_rfl)) k1 bel lt1) (trodAll_cons_mk (shut_int Try.underlying3 wy) trodAll_mk0))), rfl, bel.frame _, fun h => by cases h⟩

theorem codecFlips_holds : Rows.CodecFlipsSaid :=
  OpenClaim.holds_of_wide 5 Try.f5 rfl rfl rfl rfl rfl rfl rfl ⟨rfl, rfl, rfl, rfl, rfl⟩ rfl rfl rfl rfl rfl (by kernel_rfl) Try.func5 (by kernel_rfl)
    (of_decide_eq_true (by kernel_rfl)) (by unfold Func.isWrapper; first | (rw [if_pos (by decide +kernel)]; kernel_rfl) | (rw [if_neg (by decide +kernel)]; exact ⟨rfl, rfl⟩))
    (fun os started H enc _ => Flips.lifted os started H enc)
#print axioms codecFlips_holds
end Go.Proofs.Ytgnbokcganlbmab
