/-
  CodecReads: for every slice of bytes and every int it returns true, and its arguments read as before. Conditions: none beyond the form's own (each slice takes at most 2^47 - 4096 bytes).
-/
import Derived.Test.YtoclnnkeabbicaaRows
import Derived.Test.YtoclnnkeabbicaaRefFrame2
import Derived.Test.YtoclnnkeabbicaaSame
import Derived.Test.YtoclnnkeabbicaaOpen
import Derived.OpenShut
namespace Go.Proofs.Ytoclnnkeabbicaa
open Go.ChangeShapes Go.WideShapes Go.ChangeAt Go.RowKit
set_option linter.unusedVariables false

theorem Int_at (v : Value) (l : List UInt8) (i : Int) (n k e : Nat) (w : World) (hv : Sl w v l) (hi : rdI l = i) (h : rd l = (n, k, e)) :
    Calls Try.prog 13 #[v] w fun o w' => o = .returned (.tuple #[.int .i64 i, .int .i64 k, .int .i64 e]) ∧ w = w' := by
  have := Int_any v l w hv
  rw [h, hi] at this
  exact this
theorem rInt_at (v : Value) (l : List UInt8) (i : Int) (n k e : Nat) (w : World) (hv : Sl w v l) (hi : rdI l = i) (h : rd l = (n, k, e)) :
    Calls Try.prog 14 #[v] w fun o w' => o = .returned (.tuple #[.int .i64 i, .int .i64 k, .int .i64 e]) ∧ Below w.heap.size w w' := by
  have := rInt_any v l w hv
  rw [h, hi] at this
  exact this
theorem Text_at (v : Value) (l : List UInt8) (most : Int) (d : List UInt8) (k e : Nat) (w : World) (hv : Sl w v l) (hm0 : -9223372036854775808 ≤ most) (hm : most ≤ 9223372036854775807) (hd : pcD l most = d) (hk : pcK l most = k) (he : pcE l most = e) :
    Calls Try.prog 15 #[v, .int .i64 most] w fun o w' => o = .returned (.tuple #[.string ⟨d.toArray⟩, .int .i64 k, .int .i64 e]) ∧ w = w' := by
  subst hd hk he
  exact Text_any v l most w hv hm0 hm
theorem rText_at (v : Value) (l : List UInt8) (most : Int) (d : List UInt8) (k e : Nat) (w : World) (hv : Sl w v l) (hm0 : -9223372036854775808 ≤ most) (hm : most ≤ 9223372036854775807) (hd : pcD l most = d) (hk : pcK l most = k) (he : pcE l most = e) :
    Calls Try.prog 16 #[v, .int .i64 most] w fun o w' => o = .returned (.tuple #[.string ⟨d.toArray⟩, .int .i64 k, .int .i64 e]) ∧ Below w.heap.size w w' := by
  subst hd hk he
  exact rText_any v l most w hv hm0 hm
theorem U32_as (v : Value) (l : List UInt8) (u e : Nat) (w : World) (hv : Sl w v l) (hu : (if l.length < 4 then 0 else rd4 l : Nat) = u) (he : (if l.length < 4 then 10 else 0 : Nat) = e) :
    Calls Try.prog 17 #[v] w fun o w' => o = .returned (.tuple #[.int .u32 u, .int .i64 e]) ∧ ∀ B, Below B w w' := by
  subst hu he
  exact U32_any v l w hv
theorem rU32_as (v : Value) (l : List UInt8) (u e : Nat) (w : World) (hv : Sl w v l) (hu : (if l.length < 4 then 0 else rd4 l : Nat) = u) (he : (if l.length < 4 then 10 else 0 : Nat) = e) :
    Calls Try.prog 18 #[v] w fun o w' => o = .returned (.tuple #[.int .u32 u, .int .i64 e]) ∧ w = w' := by
  subst hu he
  exact rU32_any v l w hv
theorem Frame_as (v : Value) (l : List UInt8) (f : UInt8) (d : List UInt8) (k e : Nat) (w : World) (hv : Sl w v l) (hf : frKind l = f) (hd : frD l = d) (hk : frK l = k) (he : frE l = e) :
    Calls Try.prog 19 #[v] w fun o w' => ∃ a n c, o = .returned (.tuple #[.agg #[bv f, .slice a n c], .int .i64 k, .int .i64 e]) ∧ Own w' w.heap.size (.slice a n c) d ∧ Below w.heap.size w w' := by
  subst hf hd hk he
  exact Frame_any v l w hv
theorem rFrame_as (v : Value) (l : List UInt8) (f : UInt8) (d : List UInt8) (k e : Nat) (w : World) (hv : Sl w v l) (hf : frKind l = f) (hd : frD l = d) (hk : frK l = k) (he : frE l = e) :
    Calls Try.prog 20 #[v] w fun o w' => ∃ a n c, o = .returned (.tuple #[.agg #[bv f, .slice a n c], .int .i64 k, .int .i64 e]) ∧ Sl w' (.slice a n c) d ∧ Below w.heap.size w w' := by
  subst hf hd hk he
  exact rFrame_any v l w hv

set_option maxHeartbeats 8000000 in
set_option maxRecDepth 100000 in
theorem Reads.walk (v : Value) (l : List UInt8) (most : Int) (w : World) (hv : Sl w v l) (hl : l.length ≤ 140737488351232) (hm0 : -9223372036854775808 ≤ most) (hm1 : most ≤ 9223372036854775807) :
    Calls Try.prog 3 #[v, .int .i64 most] w fun e w' => e = .returned (.bool true) ∧ Below w.heap.size w w' := by
  obtain ⟨ao, cp, rfl, h1, h2, h4⟩ := id hv
  unfold maxLen at h2
  have HV := hide hv
  obtain ⟨rn, rk, re, hrd⟩ : ∃ n k e, rd l = (n, k, e) := ⟨_, _, _, rfl⟩
  obtain ⟨ri, hri⟩ : ∃ i, rdI l = i := ⟨_, rfl⟩
  obtain ⟨pd, hpd⟩ : ∃ i, pcD l most = i := ⟨_, rfl⟩
  obtain ⟨pk, hpk⟩ : ∃ i, pcK l most = i := ⟨_, rfl⟩
  obtain ⟨pe, hpe⟩ : ∃ i, pcE l most = i := ⟨_, rfl⟩
  obtain ⟨uu, huu⟩ : ∃ i, (if l.length < 4 then 0 else rd4 l : Nat) = i := ⟨_, rfl⟩
  obtain ⟨ue, hue⟩ : ∃ i, (if l.length < 4 then 10 else 0 : Nat) = i := ⟨_, rfl⟩
  obtain ⟨fk, hfk⟩ : ∃ i, frKind l = i := ⟨_, rfl⟩
  obtain ⟨fd, hfd⟩ : ∃ i, frD l = i := ⟨_, rfl⟩
  obtain ⟨fn, hfn⟩ : ∃ i, frK l = i := ⟨_, rfl⟩
  obtain ⟨fe, hfe⟩ : ∃ i, frE l = i := ⟨_, rfl⟩
  have HA := hide (And.intro hrd (And.intro hri (And.intro hpd (And.intro hpk (And.intro hpe (And.intro huu (And.intro hue (And.intro hfk (And.intro hfd (And.intro hfn hfe))))))))))
  clear h4 hv hrd hri hpd hpk hpe huu hue hfk hfd hfn hfe
  have hself : (pd == pd) = true := beq_self_eq_true _
  go_enter Try.func3, Try.ntmps3
  go_wp2_with (first | (go_at_call 9; refine (awake_any _).mono ?_; rintro e w1 ⟨rfl, b1⟩; have HB1 := hide b1; have s1 := b1.size; clear b1) | (go_at_call 10; refine (lent_any _ l _ ((unhide HV).below (unhide HB1) (Nat.le_refl _)) (by omega)).mono ?_; rintro e w2 ⟨g, cap, rfl, hL, b2⟩; have HL := hide hL; have HB2 := hide b2; have s2 := b2.size; clear hL b2) | (go_at_call 11; refine (Uint_at _ l _ _ _ _ (unhide HL).sl (unhide HA).1).mono ?_; rintro e w3 ⟨rfl, rfl⟩))
  have HW2 := hide ((unhide HB1).trans ((unhide HB2).mono s1))
  refine (rUint_at _ l rn rk re _ ((unhide HV).below (unhide HW2) (Nat.le_refl _)) (unhide HA).1).mono ?_
  rintro e w3 ⟨rfl, b3⟩
  have HL3 := hide ((unhide HL).below b3 (Nat.le_refl _))
  have s3 := b3.size
  have HW3 := hide ((unhide HW2).trans (b3.mono (by omega)))
  clear b3
  go_wp2_with (go_at_call 13; refine (Int_at _ l _ _ _ _ _ (unhide HL3).sl (unhide HA).2.1 (unhide HA).1).mono ?_; rintro e w4 ⟨rfl, rfl⟩)
  refine (rInt_at _ l ri rn rk re _ ((unhide HV).below (unhide HW3) (Nat.le_refl _)) (unhide HA).2.1 (unhide HA).1).mono ?_
  rintro e w4 ⟨rfl, b4⟩
  have HL4 := hide ((unhide HL3).below b4 (Nat.le_refl _))
  have s4 := b4.size
  have HW4 := hide ((unhide HW3).trans (b4.mono (by omega)))
  clear b4
  go_wp2_with (go_at_call 15; refine (Text_at _ l most _ _ _ _ (unhide HL4).sl hm0 hm1 (unhide HA).2.2.1 (unhide HA).2.2.2.1 (unhide HA).2.2.2.2.1).mono ?_; rintro e w5 ⟨rfl, rfl⟩)
  refine (rText_at _ l most pd pk pe _ ((unhide HV).below (unhide HW4) (Nat.le_refl _)) hm0 hm1 (unhide HA).2.2.1 (unhide HA).2.2.2.1 (unhide HA).2.2.2.2.1).mono ?_
  rintro e w5 ⟨rfl, b5⟩
  have HL5 := hide ((unhide HL4).below b5 (Nat.le_refl _))
  have s5 := b5.size
  have HW5 := hide ((unhide HW4).trans (b5.mono (by omega)))
  clear b5
  go_wp2_with fail
  refine (U32_as _ l uu ue _ (unhide HL5).sl (unhide HA).2.2.2.2.2.1 (unhide HA).2.2.2.2.2.2.1).mono ?_
  rintro e w6 ⟨rfl, b6⟩
  have HL6 := hide ((unhide HL5).below (b6 _) (Nat.le_refl _))
  have s6 := (b6 0).size
  have HW6 := hide ((unhide HW5).trans (b6 _))
  clear b6
  go_wp2_with fail
  refine (rU32_as _ l uu ue _ ((unhide HV).below (unhide HW6) (Nat.le_refl _)) (unhide HA).2.2.2.2.2.1 (unhide HA).2.2.2.2.2.2.1).mono ?_
  rintro e w7 ⟨rfl, rfl⟩
  go_wp2_with fail
  refine (Frame_as _ l fk fd fn fe _ (unhide HL6).sl (unhide HA).2.2.2.2.2.2.2.1 (unhide HA).2.2.2.2.2.2.2.2.1 (unhide HA).2.2.2.2.2.2.2.2.2.1 (unhide HA).2.2.2.2.2.2.2.2.2.2).mono ?_
  rintro e w7 ⟨a7, n7, c7, rfl, own7, b7⟩
  have HO7 := hide own7
  have HL7 := hide ((unhide HL6).below b7 (Nat.le_refl _))
  have s7 := b7.size
  have HB7 := hide b7
  have HW7 := hide ((unhide HW6).trans (b7.mono (by omega)))
  clear b7 own7
  go_wp2_with fail
  obtain ⟨w8, hw8⟩ : ∃ w8, w8 = w7.alloc (.cells #[bv fk, .slice a7 n7 c7] 37) := ⟨_, rfl⟩
  rw [← hw8]
  have b8 : Below w7.heap.size w7 w8 := by rw [hw8]; exact (Below.refl _ _).alloc (Nat.le_refl _) _
  have s8 : w8.heap.size = w7.heap.size + 1 := by rw [hw8]; simp
  have f0 : w8.cell? ⟨w7.heap.size, 0, none⟩ = some (bv fk) := by rw [hw8]; simp
  have f1 : w8.cell? ⟨w7.heap.size, 1, none⟩ = some (.slice a7 n7 c7) := by rw [hw8]; simp
  have y0 : w8.frozen? ⟨w7.heap.size, 1, none⟩ = false := by rw [hw8]; simp
  have HW8 := hide ((unhide HW7).trans (b8.mono (by omega)))
  have HB8 := hide ((unhide HB7).trans (b8.mono (by omega)))
  have HO8 := hide ((unhide HO7).below b8 (Nat.le_refl _))
  clear hw8 b8
  refine (rFrame_as _ l fk fd fn fe _ ((unhide HV).below (unhide HW8) (Nat.le_refl _)) (unhide HA).2.2.2.2.2.2.2.1 (unhide HA).2.2.2.2.2.2.2.2.1 (unhide HA).2.2.2.2.2.2.2.2.2.1 (unhide HA).2.2.2.2.2.2.2.2.2.2).mono ?_
  rintro e w9 ⟨a9, n9, c9, rfl, sl9, b9⟩
  have s9 := b9.size
  have f90 := (b9.cell (p := ⟨w7.heap.size, 0, none⟩) (by show w7.heap.size < w8.heap.size; omega)).trans f0
  have f91 := (b9.cell (p := ⟨w7.heap.size, 1, none⟩) (by show w7.heap.size < w8.heap.size; omega)).trans f1
  have HW9 := hide ((unhide HW8).trans (b9.mono (by omega)))
  have HB9 := hide ((unhide HB8).trans (b9.mono (by omega)))
  have HO9 := hide ((unhide HO8).below b9 (Nat.le_refl _))
  have HX := hide (And.intro (Fl.one (w9.alloc (.cells #[bv fk, .slice a9 n9 c9] 37)) fk a7 n7 c7 fd (w9.heap.size + 1) (by simp) ((unhide HO9).sl.alloc _)) (Fl.one ((w9.alloc (.cells #[bv fk, .slice a9 n9 c9] 37)).alloc (.cells #[bv fk, .slice a7 n7 c7] 37)) fk a9 n9 c9 fd (w9.heap.size + 2) (by simp) ((sl9.alloc _).alloc _)))
  clear sl9 b9 f0 f1
  have s79 : w7.heap.size < w9.heap.size := by omega
  go_wp2_with fail
  refine (SameFrames_any _ _ [(fk, fd)] [(fk, fd)] _ ((unhide HX).1.below ((Below.refl _ _).alloc (Nat.le_refl _) _) (Nat.le_refl _)) (unhide HX).2).mono ?_
  rintro e w10 ⟨rfl, b10⟩
  have b10' := fun B (hB : B ≤ w9.heap.size) => (((((Below.refl B w9).alloc hB _).alloc (by simp; omega) _).alloc (by simp; omega) _).trans (b10 B))
  have f101 := ((b10' w9.heap.size (Nat.le_refl _)).cell (p := ⟨w7.heap.size, 1, none⟩) s79).trans f91
  have s10 := (b10' w9.heap.size (Nat.le_refl _)).size
  have HB10 := hide ((unhide HB9).trans (b10' w6.heap.size (by omega)))
  have HO10 := hide ((unhide HO9).below (b10' w9.heap.size (Nat.le_refl _)) (Nat.le_refl _))
  have hdec : decide ([(fk, fd)] = [(fk, fd)]) = true := decide_eq_true rfl
  rw [hdec]
  clear b10 b10' f90 f91 hdec
  have HL10 := hide ((unhide HL6).below (unhide HB10) (Nat.le_refl _))
  have HW10 := hide ((unhide HW6).trans ((unhide HB10).mono (by omega)))
  go_wp2_with fail
  rcases (unhide HO10).2 with ⟨e, hz⟩ | ⟨g7, cap7, cur, e, _⟩
  · cases e
    have HV10 := hide ((unhide HV).below (unhide HW10) (Nat.le_refl _))
    refine wp_loop_rounds 1 ?_
    rw [rounds_succ]
    go_wp2_with (go_at_call 22; refine (held_any _ _ _ l _ (unhide HL10) (unhide HV10)).mono ?_; rintro e w4 ⟨rfl, rfl⟩)
    go_ret
    exact ⟨rfl, unhide HW10⟩
  · cases e
    obtain ⟨-, a1, a2, a3, a4, -, -⟩ := (unhide HO10).at
    obtain ⟨N, hN⟩ : ∃ N, N = fd.length := ⟨_, rfl⟩
    have HO11 := unhide HO10
    rw [← hN] at HO11 a1 f101 ⊢
    have HOwn := hide HO11
    have s7g : g7 < w7.heap.size := by
      obtain ⟨_, _, _, _, q, _⟩ := (unhide HO7).at
      exact q
    clear HO11 hN
    go_loopw [36] (fun i wr => ∃ (k : Nat) (x : List UInt8), k ≤ N ∧ i = .int .i64 k ∧ Own wr w6.heap.size (.slice (some ⟨g7, 0, none⟩) N c7) x ∧ Below w6.heap.size w6 wr ∧ wr.cell? ⟨w7.heap.size, 1, none⟩ = some (.slice (some ⟨g7, 0, none⟩) N c7)) (fun i _ => N - (intOf i).toNat)
    case atStart => exact ⟨0, fd, by omega, rfl, unhide HOwn, unhide HB10, f101⟩
    case round =>
      obtain ⟨k, x, hk, rfl, own1, b1, fc⟩ := hrel
      by_cases hlt : k < N
      · obtain ⟨z0, y1, y2, y3, y4, y5, y6⟩ := own1.at
        obtain ⟨c, hcell⟩ : ∃ c, wr.cell? ⟨g7, k, none⟩ = some (bv c) := ⟨_, by have := y5 k (by omega); rwa [Nat.zero_add] at this⟩
        have hfz := y6 k
        have R := own1.set k 5
        have hb2 := b1.setCell (p := ⟨g7, k, none⟩) (by show w6.heap.size ≤ g7; exact a3) (bv 5)
        have fc2 : (wr.setCell ⟨g7, k, none⟩ (bv 5)).cell? ⟨w7.heap.size, 1, none⟩ = some (.slice (some ⟨g7, 0, none⟩) N c7) := by
          rw [World.cell?_of_block (Below.heap_setCell _ _ _ _ (by show w7.heap.size ≠ g7; omega))]; exact fc
        have HR := hide (And.intro R (And.intro hb2 fc2))
        clear R hb2 own1 b1 z0 y5 y6 fc2
        go_wp2
        go_roundw
        case rel => exact ⟨k + 1, x.set k 5, by omega, by go_num, (unhide HR).1, (unhide HR).2.1, (unhide HR).2.2⟩
        case measure => simp [intOf]; omega
      · have HLr := hide ((unhide HL6).below b1 (Nat.le_refl _))
        have HWr := hide ((unhide HW6).trans (b1.mono (by omega)))
        have HVr := hide ((unhide HV).below (unhide HWr) (Nat.le_refl _))
        clear own1 b1
        go_wp2_with (go_at_call 22; refine (held_any _ _ _ l _ (unhide HLr) (unhide HVr)).mono ?_; rintro e w4 ⟨rfl, rfl⟩)
        go_ret
        exact ⟨rfl, unhide HWr⟩
set_option maxRecDepth 100000 in
theorem Reads.lifted (os : Os) (started : os.Started) (H : Type) (enc : TypeId × Value → H) :
    ReturnsInHanded {} Try.checked os 3 .any (Rows.codecReadsSpec.pre6 enc Try.prog Try.f3 Rows.codecReadsRow.domain false) (Rows.codecReadsSpec.post enc Try.prog Try.f3 false true false false) := by
  refine returnsInHanded_of_change_sized (C := Try.checked) own_knob started (by kernel_rfl) Try.func3
    (ChangeSpec.witness6 (enc := enc) (C := Try.checked) false ⟨#[], #[.slice none 0 0, .int .i64 0], []⟩ 8 (by kernel_rfl) (by kernel_rfl) (by kernel_rfl) (by kernel_rfl)) ?_
  intro W base args ds gs before hval0 hW hcnd hsz0 hholds
  have hval : ∀ (j : Nat) t v, Try.f3.params[j]? = some t → args[j]? = some v → Value.okWide Try.prog W .any base t v := hval0
  have hsz : (DataW.weightsEach Try.prog (Try.f3.params.toList ++ Rows.codecReadsSpec.plain.varTypes Try.prog) (ds ++ gs)).all (· ≤ reachBytes) = true := hsz0
  have hW' := hW
  obtain ⟨p, q, hA0, hV, rfl, hfz, hnd⟩ := hW
  have hA : DataW.TrodAll enc Try.prog W 0 (fun _ => true) true Try.f3.params.toList args.toList ds p := hA0
  rw [Try.params3] at hA hval hsz
  obtain ⟨v0, v1, d0, d1, p0, p1, rfl, rfl, rfl, h0, h1⟩ := trodAll_two hA
  obtain ⟨rfl, rfl⟩ := trodVars_none hV
  obtain ⟨a0, len0, cap0, rfl⟩ := okWide_slice Try.underlying22 (hval 0 22 v0 rfl rfl)
  have k0 := h0
  have lt0 : ∀ x ∈ p0, x.block < W.heap.size := by obtain ⟨m, hm⟩ := k0; exact DataW.trod_lt m _ _ _ hm
  obtain ⟨l, hl, hd⟩ := open_bytes h0
  have hlen : l.length ≤ 140737488351232 := by
    rcases hd with ⟨_, rfl⟩ | ⟨es, sp, rfl, h⟩
    · simp
    · have := sized_slice hsz (j := 0) (t := 22) (e := 5) rfl rfl Try.underlying22
      rw [Try.bytes5] at this
      simp only [reachBytes] at this
      omega
  obtain ⟨x, rfl, rfl, rfl, wx⟩ := open_int Try.underlying3 (hval 1 3 v1 rfl rfl) h1
  have bx := bounds_i64 wx
  clear hA0 hval0 hsz0
  refine (Reads.walk _ l x W hl hlen (by omega) (by omega)).mono fun e W' ⟨he, bel⟩ => ?_
  subst he
  exact ⟨_, rfl, _, _, _, [], _, [], hW', trodAll_mk1 (shut_bool Try.underlying4 _), (trodAll_cons_mk (Below.trod laid_out (by kernel_rfl) (of_decide_eq_true (by kernel_rfl)) k0 bel lt0) (trodAll_cons_mk (shut_int Try.underlying3 wx) trodAll_mk0)), rfl, bel.frame _, fun h => by cases h⟩

theorem codecReads_holds : Rows.CodecReadsSaid :=
  OpenClaim.holds_of_wide 3 Try.f3 rfl rfl rfl rfl rfl rfl rfl ⟨rfl, rfl, rfl, rfl, rfl⟩ rfl rfl rfl rfl rfl (by kernel_rfl) Try.func3 (by kernel_rfl)
    (of_decide_eq_true (by kernel_rfl)) (by unfold Func.isWrapper; first | (rw [if_pos (by decide +kernel)]; kernel_rfl) | (rw [if_neg (by decide +kernel)]; exact ⟨rfl, rfl⟩))
    (fun os started H enc _ => Reads.lifted os started H enc)
#print axioms codecReads_holds
end Go.Proofs.Ytoclnnkeabbicaa
