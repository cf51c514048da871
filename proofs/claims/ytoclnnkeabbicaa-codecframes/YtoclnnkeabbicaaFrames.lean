/-
  CodecFrames: for every two slices of bytes and every kind it returns true, and its arguments read as before. Conditions: none beyond the form's own (each slice takes at most 2^47 - 4096 bytes).
-/
import Derived.Test.YtoclnnkeabbicaaRows
import Derived.Test.YtoclnnkeabbicaaRefPutFrame
import Derived.Test.YtoclnnkeabbicaaSame
import Derived.Test.YtoclnnkeabbicaaMath3
import Derived.Test.YtoclnnkeabbicaaOpen
import Derived.OpenShut
namespace Go.Proofs.Ytoclnnkeabbicaa
open Go.ChangeShapes Go.WideShapes Go.ChangeAt Go.RowKit
set_option linter.unusedVariables false

theorem frLay_len (kind : UInt8) (d : List UInt8) (hd : d.length ≤ 2000) : 6 ≤ (frLay kind d).length ∧ (frLay kind d).length ≤ 2015 := by
  have := lay_len d.length
  simp [frLay, le4, frBody]; omega

theorem PutFrame_at (v : Value) (l : List UInt8) (kind : UInt8) (a : Option Addr) (n c : Nat) (d : List UInt8) (w : World) (hv : Sl w v l) (hd : Sl w (.slice a n c) d) (hl : d.length ≤ 2000) (hll : l.length + 2100 ≤ 140737488355328) :
    Calls Try.prog 24 #[v, .agg #[bv kind, .slice a n c]] w fun e w' => ∃ g c', e = .returned (.tuple #[.slice (some ⟨g, 0, none⟩) (l ++ frLay kind d).length c', .int .i64 0]) ∧ Own w' w.heap.size (.slice (some ⟨g, 0, none⟩) (l ++ frLay kind d).length c') (l ++ frLay kind d) ∧ Below w.heap.size w w' := by
  refine (PutFrame_ok v l kind a n c d w hv hd hl hll).mono ?_
  rintro e w' ⟨v', rfl, h1, h2⟩
  have h1' := h1
  rcases h1.2 with ⟨rfl, hz⟩ | ⟨g, cap, cur, rfl, _⟩
  · have := (frLay_len kind d hl).1
    rw [List.length_append] at hz
    omega
  · exact ⟨_, _, rfl, h1', h2⟩

/-- As PutFrame_at, the length handed out as a number. -/
theorem PutFrame_as (v : Value) (l : List UInt8) (kind : UInt8) (a : Option Addr) (n c : Nat) (d L : List UInt8) (m : Nat) (w : World) (hv : Sl w v l) (hd : Sl w (.slice a n c) d) (hl : d.length ≤ 2000) (hll : l.length + 2100 ≤ 140737488355328) (hL : L = frLay kind d) (hm : m = l.length + L.length) :
    Calls Try.prog 24 #[v, .agg #[bv kind, .slice a n c]] w fun e w' => ∃ g c', e = .returned (.tuple #[.slice (some ⟨g, 0, none⟩) m c', .int .i64 0]) ∧ Own w' w.heap.size (.slice (some ⟨g, 0, none⟩) m c') (l ++ L) ∧ Below w.heap.size w w' := by
  subst hm hL
  have := PutFrame_at v l kind a n c d w hv hd hl hll
  rw [List.length_append] at this
  exact this

theorem Own.slice {w : World} {base : Nat} {v : Value} {L : List UInt8} {n : Nat} (h : Own w base v L) (hn : n = L.length) : ∃ a c, v = .slice a n c ∧ c ≤ 9223372036854775807 ∧ n ≤ c := by
  subst hn
  obtain ⟨a, c, e, h1, h2, _⟩ := h.sl
  unfold maxLen at h2
  exact ⟨a, c, e, by omega, h1⟩

set_option maxHeartbeats 8000000 in
set_option maxRecDepth 100000 in
theorem Frames.walk (vb : Value) (l : List UInt8) (kind : Int) (vd : Value) (d : List UInt8) (w : World) (hb : Sl w vb l) (hd : Sl w vd d) (hl : l.length ≤ 140737488351232) (hdl : d.length ≤ 140737488351232) (hk0 : -9223372036854775808 ≤ kind) (hk1 : kind ≤ 9223372036854775807) :
    Calls Try.prog 4 #[vb, .int .i64 kind, vd] w fun e w' => e = .returned (.bool true) ∧ Below w.heap.size w w' := by
  obtain ⟨bo, bp, rfl, h1, h2, h4⟩ := id hb
  obtain ⟨ao, cp, rfl, q1, q2, q4⟩ := id hd
  unfold maxLen at h2 q2
  have HVB := hide hb
  have HVD := hide hd
  clear h4 q4 hb hd
  go_enter Try.func4, Try.ntmps4
  go_wp2_with (go_at_call 9; refine (awake_any _).mono ?_; rintro e w1 ⟨rfl, b1⟩; have HB1 := hide b1; have s1 := b1.size; clear b1)
  refine (Pick_any kind 256 _ hk0 hk1 (by decide) (by decide)).mono ?_
  rintro e w2 ⟨k, rfl, hk, rfl⟩
  obtain ⟨kd, hkd⟩ : ∃ kd : UInt8, (k : Int) = (kd.toNat : Int) := ⟨UInt8.ofNat k, by simp only [UInt8.toNat_ofNat']; omega⟩
  rw [hkd]
  clear hkd hk
  have hkd8 := kd.toNat_lt
  go_wp2_with fail
  obtain ⟨w2, hw2⟩ : ∃ w2, w2 = w1.alloc (.cells #[bv kd, .slice ao d.length cp] 37) := ⟨_, rfl⟩
  rw [← hw2]
  have b2 : Below w1.heap.size w1 w2 := by rw [hw2]; exact (Below.refl _ _).alloc (Nat.le_refl _) _
  have s2 : w1.heap.size < w2.heap.size := by rw [hw2]; simp
  have f0 : w2.cell? ⟨w1.heap.size, 0, none⟩ = some (bv kd) := by rw [hw2]; simp
  have f1 : w2.cell? ⟨w1.heap.size, 1, none⟩ = some (.slice ao d.length cp) := by rw [hw2]; simp
  have HW2 := hide ((unhide HB1).trans (b2.mono s1))
  clear hw2 b2
  refine (lent_any _ l _ ((unhide HVB).below (unhide HW2) (Nat.le_refl _)) (by omega)).mono ?_
  rintro e w3 ⟨g3, cap3, rfl, hL3, b3⟩
  have s3 := b3.size
  have HW3 := hide ((unhide HW2).trans (b3.mono (by omega)))
  have f30 := (b3.cell (p := ⟨w1.heap.size, 0, none⟩) s2).trans f0
  have f31 := (b3.cell (p := ⟨w1.heap.size, 1, none⟩) s2).trans f1
  have HL3 := hide hL3
  clear hL3 b3 f0 f1
  go_wp2_with fail
  refine (lent_any _ d _ ((unhide HVD).below (unhide HW3) (Nat.le_refl _)) (by omega)).mono ?_
  rintro e w4 ⟨g4, cap4, rfl, hL4, b4⟩
  have s4 := b4.size
  have HW4 := hide ((unhide HW3).trans (b4.mono (by omega)))
  have f40 := (b4.cell (p := ⟨w1.heap.size, 0, none⟩) (by show w1.heap.size < w3.heap.size; omega)).trans f30
  have f41 := (b4.cell (p := ⟨w1.heap.size, 1, none⟩) (by show w1.heap.size < w3.heap.size; omega)).trans f31
  have HLb := hide ((unhide HL3).below b4 (Nat.le_refl _))
  have HLd := hide hL4
  clear hL4 b4 f30 f31
  go_wp2_with fail
  by_cases hdd : 2000 < d.length
  · refine (PutFrame_long _ kd _ _ _ d _ (unhide HLd).sl hdd).mono ?_
    rintro e w5 ⟨rfl, b5⟩
    have s5 := b5.size
    have HW5 := hide ((unhide HW4).trans (b5.mono (by omega)))
    have f50 := (b5.cell (p := ⟨w1.heap.size, 0, none⟩) (by show w1.heap.size < w4.heap.size; omega)).trans f40
    have f51 := (b5.cell (p := ⟨w1.heap.size, 1, none⟩) (by show w1.heap.size < w4.heap.size; omega)).trans f41
    have HLb5 := hide ((unhide HLb).below b5 (Nat.le_refl _))
    have HLd5 := hide ((unhide HLd).below b5 (Nat.le_refl _))
    clear b5 f40 f41
    go_wp2_with fail
    refine (rPutFrame_long kd _ _ _ d _ ((unhide HVD).below (unhide HW5) (Nat.le_refl _)) hdd).mono ?_
    rintro e w6 ⟨rfl, b6⟩
    have s6 := b6.size
    have HW6 := hide ((unhide HW5).trans (b6.mono (by omega)))
    have HLb6 := hide ((unhide HLb5).below b6 (Nat.le_refl _))
    have HLd6 := hide ((unhide HLd5).below b6 (Nat.le_refl _))
    clear b6
    go_wp2_with fail
    refine (held_any _ _ _ l _ (unhide HLb6) ((unhide HVB).below (unhide HW6) (Nat.le_refl _))).mono ?_
    rintro e w7 ⟨rfl, rfl⟩
    go_wp2_with fail
    refine (held_any _ _ _ d _ (unhide HLd6) ((unhide HVD).below (unhide HW6) (Nat.le_refl _))).mono ?_
    rintro e w7 ⟨rfl, rfl⟩
    go_wp2
    go_ret
    exact ⟨rfl, unhide HW6⟩
  · have hd2 : d.length ≤ 2000 := by omega
    have hll := frLay_len kd d hd2
    obtain ⟨L, hL⟩ : ∃ L, L = frLay kd d := ⟨_, rfl⟩
    obtain ⟨n, hn⟩ : ∃ n, n = L.length := ⟨_, rfl⟩
    obtain ⟨m, hm⟩ : ∃ m, m = l.length + L.length := ⟨_, rfl⟩
    have hmn : m = l.length + n := by omega
    rw [← hL, ← hn] at hll
    refine (PutFrame_as _ l kd _ _ _ d L m _ (unhide HLb).sl (unhide HLd).sl hd2 (by omega) hL hm).mono ?_
    have HLL := hide (And.intro hL (And.intro hn (And.intro hm hmn)))
    have hmle : l.length ≤ m := by omega
    have hmle2 : m ≤ 140737488355328 := by omega
    have hml : m - l.length = n := by omega
    have HML := hide hml
    clear hL hn hm hmn hml
    rintro e w5 ⟨g5, c5, rfl, own5, b5⟩
    have s5 := b5.size
    have HW5 := hide ((unhide HW4).trans (b5.mono (by omega)))
    have f50 := (b5.cell (p := ⟨w1.heap.size, 0, none⟩) (by show w1.heap.size < w4.heap.size; omega)).trans f40
    have f51 := (b5.cell (p := ⟨w1.heap.size, 1, none⟩) (by show w1.heap.size < w4.heap.size; omega)).trans f41
    have HLb5 := hide ((unhide HLb).below b5 (Nat.le_refl _))
    have HLd5 := hide ((unhide HLd).below b5 (Nat.le_refl _))
    have HO5 := hide own5
    clear b5 f40 f41 own5
    go_wp2_with fail
    refine (rPutFrame_ok kd _ _ _ d _ ((unhide HVD).below (unhide HW5) (Nat.le_refl _)) hd2).mono ?_
    rintro e w6 ⟨v6, rfl, own6, b6⟩
    have own6' : Own w6 w5.heap.size v6 L := by rw [(unhide HLL).1]; exact own6
    obtain ⟨a6, c6, rfl, hc6, hc6'⟩ := own6'.slice (unhide HLL).2.1
    have s6 := b6.size
    have HW6 := hide ((unhide HW5).trans (b6.mono (by omega)))
    have f60 := (b6.cell (p := ⟨w1.heap.size, 0, none⟩) (by show w1.heap.size < w5.heap.size; omega)).trans f50
    have f61 := (b6.cell (p := ⟨w1.heap.size, 1, none⟩) (by show w1.heap.size < w5.heap.size; omega)).trans f51
    have HLb6 := hide ((unhide HLb5).below b6 (Nat.le_refl _))
    have HLd6 := hide ((unhide HLd5).below b6 (Nat.le_refl _))
    have HO6 := hide ((unhide HO5).below b6 (Nat.le_refl _))
    have HR6 := hide own6'
    clear b6 f50 f51 own6 own6'
    go_wp2_with fail
    refine (held_any _ _ _ l _ (unhide HLb6) ((unhide HVB).below (unhide HW6) (Nat.le_refl _))).mono ?_
    rintro e w7 ⟨rfl, rfl⟩
    go_wp2_with fail
    refine (held_any _ _ _ d _ (unhide HLd6) ((unhide HVD).below (unhide HW6) (Nat.le_refl _))).mono ?_
    rintro e w7 ⟨rfl, rfl⟩
    obtain ⟨-, a1, a2, a3, a4, a5, -⟩ := (unhide HO6).at
    have a1' := a1
    rw [List.length_append, ← (unhide HLL).2.2.1] at a1
    have hne : ¬ c5 = l.length := by have := (unhide HLL).2.2.2; omega
    have HS : Sl w6 (.slice (some ⟨g5, l.length, none⟩) (m - l.length) (c5 - l.length)) L := by
      have := Sl.from g5 0 c5 (l ++ L) a4 a1' a2 a5 l.length (by simp)
      rw [Nat.zero_add, List.drop_left, List.length_append, ← (unhide HLL).2.2.1] at this
      exact this
    have HSS := hide HS
    have HA5 := hide a5
    clear a5 HS a1'
    have hLn : L.length ≤ 2015 := by have := (unhide HLL).2.1; omega
    go_wp2_with (at_builtin; refine wpList_append_mine rfl (.tmp 74) (.tmp 78) rfl w6.heap.size _ [] rfl ?hown _ L rfl ?hy ?hlen ?hbase ?_)
    case hown => exact World.ownsRow_lit w6 #[] 0 (Nat.le_refl _) (by simp [maxLen]) rfl
    case hy => exact (unhide HSS).alloc _
    case hlen => simp; omega
    case hbase => simp
    intro v7 w7 own7 b7
    have own7' : Own w7 w6.heap.size v7 L := own7
    have b7' : Below w6.heap.size w6 w7 := ((Below.refl w6.heap.size w6).alloc (Nat.le_refl _) _).trans b7
    have s7 := b7'.size
    have HO7 := hide own7'
    have HW7 := hide ((unhide HW6).trans (b7'.mono (by omega)))
    have HB7 := hide b7'
    clear own7 own7' b7 b7'
    go_wp2_with (at_builtin; refine wpList_append_mine rfl (.tmp 79) (.tmp 80) rfl w6.heap.size _ L rfl (unhide HO7) _ l rfl ((unhide HVB).below (unhide HW7) (Nat.le_refl _)) ?hlen2 ?hbase2 ?_)
    case hlen2 => omega
    case hbase2 => omega
    intro v8 w8 own8 b8
    have s8 := b8.size
    have HO8 := hide own8
    have HB8 := hide ((unhide HB7).trans b8)
    clear own8 b8
    go_wp2_with fail
    refine (Frame_any _ (L ++ l) _ (unhide HO8).sl).mono ?_
    rintro e w9 ⟨a9, n9, c9, rfl, own9, b9⟩
    obtain ⟨e1, e2, e3, e4⟩ := fr_back kd d l hd2
    rw [← (unhide HLL).1] at e1 e2 e3 e4
    rw [e4] at own9
    rw [e1, e2, e3]
    rw [← (unhide HLL).2.1]
    have s9 := b9.size
    have HB9 := hide ((unhide HB8).trans (b9.mono (by omega)))
    have s69 := (unhide HB9).size
    have f90 := ((unhide HB9).cell (p := ⟨w1.heap.size, 0, none⟩) (by show w1.heap.size < w6.heap.size; omega)).trans f60
    have f91 := ((unhide HB9).cell (p := ⟨w1.heap.size, 1, none⟩) (by show w1.heap.size < w6.heap.size; omega)).trans f61
    have HW9 := hide ((unhide HW6).trans ((unhide HB9).mono (by omega)))
    have HV9 := hide ((unhide HVD).below (unhide HW9) (Nat.le_refl _))
    have HX := hide (And.intro (Fl.one (w9.alloc (.cells #[bv kd, .slice a9 n9 c9] 37)) kd a9 n9 c9 d (w9.heap.size + 1) (by simp) (own9.sl.alloc _)) (Fl.one ((w9.alloc (.cells #[bv kd, .slice a9 n9 c9] 37)).alloc (.cells #[bv kd, .slice a9 n9 c9] 37)) kd ao d.length cp d (w9.heap.size + 2) (by simp) (((unhide HV9).alloc _).alloc _)))
    clear own9 b9 e1 e2 e3 e4 f60 f61
    have s19 : w1.heap.size < w9.heap.size := by omega
    go_wp2_with fail
    refine (SameFrames_any _ _ [(kd, d)] [(kd, d)] _ ((unhide HX).1.below ((Below.refl _ _).alloc (Nat.le_refl _) _) (Nat.le_refl _)) (unhide HX).2).mono ?_
    rintro e w10 ⟨rfl, b10⟩
    have b10' : Below w9.heap.size w9 w10 := (((((Below.refl w9.heap.size w9).alloc (Nat.le_refl _) _).alloc (by simp) _).alloc (by simp; omega) _).trans (b10 w9.heap.size))
    have hdec : decide ([(kd, d)] = [(kd, d)]) = true := decide_eq_true rfl
    rw [hdec]
    have HB10 := hide ((unhide HB9).trans (b10'.mono (by omega)))
    have HW10 := hide ((unhide HW6).trans ((unhide HB10).mono (by omega)))
    have HO10 := hide ((unhide HO6).below (unhide HB10) (Nat.le_refl _))
    have HR10 := hide ((unhide HR6).below (unhide HB10) (Nat.le_refl _))
    clear b10 b10' hdec f90 f91
    go_wp2_with fail
    refine (behind_any w4.heap.size g5 m c5 _ _ l L _ (unhide HO10) ((unhide HVB).below (unhide HW10) (Nat.le_refl _)) (unhide HR10).sl (by omega)).mono ?_
    rintro e w11 ⟨rfl, b11⟩
    have HW11 := hide ((unhide HW10).trans (b11.mono (by omega)))
    clear b11
    go_wp2
    go_ret
    exact ⟨rfl, unhide HW11⟩

set_option maxRecDepth 100000 in
theorem Frames.lifted (os : Os) (started : os.Started) (H : Type) (enc : TypeId × Value → H) :
    ReturnsInHanded {} Try.checked os 4 .any (Rows.codecFramesSpec.pre6 enc Try.prog Try.f4 Rows.codecFramesRow.domain false) (Rows.codecFramesSpec.post enc Try.prog Try.f4 false true false false) := by
  refine returnsInHanded_of_change_sized (C := Try.checked) own_knob started (by kernel_rfl) Try.func4
    (ChangeSpec.witness6 (enc := enc) (C := Try.checked) false ⟨#[], #[.slice none 0 0, .int .i64 0, .slice none 0 0], []⟩ 8 (by kernel_rfl) (by kernel_rfl) (by kernel_rfl) (by kernel_rfl)) ?_
  intro W base args ds gs before hval0 hW hcnd hsz0 hholds
  have hval : ∀ (j : Nat) t v, Try.f4.params[j]? = some t → args[j]? = some v → Value.okWide Try.prog W .any base t v := hval0
  have hsz : (DataW.weightsEach Try.prog (Try.f4.params.toList ++ Rows.codecFramesSpec.plain.varTypes Try.prog) (ds ++ gs)).all (· ≤ reachBytes) = true := hsz0
  have hW' := hW
  obtain ⟨p, q, hA0, hV, rfl, hfz, hnd⟩ := hW
  have hA : DataW.TrodAll enc Try.prog W 0 (fun _ => true) true Try.f4.params.toList args.toList ds p := hA0
  rw [Try.params4] at hA hval hsz
  obtain ⟨v0, v1, v2, d0, d1, d2, p0, p1, p2, rfl, rfl, rfl, h0, h1, h2⟩ := trodAll_three hA
  obtain ⟨rfl, rfl⟩ := trodVars_none hV
  obtain ⟨a0, len0, cap0, rfl⟩ := okWide_slice Try.underlying22 (hval 0 22 v0 rfl rfl)
  obtain ⟨a2, len2, cap2, rfl⟩ := okWide_slice Try.underlying22 (hval 2 22 v2 rfl rfl)
  have k0 := h0
  have k2 := h2
  have lt0 : ∀ x ∈ p0, x.block < W.heap.size := by obtain ⟨m, hm⟩ := k0; exact DataW.trod_lt m _ _ _ hm
  have lt2 : ∀ x ∈ p2, x.block < W.heap.size := by obtain ⟨m, hm⟩ := k2; exact DataW.trod_lt m _ _ _ hm
  obtain ⟨l, hl, hd⟩ := open_bytes h0
  obtain ⟨l2, hl2, hd2⟩ := open_bytes h2
  have hlen : l.length ≤ 140737488351232 := by
    rcases hd with ⟨_, rfl⟩ | ⟨es, sp, rfl, h⟩
    · simp
    · have := sized_slice hsz (j := 0) (t := 22) (e := 5) rfl rfl Try.underlying22
      rw [Try.bytes5] at this
      simp only [reachBytes] at this
      omega
  have hlen2 : l2.length ≤ 140737488351232 := by
    rcases hd2 with ⟨_, rfl⟩ | ⟨es, sp, rfl, h⟩
    · simp
    · have := sized_slice hsz (j := 2) (t := 22) (e := 5) rfl rfl Try.underlying22
      rw [Try.bytes5] at this
      simp only [reachBytes] at this
      omega
  obtain ⟨x, rfl, rfl, rfl, wx⟩ := open_int Try.underlying3 (hval 1 3 v1 rfl rfl) h1
  have bx := bounds_i64 wx
  clear hA0 hval0 hsz0
  refine (Frames.walk _ l x _ l2 W hl hl2 hlen hlen2 (by omega) (by omega)).mono fun e W' ⟨he, bel⟩ => ?_
  subst he
  exact ⟨_, rfl, _, _, _, [], _, [], hW', trodAll_mk1 (shut_bool Try.underlying4 _), (trodAll_cons_mk (Below.trod laid_out (by kernel_rfl) (of_decide_eq_true (by kernel_rfl)) k0 bel lt0) (trodAll_cons_mk (shut_int Try.underlying3 wx) (trodAll_cons_mk (Below.trod laid_out (by kernel_rfl) (of_decide_eq_true (by kernel_rfl)) k2 bel lt2) trodAll_mk0))), rfl, bel.frame _, fun h => by cases h⟩

theorem codecFrames_holds : Rows.CodecFramesSaid :=
  OpenClaim.holds_of_wide 4 Try.f4 rfl rfl rfl rfl rfl rfl rfl ⟨rfl, rfl, rfl, rfl, rfl⟩ rfl rfl rfl rfl rfl (by kernel_rfl) Try.func4 (by kernel_rfl)
    (of_decide_eq_true (by kernel_rfl)) (by unfold Func.isWrapper; first | (rw [if_pos (by decide +kernel)]; kernel_rfl) | (rw [if_neg (by decide +kernel)]; exact ⟨rfl, rfl⟩))
    (fun os started H enc _ => Frames.lifted os started H enc)
#print axioms codecFrames_holds
end Go.Proofs.Ytoclnnkeabbicaa
