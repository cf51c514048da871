/-
  AllocReads: for all bytes it returns true, and its argument reads as before.
-/
import Derived.Test.YtgdplmbchoogiaaM4
import Derived.OpenShut
namespace Go.Proofs.Ytgdplmbchoogiaa
open Go.ChangeShapes Go.WideShapes Go.ChangeAt Go.RowKit
set_option linter.unusedVariables false

theorem nil_sl (w : World) : Sl w (.slice none 0 0) [] := ⟨none, 0, rfl, by simp, by simp [maxLen], fun h => absurd rfl h⟩
theorem Try.bytes5 : Try.prog.bytesOf 5 = 1 := by kernel_rfl
theorem Try.cells5 : Try.prog.cellsOf 5 = 1 := by kernel_rfl

theorem byte_wf {n : Int} (h : (Lit.int .u8 n).wf = true) : n = ((UInt8.ofNat n.toNat).toNat : Int) := by
  have := bounds_u8 h
  simp only [UInt8.toNat_ofNat']
  omega

theorem open_bytes {H : Type} {enc : TypeId × Value → H} {W : World} {a : Option Addr} {n c : Nat} {d : DataW H} {p : List MemPlace}
    (h : DataW.Trod enc Try.prog W 0 (fun _ => true) true 42 (.slice a n c) d p) :
    ∃ l : List UInt8, Sl W (.slice a n c) l ∧ ((d = .nil ∧ l = []) ∨ ∃ es sp, d = .slice es sp ∧ l.length ≤ es.length + sp.length) := by
  obtain ⟨fuel, hf⟩ := h
  rcases open_ints Try.underlying42 Try.underlying5 Try.cells5 hf with ⟨hcs, hx⟩ | ⟨x, l, cp, zs, hcs, _, hl, hm, hz, hx, hcell, hwz⟩
  · simp [Value.cells] at hcs
    obtain ⟨rfl, rfl, rfl⟩ := hcs
    simp only [Prod.mk.injEq] at hx
    exact ⟨[], nil_sl W, .inl ⟨hx.1, rfl⟩⟩
  · simp [Value.cells] at hcs
    obtain ⟨rfl, rfl, rfl⟩ := hcs
    simp only [Prod.mk.injEq] at hx
    rw [if_pos rfl] at hz
    have hlen : ((zs.take n).map (fun z => UInt8.ofNat z.toNat)).length = n := by simp; omega
    refine ⟨(zs.take n).map (fun z => UInt8.ofNat z.toNat), ⟨some x, c, by rw [hlen], by rw [hlen]; exact hl, hm, fun hc => ?_⟩, .inr ⟨_, _, hx.1, ?_⟩⟩
    · have h0 := hcell 0 (by omega)
      have hsp := World.cell?_spot h0
      obtain ⟨b, off, sp⟩ := x
      have hsp' : sp = none := by
        cases sp with
        | none => rfl
        | some k => simp [Addr.add] at hsp
      subst hsp'
      refine ⟨b, off, rfl, ?_, fun i hi => ?_⟩
      · rw [addr_add] at h0
        exact World.block_lt_of_cell? W ⟨b, off + 0, none⟩ h0
      · have hi' : i < n := by rw [hlen] at hi; exact hi
        have := hcell i (by omega)
        rw [addr_add] at this
        rw [this]
        have hmem : zs.getD i 0 ∈ zs := by
          rw [List.getD_eq_getElem?_getD, List.getElem?_eq_getElem (by omega)]; exact List.getElem_mem _
        have hb := byte_wf (hwz _ hmem)
        have e : ((zs.take n).map (fun z => UInt8.ofNat z.toNat))[i] = UInt8.ofNat (zs.getD i 0).toNat := by
          simp [List.getD_eq_getElem?_getD, List.getElem?_eq_getElem (show i < zs.length by omega)]
        rw [e]
        show _ = some (Value.int .u8 _)
        rw [← hb]
    · rw [hlen]; simp only [lits, List.length_map, List.length_take, List.length_drop]; omega
theorem Own.form {w : World} {base : Nat} {v : Value} {xs : List UInt8} (h : Own w base v xs) : ∃ ao cap, v = .slice ao xs.length cap ∧ xs.length ≤ cap ∧ cap ≤ 9223372036854775807 ∧ (xs.length ≠ 0 → ∃ g, ao = some ⟨g, 0, none⟩ ∧ base ≤ g ∧ g < w.heap.size ∧ (∀ i, w.frozen? ⟨g, i, none⟩ = false) ∧ ∀ i, (h : i < xs.length) → w.cell? ⟨g, i, none⟩ = some (bv xs[i])) := by
  have hsl := h.sl
  rcases h.2 with ⟨rfl, h0⟩ | ⟨g, cap, cur, rfl, hb, hg, hn, hm, hs, ht⟩
  · exact ⟨none, 0, by rw [h0], by omega, by omega, fun h => absurd h0 h⟩
  · refine ⟨some ⟨g, 0, none⟩, cap, rfl, hn, by unfold maxLen at hm; omega, fun _ => ⟨g, rfl, hb, lt_of_block hg, fun i => by simp [World.frozen?, hg], fun i hi => ?_⟩⟩
    obtain ⟨ao, cap', e, _, _, h4⟩ := hsl
    cases e
    obtain ⟨b, off, e2, _, hc⟩ := h4 (by omega)
    cases e2
    have := hc i hi
    rw [Nat.zero_add] at this
    exact this

theorem own_empty (w : World) : Own (w.alloc (.cells #[] 5)) w.heap.size (.slice (some ⟨w.heap.size, 0, none⟩) 0 0) [] := ⟨rfl, .inr ⟨w.heap.size, 0, #[], rfl, Nat.le_refl _, heap_alloc_new _ _, by simp, by unfold maxLen; omega, by simp, by simp⟩⟩

set_option maxRecDepth 100000 in
set_option maxHeartbeats 16000000 in
theorem Reads.walk (v : Value) (bl : List UInt8) (w : World) (hv : Sl w v bl) (hbl : bl.length ≤ 140737488351232) :
    Calls Try.prog 4 #[v] w fun e w' => e = .returned (.bool true) ∧ Below w.heap.size w w' := by
  have HV := hide hv
  obtain ⟨ao, cap, hve, hvl, hvc, hv4⟩ := hv
  unfold maxLen at hvc
  clear hv4
  have hblI : (bl.length : Int) ≤ 140737488351232 := by omega
  subst hve
  go_enter Try.func4, Try.ntmps4
  go_wp2_with fail
  refine (awake_ok _).mono ?_
  rintro e w1 ⟨rfl, g1⟩
  have G1 := hide g1
  have V1 := hide ((unhide HV).grownN g1)
  clear g1
  go_wp2_with (at_builtin; refine wpList_append_mine rfl (.tmp 11) (.tmp 12) rfl w1.heap.size _ [] rfl (own_empty w1) _ bl rfl ((unhide V1).alloc _) (by simp; omega) (by simp) ?_)
  intro v2 w2 o2 b2
  have O2 : Hid (Own w2 w1.heap.size v2 bl) := hide o2
  have B2 : Hid (Below w1.heap.size w1 w2) := hide (((Below.refl w1.heap.size w1).alloc (Nat.le_refl _) _).trans b2)
  clear o2 b2
  have HS1 : Hid (Sl (w2.alloc (.cells #[.int .u8 7] 5)) (.slice (some ⟨w2.heap.size, 0, none⟩) 1 1) [7]) := hide (Sl.new w2 [7] (by simp [maxLen]) (0, 0))
  go_wp2_with (at_builtin; refine wpList_append_mine rfl (.tmp 13) (.tmp 14) rfl w1.heap.size _ bl rfl (World.ownsRow.alloc (unhide O2) _) _ [7] rfl (unhide HS1) (by simp; omega) (Nat.le_trans (unhide B2).size (by simp)) ?_)
  intro v3 w3 o3 b3
  have B3 : Hid (w1.grownBy w3 none) := hide (grown_of_below (((unhide B2).alloc (unhide B2).size _).trans b3))
  have G3 : Hid (w.grownBy w3 none) := hide ((unhide G1).trans (unhide B3))
  have O3 := hide o3
  obtain ⟨lo, lcap, hv3, hl1, hl2, hl4⟩ := o3.form
  obtain ⟨g, hlo, _, _, _, hcell⟩ := hl4 (by simp)
  subst hlo
  have c7 : w3.cell? ⟨g, bl.length, none⟩ = some (.int .u8 7) := by
    have h := hcell bl.length (by simp)
    exact Eq.trans (by simpa using h) (show some (bv 7) = some (Value.int .u8 7) from rfl)
  have HC7 := hide c7
  have hv3' : v3 = .slice (some ⟨g, 0, none⟩) (bl.length + 1) lcap := by rw [hv3]; simp
  have hl1' : bl.length + 1 ≤ lcap := by simpa using hl1
  have HSl : Hid (Sl w3 (.slice (some ⟨g, 0, none⟩) bl.length lcap) bl) := hide ⟨_, _, rfl, by omega, by unfold maxLen; omega, fun _ => ⟨g, 0, rfl, by
    have := World.block_lt_of_cell? w3 _ c7
    exact this, fun i hi => by
    have h := hcell i (by simp; omega)
    rw [Nat.zero_add, h]
    simp [List.getElem_append_left hi]⟩⟩
  clear o3 b3 hcell hl4 hl1 hv3 O2 B2 HS1 c7
  subst hv3'
  have hlI : (bl.length : Int) + 1 ≤ (lcap : Int) := by omega
  have hlcI : (lcap : Int) ≤ 9223372036854775807 := by omega
  obtain ⟨n, hn⟩ : ∃ n, n = bl.length := ⟨_, rfl⟩
  rw [← hn] at hblI hvl HV V1 HC7 HSl hlI O3 ⊢
  have HN := hide hn
  clear hn
  go_wp2_with fail
  refine (Read_any w3 _ bl (unhide HSl) hbl).mono ?_
  rintro e w4 ⟨g4, h4⟩
  have G4 : Hid (w.grownBy w4 none) := hide ((unhide G3).trans g4)
  have B4 : Hid (w3.grownBy w4 none) := hide g4
  have H4 := hide h4
  clear g4 h4
  rcases unhide H4 with ⟨h4, rfl⟩ | ⟨h4, b4, rfl, m4⟩
  · have HR := hide h4
    clear h4 H4
    go_wp2_with fail
    refine (rRead_any w4 _ bl ((unhide HV).grownN (unhide G4)) hbl).mono ?_
    rintro e w5 ⟨g5, h5⟩
    rcases h5 with ⟨_, rfl⟩ | ⟨h5, _⟩
    · have G5 : Hid (w.grownBy w5 none) := hide ((unhide G4).trans g5)
      have B5 : Hid (w3.grownBy w5 none) := hide ((unhide B4).trans g5)
      have c7 := (unhide B5).cell (unhide HC7) (by simp)
      have st1 : ∀ k, (convert 42 9 (.slice (some ⟨g, 0, none⟩) n lcap)).run Try.prog (w5.drewN k) = .ok (.string ⟨bl.toArray⟩) (w5.drewN k) := fun k => str_of ((unhide HSl).grownN (grown_drewN' (unhide B5) k))
      have st2 : ∀ k, (convert 42 9 (.slice ao n cap)).run Try.prog (w5.drewN k) = .ok (.string ⟨bl.toArray⟩) (w5.drewN k) := fun k => str_of ((unhide HV).grownN (grown_drewN' (unhide G5) k))
      have st1' := str_of ((unhide HSl).grownN (unhide B5))
      have st2' := str_of ((unhide HV).grownN (unhide G5))
      clear g5
      go_wp2_with fail
      go_quiet (fail)
      go_wp2
      go_ret
      exact ⟨by simp, below_of_grown (grown_drewN' (unhide G5) _)⟩
    · exact absurd h5 (unhide HR)
  · have HR := hide h4
    have M4 := hide m4
    clear h4 H4 m4
    go_wp2_with fail
    refine (rRead_any w4 _ bl ((unhide HV).grownN (unhide G4)) hbl).mono ?_
    rintro e w5 ⟨g5, h5⟩
    rcases h5 with ⟨h5, _⟩ | ⟨_, b5, v5, u5, rfl, m5⟩
    · exact absurd (unhide HR) h5
    · have G5 : Hid (w.grownBy w5 none) := hide ((unhide G4).trans g5)
      have B5 : Hid (w3.grownBy w5 none) := hide ((unhide B4).trans g5)
      have M5 := hide ((unhide M4).grown g5 (by simp))
      have R5 := hide m5
      have c7 := (unhide B5).cell (unhide HC7) (by simp)
      have st1 : ∀ k, (convert 42 9 (.slice (some ⟨g, 0, none⟩) n lcap)).run Try.prog (w5.drewN k) = .ok (.string ⟨bl.toArray⟩) (w5.drewN k) := fun k => str_of ((unhide HSl).grownN (grown_drewN' (unhide B5) k))
      have st2 : ∀ k, (convert 42 9 (.slice ao n cap)).run Try.prog (w5.drewN k) = .ok (.string ⟨bl.toArray⟩) (w5.drewN k) := fun k => str_of ((unhide HV).grownN (grown_drewN' (unhide G5) k))
      have st1' := str_of ((unhide HSl).grownN (unhide B5))
      have st2' := str_of ((unhide HV).grownN (unhide G5))
      clear g5 m5 M4
      go_wp2_with fail
      go_quiet (fail)
      go_wp2_with fail
      refine (asked_any _ w4.heap.size b4 b5 (rd bl).1 v5 u5 (rdU bl) (rdU bl) ((unhide M5).grown (grown_drewN' (World.grownBy.refl _ _) _) (by simp)) ((unhide R5).grown (grown_drewN' (World.grownBy.refl _ _) _))).mono ?_
      rintro e w6 ⟨rfl, g6⟩
      have G6 : Hid (w.grownBy w6 none) := hide ((grown_drewN' (unhide G5) _).trans g6)
      clear g6 st1 st2 st1' st2' c7
      go_wp2
      go_ret
      exact ⟨by simp, below_of_grown (unhide G6)⟩

set_option maxRecDepth 100000 in
theorem Reads.lifted (os : Os) (started : os.Started) (H : Type) (enc : TypeId × Value → H) :
    ReturnsInHanded {} Try.checked os 4 .any (Rows.allocReadsSpec.pre6 enc Try.prog Try.f4 Rows.allocReadsRow.domain false) (Rows.allocReadsSpec.post enc Try.prog Try.f4 false true false false) := by
  refine returnsInHanded_of_change_sized (C := Try.checked) own_knob started (by kernel_rfl) Try.func4
    (ChangeSpec.witness6 (enc := enc) (C := Try.checked) false ⟨#[], #[.slice none 0 0], []⟩ 8 (by kernel_rfl) (by kernel_rfl) (by kernel_rfl) (by kernel_rfl)) ?_
  intro W base args ds gs before hval0 hW hcnd hsz0 hholds
  have hval : ∀ (j : Nat) t v, Try.f4.params[j]? = some t → args[j]? = some v → Value.okWide Try.prog W .any base t v := hval0
  have hsz : (DataW.weightsEach Try.prog (Try.f4.params.toList ++ Rows.allocReadsSpec.plain.varTypes Try.prog) (ds ++ gs)).all (· ≤ reachBytes) = true := hsz0
  have hW' := hW
  obtain ⟨p, q, hA0, hV, rfl, hfz, hnd⟩ := hW
  have hA : DataW.TrodAll enc Try.prog W 0 (fun _ => true) true Try.f4.params.toList args.toList ds p := hA0
  rw [Try.params4] at hA hval hsz
  obtain ⟨v1, d1, rfl, rfl, h1⟩ := trodAll_one hA
  obtain ⟨rfl, rfl⟩ := trodVars_none hV
  have k1 := h1
  have lt1 : ∀ x ∈ p, x.block < W.heap.size := by obtain ⟨m, hm⟩ := k1; exact DataW.trod_lt m _ _ _ hm
  obtain ⟨a1, len1, cap1, rfl⟩ := okWide_slice Try.underlying42 (hval 0 42 v1 rfl rfl)
  obtain ⟨l, hl, hd⟩ := open_bytes h1
  have hlen : l.length ≤ 140737488351232 := by
    rcases hd with ⟨_, rfl⟩ | ⟨es, sp, rfl, h⟩
    · simp
    · have := sized_slice hsz (j := 0) (t := 42) (e := 5) rfl rfl Try.underlying42
      rw [Try.bytes5] at this
      simp only [reachBytes] at this
      omega
  clear hA0 hval0 hsz0
  refine (Reads.walk _ l W hl hlen).mono fun e W' ⟨he, bel⟩ => ?_
  subst he
  exact ⟨_, rfl, _, _, _, [], _, [], hW', trodAll_mk1 (shut_bool Try.underlying4 _), trodAll_mk1 (Below.trod laid_out (by kernel_rfl) (of_decide_eq_true (by kernel_rfl)) k1 bel lt1), rfl, bel.frame _, fun h => by cases h⟩

theorem allocReads_holds : Rows.AllocReadsSaid :=
  OpenClaim.holds_of_wide 4 Try.f4 rfl rfl rfl rfl rfl rfl rfl ⟨rfl, rfl, rfl, rfl, rfl⟩ rfl rfl rfl rfl rfl (by kernel_rfl) Try.func4 (by kernel_rfl)
    (of_decide_eq_true (by kernel_rfl)) (by unfold Func.isWrapper; first | (rw [if_pos (by decide +kernel)]; kernel_rfl) | (rw [if_neg (by decide +kernel)]; exact ⟨rfl, rfl⟩))
    (fun os started H enc _ => Reads.lifted os started H enc)
#print axioms allocReads_holds
end Go.Proofs.Ytgdplmbchoogiaa
