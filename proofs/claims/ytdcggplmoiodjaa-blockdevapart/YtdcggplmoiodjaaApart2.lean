/-
  BlockdevApart: for all ints, every bool and every slice of ints it returns true, and its arguments read as before. Conditions: none.
-/
import Derived.Test.YtdcggplmoiodjaaDcopy
import Derived.Test.YtdcggplmoiodjaaDcalls
namespace Go.Proofs.Ytdcggplmoiodjaa
open Go.ChangeShapes Go.WideShapes Go.ChangeAt Go.RowKit
set_option linter.unusedVariables false

theorem sl_row {w : World} {q : Nat} {L : List UInt8} {t : TypeId} {fr : Nat × Nat} (h : w.heap[q]? = some (.cells (L.map bv).toArray t fr)) (hL : L.length = 512) (k : Nat) (hk : k ≤ 512) : Sl w (.slice (some ⟨q, 0, none⟩) k 512) (L.take k) := by
  have hl : (L.take k).length = k := by rw [List.length_take, hL]; omega
  refine ⟨some ⟨q, 0, none⟩, 512, by rw [hl], by rw [hl]; exact hk, by unfold maxLen; omega, fun _ => ⟨q, 0, rfl, lt_of_block h, fun i hi => ?_⟩⟩
  rw [hl] at hi
  rw [cell_of_row _ _ _ _ _ _ h, Nat.zero_add]
  simp [List.getElem?_eq_getElem (show i < L.length by omega)]

theorem one_head (x : UInt8) : (headL ⟨#[111, 110, 101]⟩ (fillL x 512)).take 3 = [111, 110, 101] := by
  unfold headL
  have h5 := fillL_len x 512 (Nat.le_refl _)
  rw [h5]
  rfl

/-- One write of one block. -/
theorem once_keys (k : Nat) (hk : k < 64) (L : List UInt8) : ((St.new 64).burn.wrote k L).burn.keys = [k] := by
  refine keys_one (by show k < (List.replicate 64 _).length; rw [List.length_replicate]; exact hk) ?_ ?_
  · show putP (fun _ => []) k L k ≠ []
    simp [putP]
  · intro j hj
    show putP (fun _ => []) k L j = []
    simp [putP, hj]
theorem once_new (k : Nat) (L : List UInt8) : ((St.new 64).burn.wrote k L).newest k = L := by
  show ((putP (fun _ => []) k L k).getLast?).getD _ = L
  simp [putP]
theorem once_crash (k : Nat) (hk : k < 64) (L : List UInt8) : (((St.new 64).burn.wrote k L).burn.crash [1]).newest k = L := by
  have hl : k < (((St.new 64).burn.wrote k L).burn).safe.length := by show k < (List.replicate 64 _).length; rw [List.length_replicate]; exact hk
  have hp : (((St.new 64).burn.wrote k L).burn).pend k = [L] := by show putP (fun _ => []) k L k = [L]; simp [putP]
  rw [St.newest_crash, crash_one hl (by rw [hp]; simp) (fun j hj => by show putP (fun _ => []) k L j = []; simp [putP, hj]), List.getElem?_set_self hl, Option.getD_some]
  unfold St.keptB
  rw [hp]
  rfl

set_option maxRecDepth 100000 in
set_option maxHeartbeats 6400000 in
theorem Apart.walk (n fill : Int) (fl : Bool) (u : Value) (ps : List Int) (w : World) (hu : Ints w u ps) (hn : I64 n) (hf : I64 fill) (huo : ps ≠ [] → ∀ pb, u.ownBlock = some pb → pb < w.heap.size) :
    Calls Try.prog 7 #[.int .i64 n, .int .i64 fill, .bool fl, u] w fun e w' => e = .returned (.bool true) ∧ Below w.heap.size w w' := by
  obtain ⟨L, hL⟩ : ∃ L, L = headL ⟨#[111, 110, 101]⟩ (fillL (UInt8.ofNat (pickR fill 255)) 512) := ⟨_, rfl⟩
  obtain ⟨M, hM⟩ : ∃ M, M = headL ⟨#[116, 119, 111]⟩ (fillL (UInt8.ofNat (pickR fill 255)) 512) := ⟨_, rfl⟩
  have cB1 := fun W => Block_sl fill ⟨#[111, 110, 101]⟩ W hf.1 hf.2
  have cB2 := fun W => Block_sl fill ⟨#[116, 119, 111]⟩ W hf.1 hf.2
  have hL5 : L.length = 512 := by rw [hL]; exact headL_len _ _
  have hM5 : M.length = 512 := by rw [hM]; exact headL_len _ _
  have hL3 : L.take 3 = [111, 110, 101] := by rw [hL]; exact one_head _
  rw [← hL] at cB1
  rw [← hM] at cB2
  have HB1 := hide cB1
  have HB2 := hide cB2
  have HU := hide hu
  have HUO := hide huo
  have HL3 := hide hL3
  clear cB1 cB2 hL hM hu huo hL3
  go_enter Try.func7, Try.ntmps7
  go_wp2_with fail
  refine (awake_any _).mono ?_
  rintro e w1 ⟨rfl, b1⟩
  have s1 := b1.size
  have K1 := hide b1
  clear b1
  go_wp2_with fail
  refine (New_dev 64 w1 (by omega) (by omega)).mono ?_
  rintro e w2 ⟨rfl, d2, b2⟩
  have s2 := b2.size
  have H2 := hide d2
  have K2 := hide ((unhide K1).trans (b2.mono s1))
  clear d2 b2
  go_wp2_with fail
  refine (Pick_eq n 63 w2 hn.1 hn.2 (by omega)).mono ?_
  rintro e w3' ⟨rfl, rfl⟩
  obtain ⟨k, hk⟩ : ∃ k, k = pickR n 63 := ⟨_, rfl⟩
  have hk4 : k < 64 := by rw [hk]; exact pickR_lt n 63
  rw [← hk]
  clear hk
  obtain ⟨b, hb⟩ : ∃ b, b = w1.heap.size + 2 := ⟨_, rfl⟩
  rw [← hb] at H2 ⊢
  clear hb
  go_wp2_with fail
  refine (unhide HB1 w2).mono ?_
  rintro e w3 ⟨rfl, l3, b3⟩
  have s3 := b3.size
  have H3 := hide ((unhide H2).grown b3)
  have L3 := hide l3
  have K3 := hide ((unhide K2).trans (b3.mono (by omega)))
  clear l3 b3
  go_wp2_with fail
  refine (Write_own (base := w.heap.size) (unhide H3) (fun x hx => ⟨by have := hx.1; omega, by have := hx.2; omega⟩) (by omega) k L _ (by show k < (List.replicate 64 _).length; rw [List.length_replicate]; exact hk4) rfl rfl (unhide L3) hL5 (by omega)).mono ?_
  rintro e w4 ⟨rfl, ⟨F4, f4, _, d4⟩, k4⟩
  have s4 := k4.size
  have H4 := hide d4
  have G4 := hide f4
  have K4 := hide ((unhide K3).trans (k4.below (by omega) fun x hx => by have := hx.1; omega))
  clear d4 f4 k4
  go_wp2_with fail
  refine (Copy_dev (unhide H4) (by omega)).mono ?_
  rintro e w5 ⟨c, rfl, d5, b5⟩
  have s5 := b5.size
  have H5 := hide ((unhide H4).grown b5)
  have C5 := hide d5
  have K5 := hide ((unhide K4).trans (b5.mono (by omega)))
  clear d5 b5
  go_wp2_with fail
  refine (unhide HB2 w5).mono ?_
  rintro e w6 ⟨rfl, l6, b6⟩
  have s6 := b6.size
  have H6 := hide ((unhide H5).grown b6)
  have C6 := hide ((unhide C5).grown b6)
  have L6 := hide l6
  have K6 := hide ((unhide K5).trans (b6.mono (by omega)))
  clear l6 b6
  go_wp2_with fail
  refine (Write_own (base := w4.heap.size) (unhide C6) (fun x hx => ⟨hx.1, by have := hx.2; omega⟩) (by omega) k M _ (by show k < (List.replicate 64 _).length; rw [List.length_replicate]; exact hk4) rfl rfl (unhide L6) hM5 (by omega)).mono ?_
  rintro e w7 ⟨rfl, ⟨F7, f7, _, d7⟩, k7⟩
  have s7 := k7.size
  have H7 := hide ((unhide H6).frame (w' := w7) fun x hx hxl => k7.block x hxl fun hc => by have := hc.1; have := (unhide G4 x hx).2; omega)
  have C7 := hide d7
  have G7 := hide f7
  have K7 := hide ((unhide K6).trans (k7.below (by omega) fun x hx => by have := hx.1; omega))
  clear d7 f7 k7
  -- what stands behind c's flush, or none
  have HFL : Hid (∀ w8, Dev w8 b F4 2 ((St.new 64).burn.wrote k L) → (∃ S8, Dev w8 c F7 10 S8) → w7.heap.size ≤ w8.heap.size → Below w.heap.size w w8 →
      Calls Try.prog 16 #[.pointer (some ⟨c, 0, none⟩), u] w8 fun e w9 => e = .returned (.tuple #[]) ∧ Dev w9 b F4 2 ((St.new 64).burn.wrote k L) ∧ w8.heap.size ≤ w9.heap.size ∧ Below w.heap.size w w9) := hide fun w8 h8 ⟨S8, c8⟩ sz8 k8 => by
    refine (Crash_dev c8 (by omega) ps u ((unhide HU).below k8 (Nat.le_refl _)) (fun hne pb hpb hf => by have := unhide HUO hne pb hpb; have := (unhide G7 pb hf).1; omega)).mono ?_
    rintro e w9 ⟨rfl, d9, k9⟩
    exact ⟨rfl, h8.frame (fun x hx hxl => k9.block x hxl fun hc => by have := (unhide G7 x hc).1; have := (unhide G4 x hx).2; omega), k9.size, k8.trans (k9.below k8.size fun x hx => by have := (unhide G7 x hx).1; omega)⟩
  have HEND : Hid (∀ w9, Dev w9 b F4 2 ((St.new 64).burn.wrote k L) → w7.heap.size ≤ w9.heap.size → Below w.heap.size w w9 →
      Calls Try.prog 23 #[.pointer (some ⟨b, 0, none⟩), .int .i64 k] w9 fun e w10 => ∃ q, e = .returned (.tuple #[.slice (some ⟨q, 0, none⟩) 512 512, .int .i64 0]) ∧ w9.heap.size ≤ q ∧ w10.heap[q]? = some (.cells (L.map bv).toArray 68 (0, 0)) ∧ Dev w10 b F4 3 ((St.new 64).burn.wrote k L).burn ∧ w9.heap.size ≤ w10.heap.size ∧ Below w.heap.size w w10) := hide fun w9 h9 sz9 k9 => by
    refine (Read_dev h9 k (by show k < (List.replicate 64 _).length; rw [List.length_replicate]; exact hk4) rfl rfl (by omega)).mono ?_
    rintro e w10 ⟨q, rfl, hq, hr, d10, k10⟩
    rw [once_new] at hr
    exact ⟨q, rfl, hq, hr, d10, k10.size, k9.trans (k10.below k9.size fun x hx => (unhide G4 x hx).1)⟩
  cases fl
  case' false =>
    go_wp2_with fail
    refine (unhide HFL w7 (unhide H7) ⟨_, (unhide C7).mono (fun _ h => h) (by omega)⟩ (Nat.le_refl _) (unhide K7)).mono ?_
    rintro e w9 ⟨rfl, d9, sz9, k9⟩
  case' true =>
    go_wp2_with fail
    refine (Flush_dev (unhide C7) rfl rfl (by omega)).mono ?_
    rintro e w8 ⟨rfl, d8, k8⟩
    have HC8 := hide (unhide HFL w8 ((unhide H7).frame (fun x hx hxl => k8.block x hxl fun hc => by have := (unhide G7 x hc).1; have := (unhide G4 x hx).2; omega)) ⟨_, d8.mono (fun _ h => h) (by omega)⟩ k8.size ((unhide K7).trans (k8.below (by omega) fun x hx => by have := (unhide G7 x hx).1; omega)))
    have sz8 := k8.size
    clear d8 k8
    go_wp2_with fail
    refine (unhide HC8).mono ?_
    rintro e w9 ⟨rfl, d9, sz9', k9⟩
    have sz9 : w7.heap.size ≤ w9.heap.size := by omega
    clear sz9' HC8 sz8
  all_goals
    have HE := hide (unhide HEND w9 d9 sz9 k9)
    have s9 := k9.size
    clear d9 k9
    go_wp2_with fail
    refine (unhide HE).mono ?_
    rintro e w10 ⟨q10, rfl, hq10, hr10, d10, sz10, k10⟩
    have q10l : q10 < w10.heap.size := lt_of_block hr10
    obtain ⟨g11, c11, m11, vf11, D11, e11⟩ := d10
    have H10 : Hid (Dev w10 b F4 3 ((St.new 64).burn.wrote k L).burn) := hide ⟨_, _, _, _, _, e11⟩
    have R10 := hide hr10
    have K10 := hide k10
    have P10 := hide (Pending_form e11 (by omega))
    clear hr10 k10 e11
    go_wp2_with fail
    refine (unhide P10).mono ?_
    rintro e w11 ⟨ao11, cap11, rfl, ha11, b11⟩
    have ek := once_keys k hk4 L
    obtain ⟨q11, rfl, hq11, q11l, hc11⟩ := ha11 0 (by rw [ek]; exact Nat.zero_lt_one)
    have hc11' : w11.cell? ⟨q11, 0, none⟩ = some (.int .i64 (k : Nat)) := by
      have e0 : ((((St.new 64).burn.wrote k L).burn).keys)[0]'(by rw [ek]; exact Nat.zero_lt_one) = k := by simp [ek]
      rw [e0] at hc11
      exact hc11
    rw [ek]
    have s11 := b11.size
    have H11 := hide ((unhide H10).grown b11)
    have R11 := hide ((b11.block q10 q10l).trans (unhide R10))
    have K11 := hide ((unhide K10).trans (b11.mono (by omega)))
    have C11 := hide hc11'
    clear ha11 hc11 hc11' b11 ek P10
    go_wp2_with fail
    have b12 : Below w11.heap.size w11 (w11.alloc (.cells #[.int .i64 1] 3)) := (Below.refl _ _).alloc (Nat.le_refl _) _
    have i12 : Ints (w11.alloc (.cells #[.int .i64 1] 3)) (.slice (some ⟨w11.heap.size, 0, none⟩) 1 1) [1] := by
      refine ⟨_, _, rfl, by simp, by simp, fun _ => ⟨w11.heap.size, 0, rfl, by simp, fun i hi => ?_⟩⟩
      have : i = 0 := by simp at hi; omega
      subst this
      simp
    refine (Crash_dev ((unhide H11).grown b12) (by omega) [1] _ i12 (fun _ pb hpb hf => by cases hpb; have h2 : w11.heap.size < w4.heap.size := (unhide G4 _ hf).2; omega)).mono ?_
    rintro e w13 ⟨rfl, d13, k13⟩
    have s13 : w11.heap.size + 1 ≤ w13.heap.size := by have := k13.size; simpa using this
    have nF : ∀ x, w4.heap.size ≤ x → ¬ F4 x := fun x hx hfx => by have := (unhide G4 _ hfx).2; omega
    have R13 := hide ((k13.block q10 (by simp; omega) (nF _ (by omega))).trans ((b12.block q10 (by omega)).trans (unhide R11)))
    have C13 : Hid (w13.cell? ⟨q11, 0, none⟩ = some (.int .i64 (k : Nat))) := hide ((World.cell?_of_block (a := ⟨q11, 0, none⟩) (k13.block q11 (by simp; omega) (nF _ (by omega)))).trans ((b12.cell (p := ⟨q11, 0, none⟩) q11l).trans (unhide C11)))
    have K13 := hide ((unhide K11).trans ((b12.mono (by omega)).trans (k13.below (by simp; omega) fun x hx => (unhide G4 x hx).1)))
    have H13 := hide d13
    clear d13 k13 b12 i12
    go_wp2_with fail
    have el : k < ((((St.new 64).burn.wrote k L).burn).crash [1]).safe.length := by show k < (St.crashTo _ _ _).length; rw [St.crashTo_len]; show k < (List.replicate 64 _).length; rw [List.length_replicate]; exact hk4
    refine (Read_dev (unhide H13) k el rfl rfl (by omega)).mono ?_
    rintro e w14 ⟨q14, rfl, hq14, hr14, d14, k14⟩
    rw [once_crash k hk4 L] at hr14
    have r10 := (k14.block q10 (by omega) (nF _ (by omega))).trans (unhide R13)
    have c14 : w14.cell? ⟨q11, 0, none⟩ = some (.int .i64 (k : Nat)) := (World.cell?_of_block (a := ⟨q11, 0, none⟩) (k14.block q11 (by omega) (nF _ (by omega)))).trans (unhide C13)
    have v1 := (sl_row r10 hL5 3 (by omega)).str
    rw [unhide HL3] at v1
    have v2 := (sl_row r10 hL5 512 (by omega)).str
    have v3 := (sl_row hr14 hL5 512 (by omega)).str
    rw [List.take_of_length_le (by omega)] at v2 v3
    have K14 := hide ((unhide K13).trans (k14.below (by omega) fun x hx => (unhide G4 x hx).1))
    clear d14 k14 hr14 r10 nF el
    go_wp2
    go_ret
    exact ⟨by simp, unhide K14⟩

set_option maxRecDepth 100000 in
theorem Apart.lifted (os : Os) (started : os.Started) (H : Type) (enc : TypeId × Value → H) :
    ReturnsInHanded {} Try.checked os 7 .any (Rows.blockdevApartSpec.pre6 enc Try.prog Try.f7 Rows.blockdevApartRow.domain false) (Rows.blockdevApartSpec.post enc Try.prog Try.f7 false true false false) := by
  refine returnsInHanded_of_change (C := Try.checked) own_knob started (by kernel_rfl) Try.func7
    (ChangeSpec.witness6 (enc := enc) (C := Try.checked) false ⟨#[], #[.int .i64 0, .int .i64 0, .bool false, .slice none 0 0], []⟩ 8 (by kernel_rfl) (by kernel_rfl) (by kernel_rfl) (by kernel_rfl)) ?_
  intro W base args ds gs before hval0 hW hcnd _
  have hval : ∀ (j : Nat) t v, Try.f7.params[j]? = some t → args[j]? = some v → Value.okWide Try.prog W .any base t v := hval0
  have hW' := hW
  obtain ⟨p, q, hA0, hV, rfl, hfz, hnd⟩ := hW
  have hA : DataW.TrodAll enc Try.prog W 0 (fun _ => true) true Try.f7.params.toList args.toList ds p := hA0
  rw [Try.params7] at hA hval
  obtain ⟨v0, v1, v2, v3, d0, d1, d2, d3, p0, p1, p2, p3, rfl, rfl, rfl, h0, h1, h2, h3⟩ := trodAll_four hA
  obtain ⟨rfl, rfl⟩ := trodVars_none hV
  obtain ⟨a0, rfl, rfl, rfl, w0⟩ := open_int Try.underlying3 (hval 0 3 v0 rfl rfl) h0
  obtain ⟨a1, rfl, rfl, rfl, w1⟩ := open_int Try.underlying3 (hval 1 3 v1 rfl rfl) h1
  obtain ⟨a2, rfl, rfl, rfl⟩ := open_bool Try.underlying4 (hval 2 4 v2 rfl rfl) h2
  have k3 := h3
  have lt3 : ∀ x ∈ p3, x.block < W.heap.size := by obtain ⟨m, hm⟩ := k3; exact DataW.trod_lt m _ _ _ hm
  obtain ⟨a3, len3, cap3, rfl⟩ := okWide_slice Try.underlying35 (hval 3 35 v3 rfl rfl)
  obtain ⟨ps, hps⟩ := open_intl h3
  have b0 := bounds_i64 w0
  have b1 := bounds_i64 w1
  have B0 : I64 a0 := ⟨by omega, by omega⟩
  have B1 : I64 a1 := ⟨by omega, by omega⟩
  have hpo : ps ≠ [] → ∀ pb, (Value.slice a3 len3 cap3).ownBlock = some pb → pb < W.heap.size := by
    obtain ⟨ao, cp, e, _, _, hc⟩ := hps
    cases e
    intro hne pb hpb
    obtain ⟨pb', off, e', hlt, _⟩ := hc hne
    subst e'
    cases hpb
    exact hlt
  clear hA0 hval0
  refine (Apart.walk a0 a1 a2 _ ps W hps B0 B1 hpo).mono fun e W' ⟨he, bel⟩ => ?_
  subst he
  exact ⟨_, rfl, _, _, _, [], _, [], hW', trodAll_mk1 (shut_bool Try.underlying4 _), (trodAll_cons_mk (shut_int Try.underlying3 w0) (trodAll_cons_mk (shut_int Try.underlying3 w1) (trodAll_cons_mk (shut_bool Try.underlying4 _) (trodAll_cons_mk (Below.trod laid_out (by kernel_rfl) (of_decide_eq_true (by kernel_rfl)) k3 bel lt3) trodAll_mk0)))), rfl, bel.frame _, fun h => by cases h⟩

theorem blockdevApart_holds : Rows.BlockdevApartSaid :=
  OpenClaim.holds_of_wide 7 Try.f7 rfl rfl rfl rfl rfl rfl rfl ⟨rfl, rfl, rfl, rfl, rfl⟩ rfl rfl rfl rfl rfl (by kernel_rfl) Try.func7 (by kernel_rfl)
    (of_decide_eq_true (by kernel_rfl)) (by unfold Func.isWrapper; first | (rw [if_pos (by decide +kernel)]; kernel_rfl) | (rw [if_neg (by decide +kernel)]; exact ⟨rfl, rfl⟩))
    (fun os started H enc _ => Apart.lifted os started H enc)
#print axioms blockdevApart_holds
end Go.Proofs.Ytdcggplmoiodjaa
