/-
  CodecBatches: for every slice of bytes and every batch it returns true, and its arguments read as before. Conditions: none beyond the form's own (the slice takes at most 2^47 - 4096 bytes).
-/
import Derived.Test.YtkikfdbjfhgfoaaRows
import Derived.Test.YtkikfdbjfhgfoaaRdr5
import Derived.Test.YtkikfdbjfhgfoaaRefPutB
import Derived.Test.YtkikfdbjfhgfoaaSameB
import Derived.Test.YtkikfdbjfhgfoaaOpenB
import Derived.Test.YtkikfdbjfhgfoaaOpen
import Derived.OpenShut
namespace Go.Proofs.Ytkikfdbjfhgfoaa
open Go.ChangeShapes Go.WideShapes Go.ChangeAt Go.RowKit
set_option linter.unusedVariables false

theorem put_good {x : Bat} (hf : ∀ e ∈ x.events, fitE e) (h : putE x = 0) : goodB x ∧ (layBt x).length ≤ 2000 := by
  refine ⟨layBt_fit h hf, ?_⟩
  unfold putE at h
  by_cases hb : batE x = 0
  · rw [hb, if_neg (by simp)] at h
    by_cases h20 : 2000 < (layBt x).length
    · rw [if_pos h20] at h; cases h
    · omega
  · rw [if_pos hb] at h; exact absurd h hb
/-- A batch that is read of what was laid is that batch. -/
theorem reads_back {w w' : World} {o : Ending} {x : Bat} (h : Reads w (layBt x) o w') (hg : goodB x) (hl : (layBt x).length ≤ 2000) :
    ∃ a n c, o = .returned (.tuple #[.agg (bt x.stream x.key x.first a n c), .int .i64 0]) ∧ Below w.heap.size w w' ∧ EvL w' (.slice a n c) x.events := by
  obtain ⟨s, k, fi, a, n, c, es, z, rfl, hb, he, h | h⟩ := h
  · obtain ⟨rfl, g1, g2, g3⟩ := h
    have := layBt_inj g1 hg g3
    rw [← this]
    exact ⟨a, n, c, rfl, hb, he⟩
  · exact absurd rfl (h.2.2.2.2.2 x hg hl)
theorem Sl.tail {w : World} (b cap : Nat) (l m : List UInt8) (hb : b < w.heap.size) (h1 : (l ++ m).length ≤ cap) (h2 : cap ≤ 9223372036854775807) (hc : ∀ i, (h : i < (l ++ m).length) → w.cell? ⟨b, 0 + i, none⟩ = some (bv (l ++ m)[i])) : Sl w (.slice (some ⟨b, l.length, none⟩) m.length (cap - l.length)) m := by
  rw [List.length_append] at h1
  refine ⟨_, _, rfl, by omega, by unfold maxLen; omega, fun _ => ⟨b, l.length, rfl, hb, fun i hi => ?_⟩⟩
  have := hc (l.length + i) (by rw [List.length_append]; omega)
  rw [Nat.zero_add] at this
  rw [this, List.getElem_append_right (by omega)]
  simp
set_option maxHeartbeats 8000000 in
set_option maxRecDepth 100000 in
theorem Batches.walk (vb : Value) (l : List UInt8) (s k : List UInt8) (fi : Int) (a : Option Addr) (n c : Nat) (es : List Evn) (w : World) (hb : Sl w vb l) (hl : l.length ≤ 140737488351232) (hs : s.length ≤ 9223372036854775807) (hv : EvL w (.slice a n c) es) (hfit : ∀ e ∈ es, fitE e) :
    Calls Try.prog 3 #[vb, .agg (bt s k fi a n c)] w fun e w' => e = .returned (.bool true) ∧ Below w.heap.size w w' := by
  obtain ⟨bo, bp, rfl, h1, h2, h4⟩ := id hb
  unfold maxLen at h2
  have HVB := hide hb
  have HV := hide hv
  have HF := hide hfit
  clear h4 hb hv hfit
  obtain ⟨z, hz⟩ : ∃ z, putE ⟨s, k, fi, es⟩ = z := ⟨_, rfl⟩
  have HZ := hide hz
  clear hz
  obtain ⟨w0, hw0⟩ : ∃ w0, w0 = w.alloc (.cells (bt s k fi a n c) 25) := ⟨_, rfl⟩
  have b0 : Below w.heap.size w w0 := by rw [hw0]; exact (Below.refl _ _).alloc (Nat.le_refl _) _
  have s0 : w.heap.size < w0.heap.size := by rw [hw0]; simp
  have x0 : w0.cell? ⟨w.heap.size, 0, none⟩ = some (sv s) := by rw [hw0]; simp
  have x1 : w0.cell? ⟨w.heap.size, 1, none⟩ = some (sv k) := by rw [hw0]; simp
  have x2 : w0.cell? ⟨w.heap.size, 2, none⟩ = some (.int .i64 fi) := by rw [hw0]; simp
  have x3 : w0.cell? ⟨w.heap.size, 3, none⟩ = some (.slice a n c) := by rw [hw0]; simp
  have HX : Hid (∀ W, Below w0.heap.size w0 W → W.cell? ⟨w.heap.size, 0, none⟩ = some (sv s) ∧ W.cell? ⟨w.heap.size, 1, none⟩ = some (sv k) ∧ W.cell? ⟨w.heap.size, 2, none⟩ = some (.int .i64 fi) ∧ W.cell? ⟨w.heap.size, 3, none⟩ = some (.slice a n c)) := hide fun W h => ⟨(h.cell (p := ⟨w.heap.size, 0, none⟩) s0).trans x0, (h.cell (p := ⟨w.heap.size, 1, none⟩) s0).trans x1, (h.cell (p := ⟨w.heap.size, 2, none⟩) s0).trans x2, (h.cell (p := ⟨w.heap.size, 3, none⟩) s0).trans x3⟩
  have HW0 := hide hw0
  have HB0 := hide b0
  clear hw0 b0 x0 x1 x2 x3
  go_enter Try.func3, Try.ntmps3
  go_wp2_with fail
  rw [← unhide HW0]
  refine (awake_any _).mono ?_
  rintro e w1 ⟨rfl, b1⟩
  have s1 := b1.size
  have D1 := hide b1
  clear b1
  go_wp2_with fail
  refine (lent_any _ l _ ((unhide HVB).below ((unhide HB0).trans ((unhide D1).mono (by omega))) (Nat.le_refl _)) (by omega)).mono ?_
  rintro e w2 ⟨g2, cap2, rfl, hL2, b2⟩
  have s2 := b2.size
  have D2 := hide ((unhide D1).trans (b2.mono s1))
  have HL2 := hide hL2
  obtain ⟨y0, y1, y2, y3⟩ := unhide HX _ (unhide D2)
  clear hL2 b2 D1
  go_wp2_with fail
  refine (PutBatch_any _ l s k fi a n c es _ (unhide HL2).sl (by omega) hs ((unhide HV).below ((unhide HB0).trans ((unhide D2).mono (by omega))) (Nat.le_refl _)) (unhide HF)).mono ?_
  rintro e w3 ⟨v3, rfl, b3, n3, o3⟩
  rw [unhide HZ] at n3 o3 ⊢
  have s3 := b3.size
  have D3 := hide ((unhide D2).trans (b3.mono (by omega)))
  have HL3 := hide ((unhide HL2).below b3 (Nat.le_refl _))
  clear b3 D2 HL2 y0 y1 y2 y3
  obtain ⟨y0, y1, y2, y3⟩ := unhide HX _ (unhide D3)
  by_cases h0 : z = 0
  · subst h0
    have O3 := o3 rfl
    obtain ⟨gd, gl⟩ := put_good (unhide HF) (unhide HZ)
    obtain ⟨T, hT⟩ : ∃ T, T = layBt ⟨s, k, fi, es⟩ := ⟨_, rfl⟩
    have hTp : 1 ≤ T.length := by
      rw [hT]
      have := (lay_len s.length).1
      simp [layBt, layT]; omega
    rw [← hT] at gl O3
    obtain ⟨N, hN⟩ : ∃ N, N = l.length + T.length := ⟨_, rfl⟩
    obtain ⟨g3, c3, rfl⟩ : ∃ g3 c3, v3 = .slice (some ⟨g3, 0, none⟩) N c3 := by
      rcases O3.2 with ⟨rfl, hz⟩ | ⟨g, cap, cur, rfl, _⟩
      · rw [List.length_append] at hz; omega
      · exact ⟨g, cap, by rw [hN, List.length_append]⟩
    obtain ⟨-, a1, a2, a3, a4, a5, -⟩ := O3.at
    have HT := hide hT
    have HO3 := hide O3
    have HGD := hide gd
    have HN := hide hN
    have hNl : l.length < N := by omega
    have hNc : N ≤ c3 := by rw [List.length_append] at a1; omega
    have hNm : N ≤ 140737488355328 := by omega
    have hne : ¬ c3 = l.length := by omega
    clear n3 o3 O3 gd hT hN
    go_wp2_with fail
    refine (rPutBatch_any s k fi a n c es _ hs ((unhide HV).below ((unhide HB0).trans ((unhide D3).mono (by omega))) (Nat.le_refl _)) (unhide HF)).mono ?_
    rintro e w4 ⟨v4, rfl, b4, o4, n4⟩
    rw [unhide HZ] at o4 n4 ⊢
    have O4 := o4 rfl
    rw [← unhide HT] at O4
    have s4 := b4.size
    have D4 := hide ((unhide D3).trans (b4.mono (by omega)))
    have HL4 := hide ((unhide HL3).below b4 (Nat.le_refl _))
    have HO34 := hide ((unhide HO3).below b4 (Nat.le_refl _))
    have HO4 := hide O4
    clear b4 o4 n4 O4 D3 HL3 y0 y1 y2 y3 a5
    go_wp2_with fail
    refine (held_any _ _ _ l _ (unhide HL4) ((unhide HVB).below ((unhide HB0).trans ((unhide D4).mono (by omega))) (Nat.le_refl _))).mono ?_
    rintro e w5 ⟨rfl, rfl⟩
    obtain ⟨-, a1', a2', a3', a4', a5', -⟩ := (unhide HO34).at
    have HSL : Hid (Sl w4 (.slice (some ⟨g3, l.length, none⟩) (N - l.length) (c3 - l.length)) T) := hide (by
      have := Sl.tail g3 c3 l T a4' a1' a2' a5'
      have e : T.length = N - l.length := by have := unhide HN; omega
      rw [e] at this
      exact this)
    have RB := hide (Batch_any (some ⟨g3, l.length, none⟩) (N - l.length) (c3 - l.length) T w4 (unhide HSL) (by omega))
    clear a1' a5' a4' a3' a2'
    go_wp2_with fail
    refine (unhide RB).mono ?_
    intro o w5 hr5
    rw [unhide HT] at hr5
    obtain ⟨a5, n5, c5, rfl, b5, e5⟩ := reads_back hr5 (unhide HGD) (by rw [← unhide HT]; exact gl)
    clear hr5
    have s5 := b5.size
    have D5 := hide ((unhide D4).trans (b5.mono (by omega)))
    have B6 : Below w5.heap.size w5 (w5.alloc (.cells (bt s k fi a5 n5 c5) 25)) := (Below.refl _ _).alloc (Nat.le_refl _) _
    obtain ⟨w6, hw6⟩ : ∃ w6, w6 = w5.alloc (.cells (bt s k fi a5 n5 c5) 25) := ⟨_, rfl⟩
    rw [← hw6] at B6
    have s6 := B6.size
    have D6 := hide ((unhide D5).trans (B6.mono (by omega)))
    have HE6 := hide (e5.below B6 (Nat.le_refl _))
    have HO6 := hide (((unhide HO34).below b5 (Nat.le_refl _)).below B6 (Nat.le_refl _))
    have HO46 := hide (((unhide HO4).below b5 (Nat.le_refl _)).below B6 (Nat.le_refl _))
    obtain ⟨y0, y1, y2, y3⟩ := unhide HX _ (unhide D5)
    have s05 : w.heap.size < w5.heap.size := by omega
    have q0 : w6.cell? ⟨w5.heap.size, 0, none⟩ = some (sv s) := by rw [hw6]; simp
    have q1 : w6.cell? ⟨w5.heap.size, 1, none⟩ = some (sv k) := by rw [hw6]; simp
    have q2 : w6.cell? ⟨w5.heap.size, 2, none⟩ = some (.int .i64 fi) := by rw [hw6]; simp
    have q3 : w6.cell? ⟨w5.heap.size, 3, none⟩ = some (.slice a5 n5 c5) := by rw [hw6]; simp
    have HW6 := hide hw6
    have HS : Hid (ans ((⟨s, k, fi, es⟩ : Bat) = ⟨s, k, fi, es⟩) = true) := hide (ans_true rfl)
    have SB : Hid (Calls Try.prog 11 #[.agg (bt s k fi a n c), .agg (bt s k fi a5 n5 c5)] w6 fun e w' => e = .returned (.bool true) ∧ Below w6.heap.size w6 w') := hide (by
      have := SameBatch_any s k s k fi fi a a5 n c n5 c5 es es w6 ((unhide HV).below ((unhide HB0).trans ((unhide D6).mono (by omega))) (Nat.le_refl _)) (unhide HE6)
      rw [unhide HS] at this
      exact this)
    clear b5 e5 B6 hw6 HO34 HO4 D4 D5 HS RB HSL
    go_wp2_with fail
    rw [← unhide HW6]
    refine (unhide SB).mono ?_
    rintro e w7 ⟨rfl, b7⟩
    have s7 := b7.size
    have D7 := hide ((unhide D6).trans (b7.mono (by omega)))
    have HO7 := hide ((unhide HO6).below b7 (Nat.le_refl _))
    have HO47 := hide ((unhide HO46).below b7 (Nat.le_refl _))
    clear b7 y0 y1 y2 y3 q0 q1 q2 q3
    go_wp2_with fail
    refine (behind_any w2.heap.size g3 N c3 _ _ l T _ (unhide HO7) ((unhide HVB).below ((unhide HB0).trans ((unhide D7).mono (by omega))) (Nat.le_refl _)) (unhide HO47).sl (by have := unhide HN; omega)).mono ?_
    rintro e w8 ⟨rfl, b8⟩
    have D8 := hide ((unhide HB0).trans (((unhide D7).trans (b8.mono (by omega))).mono (by omega)))
    clear b8
    go_wp2
    go_ret
    exact ⟨rfl, unhide D8⟩
  · have e3 := n3 h0
    subst e3
    have hne : (z != 0) = true := by rw [bne_iff_ne]; exact h0
    have heq : (z == z) = true := beq_self_eq_true _
    clear n3 o3
    go_wp2_with fail
    refine (rPutBatch_any s k fi a n c es _ hs ((unhide HV).below ((unhide HB0).trans ((unhide D3).mono (by omega))) (Nat.le_refl _)) (unhide HF)).mono ?_
    rintro e w4 ⟨v4, rfl, b4, o4, n4⟩
    rw [unhide HZ] at o4 n4 ⊢
    have s4 := b4.size
    have D4 := hide ((unhide D3).trans (b4.mono (by omega)))
    have HL4 := hide ((unhide HL3).below b4 (Nat.le_refl _))
    have e4 := n4 h0
    subst e4
    clear b4 o4 n4 D3 HL3 y0 y1 y2 y3 h0
    go_wp2_with fail
    refine (held_any _ _ _ l _ (unhide HL4) ((unhide HVB).below ((unhide HB0).trans ((unhide D4).mono (by omega))) (Nat.le_refl _))).mono ?_
    rintro e w5 ⟨rfl, rfl⟩
    have D5 := hide ((unhide HB0).trans ((unhide D4).mono (by omega)))
    go_wp2
    go_ret
    exact ⟨rfl, unhide D5⟩

set_option maxRecDepth 100000 in
theorem Batches.lifted (os : Os) (started : os.Started) (H : Type) (enc : TypeId × Value → H) :
    ReturnsInHanded {} Try.checked os 3 .any (Rows.codecBatchesSpec.pre6 enc Try.prog Try.f3 Rows.codecBatchesRow.domain false) (Rows.codecBatchesSpec.post enc Try.prog Try.f3 false true false false) := by
  refine returnsInHanded_of_change_sized (C := Try.checked) own_knob started (by kernel_rfl) Try.func3
    (ChangeSpec.witness6 (enc := enc) (C := Try.checked) false ⟨#[], #[.slice none 0 0, .agg #[.string ⟨#[]⟩, .string ⟨#[]⟩, .int .i64 0, .slice none 0 0]], []⟩ 8 (by kernel_rfl) (by kernel_rfl) (by kernel_rfl) (by kernel_rfl)) ?_
  intro W base args ds gs before hval0 hW hcnd hsz0 hholds
  have hval : ∀ (j : Nat) t v, Try.f3.params[j]? = some t → args[j]? = some v → Value.okWide Try.prog W .any base t v := hval0
  have hsz : (DataW.weightsEach Try.prog (Try.f3.params.toList ++ Rows.codecBatchesSpec.plain.varTypes Try.prog) (ds ++ gs)).all (· ≤ reachBytes) = true := hsz0
  have hW' := hW
  obtain ⟨p, q, hA0, hV, rfl, hfz, hnd⟩ := hW
  have hA : DataW.TrodAll enc Try.prog W 0 (fun _ => true) true Try.f3.params.toList args.toList ds p := hA0
  rw [Try.params3] at hA hval hsz
  obtain ⟨v0, v1, d0, d1, p0, p1, rfl, rfl, rfl, h0, h1⟩ := trodAll_two hA
  obtain ⟨rfl, rfl⟩ := trodVars_none hV
  obtain ⟨a0, len0, cap0, rfl⟩ := okWide_slice Try.underlying22 (hval 0 22 v0 rfl rfl)
  have k0 := h0
  have k1 := h1
  have lt0 : ∀ x ∈ p0, x.block < W.heap.size := by obtain ⟨m, hm⟩ := k0; exact DataW.trod_lt m _ _ _ hm
  have lt1 : ∀ x ∈ p1, x.block < W.heap.size := by obtain ⟨m, hm⟩ := k1; exact DataW.trod_lt m _ _ _ hm
  obtain ⟨l, hl, hd⟩ := open_bytes h0
  have hlen : l.length ≤ 140737488351232 := by
    rcases hd with ⟨_, rfl⟩ | ⟨es, sp, rfl, h⟩
    · simp
    · have := sized_slice hsz (j := 0) (t := 22) (e := 5) rfl rfl Try.underlying22
      rw [Try.bytes5] at this
      simp only [reachBytes] at this
      omega
  obtain ⟨s, k, fi, a, n, c, es, rfl, e1, e2, e3⟩ := open_batch (hval 1 25 v1 rfl rfl) h1
  clear hA0 hval0 hsz0
  refine (Batches.walk _ l s k fi a n c es W hl hlen e1 e2 e3).mono fun e W' ⟨he, bel⟩ => ?_
  subst he
  exact ⟨_, rfl, _, _, _, [], _, [], hW', trodAll_mk1 (shut_bool Try.underlying4 _), (trodAll_cons_mk (Below.trod laid_out (by kernel_rfl) (of_decide_eq_true (by kernel_rfl)) k0 bel lt0) (trodAll_cons_mk (Below.trod laid_out (by kernel_rfl) (of_decide_eq_true (by kernel_rfl)) k1 bel lt1) trodAll_mk0)), rfl, bel.frame _, fun h => by cases h⟩

theorem codecBatches_holds : Rows.CodecBatchesSaid :=
  OpenClaim.holds_of_wide 3 Try.f3 rfl rfl rfl rfl rfl rfl rfl ⟨rfl, rfl, rfl, rfl, rfl⟩ rfl rfl rfl rfl rfl (by kernel_rfl) Try.func3 (by kernel_rfl)
    (of_decide_eq_true (by kernel_rfl)) (by unfold Func.isWrapper; first | (rw [if_pos (by decide +kernel)]; kernel_rfl) | (rw [if_neg (by decide +kernel)]; exact ⟨rfl, rfl⟩))
    (fun os started H enc _ => Batches.lifted os started H enc)
#print axioms codecBatches_holds
end Go.Proofs.Ytkikfdbjfhgfoaa
