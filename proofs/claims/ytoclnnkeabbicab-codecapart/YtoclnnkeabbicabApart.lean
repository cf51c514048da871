/-
  CodecApart: for every two batches it returns true, and its arguments read as before. Conditions: none beyond the form's own.
-/
import Derived.Test.YtoclnnkeabbicabRows
import Derived.Test.YtoclnnkeabbicabOpenB
import Derived.Test.YtoclnnkeabbicabBat2
import Derived.Test.YtoclnnkeabbicabSameB
import Derived.OpenShut
namespace Go.Proofs.Ytoclnnkeabbicab
open Go.ChangeShapes Go.WideShapes Go.ChangeAt Go.RowKit
set_option linter.unusedVariables false

theorem PutBatch_as (s k : List UInt8) (fi : Int) (a : Option Addr) (n c : Nat) (es : List Evn) (z : Int) (w : World) (hs : s.length ≤ 9223372036854775807) (hv : EvL w (.slice a n c) es) (hfit : ∀ e ∈ es, fitE e) (hz : putE ⟨s, k, fi, es⟩ = z) :
    Calls Try.prog 6 #[.slice none 0 0, .agg (bt s k fi a n c)] w fun e w' => ∃ a' m c', e = .returned (.tuple #[.slice a' m c', .int .i64 z]) ∧ Below w.heap.size w w' ∧ (z = 0 → Own w' w.heap.size (.slice a' m c') (layBt ⟨s, k, fi, es⟩)) := by
  subst hz
  refine (PutBatch_any (.slice none 0 0) [] s k fi a n c es w (nil_sl w) (by simp) hs hv hfit).mono ?_
  rintro e w' ⟨v', rfl, h1, h2, h3⟩
  by_cases hz : putE ⟨s, k, fi, es⟩ = 0
  · have h4 := h3 hz
    obtain ⟨a', m, c', rfl⟩ := own_slice h4
    exact ⟨a', m, c', rfl, h1, fun _ => h4⟩
  · rw [h2 hz]
    exact ⟨none, 0, 0, rfl, h1, fun h => absurd h hz⟩

theorem put_zero {x : Bat} (h : putE x = 0) : okBatch x ∧ okAll x := by
  unfold putE at h
  by_cases hz : batE x = 0
  · exact batE_zero hz
  · rw [if_pos hz] at h; exact absurd h hz

set_option maxHeartbeats 4000000 in
theorem Apart.walk (s k : List UInt8) (fi : Int) (a : Option Addr) (n c : Nat) (es : List Evn) (s' k' : List UInt8) (fi' : Int) (a' : Option Addr) (n' c' : Nat) (gs : List Evn) (w : World)
    (hs : s.length ≤ 9223372036854775807) (hs' : s'.length ≤ 9223372036854775807) (hv : EvL w (.slice a n c) es) (hv' : EvL w (.slice a' n' c') gs) (hfit : ∀ e ∈ es, fitE e) (hfit' : ∀ e ∈ gs, fitE e) :
    Calls Try.prog 3 #[.agg (bt s k fi a n c), .agg (bt s' k' fi' a' n' c')] w fun e w' => e = .returned (.bool true) ∧ Below w.heap.size w w' := by
  obtain ⟨z, hz⟩ : ∃ z, putE ⟨s, k, fi, es⟩ = z := ⟨_, rfl⟩
  obtain ⟨z', hz'⟩ : ∃ z', putE ⟨s', k', fi', gs⟩ = z' := ⟨_, rfl⟩
  have HZ := hide (And.intro hz hz')
  have HV := hide (And.intro hv hv')
  have HF := hide (And.intro hfit hfit')
  clear hz hz' hv hv' hfit hfit'
  obtain ⟨w0, hw0⟩ : ∃ w0, w0 = (w.alloc (.cells (bt s k fi a n c) 24)).alloc (.cells (bt s' k' fi' a' n' c') 24) := ⟨_, rfl⟩
  have b0 : Below w.heap.size w w0 := by rw [hw0]; exact ((Below.refl w.heap.size w).alloc (Nat.le_refl _) _).alloc (by simp) _
  have s0 : w.heap.size + 1 < w0.heap.size := by rw [hw0]; simp
  have x0 : w0.cell? ⟨w.heap.size, 0, none⟩ = some (sv s) := by rw [hw0]; simp
  have x1 : w0.cell? ⟨w.heap.size, 1, none⟩ = some (sv k) := by rw [hw0]; simp
  have x2 : w0.cell? ⟨w.heap.size, 2, none⟩ = some (.int .i64 fi) := by rw [hw0]; simp
  have x3 : w0.cell? ⟨w.heap.size, 3, none⟩ = some (.slice a n c) := by rw [hw0]; simp
  have y0 : w0.cell? ⟨w.heap.size + 1, 0, none⟩ = some (sv s') := by rw [hw0]; simp
  have y1 : w0.cell? ⟨w.heap.size + 1, 1, none⟩ = some (sv k') := by rw [hw0]; simp
  have y2 : w0.cell? ⟨w.heap.size + 1, 2, none⟩ = some (.int .i64 fi') := by rw [hw0]; simp
  have y3 : w0.cell? ⟨w.heap.size + 1, 3, none⟩ = some (.slice a' n' c') := by rw [hw0]; simp
  have HW0 := hide hw0
  have HB0 := hide b0
  clear hw0 b0
  go_enter Try.func3, Try.ntmps3
  go_wp2_with fail
  rw [← unhide HW0]
  refine (awake_any _).mono ?_
  rintro e w1 ⟨rfl, b1⟩
  have s1 := b1.size
  have HB1 := hide ((unhide HB0).trans (b1.mono (by omega)))
  have HC1 := hide (fun (p : Addr) (v : Value) (hp : p.block < w0.heap.size) (h : w0.cell? p = some v) => (b1.cell (p := p) hp).trans h)
  have p0 := unhide HC1 _ _ (by show w.heap.size < w0.heap.size; omega) x0
  have p1 := unhide HC1 _ _ (by show w.heap.size < w0.heap.size; omega) x1
  have p2 := unhide HC1 _ _ (by show w.heap.size < w0.heap.size; omega) x2
  have p3 := unhide HC1 _ _ (by show w.heap.size < w0.heap.size; omega) x3
  have r0 := unhide HC1 _ _ s0 y0
  have r1 := unhide HC1 _ _ s0 y1
  have r2 := unhide HC1 _ _ s0 y2
  have r3 := unhide HC1 _ _ s0 y3
  clear b1 x0 x1 x2 x3 y0 y1 y2 y3 HC1
  go_wp2_with fail
  refine (PutBatch_as s k fi a n c es z _ hs ((unhide HV).1.below (unhide HB1) (Nat.le_refl _)) (unhide HF).1 (unhide HZ).1).mono ?_
  rintro e w2 ⟨a2, m2, c2, rfl, b2, own2⟩
  have s2 := b2.size
  have HB2 := hide ((unhide HB1).trans (b2.mono (by omega)))
  have HC2 := hide (fun (p : Addr) (v : Value) (hp : p.block < w1.heap.size) (h : w1.cell? p = some v) => (b2.cell (p := p) hp).trans h)
  have x0 := unhide HC2 _ _ (by show w.heap.size < w1.heap.size; omega) p0
  have x1 := unhide HC2 _ _ (by show w.heap.size < w1.heap.size; omega) p1
  have x2 := unhide HC2 _ _ (by show w.heap.size < w1.heap.size; omega) p2
  have x3 := unhide HC2 _ _ (by show w.heap.size < w1.heap.size; omega) p3
  have y0 := unhide HC2 _ _ (by show w.heap.size + 1 < w1.heap.size; omega) r0
  have y1 := unhide HC2 _ _ (by show w.heap.size + 1 < w1.heap.size; omega) r1
  have y2 := unhide HC2 _ _ (by show w.heap.size + 1 < w1.heap.size; omega) r2
  have y3 := unhide HC2 _ _ (by show w.heap.size + 1 < w1.heap.size; omega) r3
  have HO2 := hide own2
  clear b2 own2 p0 p1 p2 p3 r0 r1 r2 r3 HC2
  go_wp2_with fail
  refine (PutBatch_as s' k' fi' a' n' c' gs z' _ hs' ((unhide HV).2.below (unhide HB2) (Nat.le_refl _)) (unhide HF).2 (unhide HZ).2).mono ?_
  rintro e w3 ⟨a3, m3, c3, rfl, b3, own3⟩
  have s3 := b3.size
  have HB3 := hide ((unhide HB2).trans (b3.mono (by omega)))
  have HC3 := hide (fun (p : Addr) (v : Value) (hp : p.block < w2.heap.size) (h : w2.cell? p = some v) => (b3.cell (p := p) hp).trans h)
  have p0 := unhide HC3 _ _ (by show w.heap.size < w2.heap.size; omega) x0
  have p1 := unhide HC3 _ _ (by show w.heap.size < w2.heap.size; omega) x1
  have p2 := unhide HC3 _ _ (by show w.heap.size < w2.heap.size; omega) x2
  have p3 := unhide HC3 _ _ (by show w.heap.size < w2.heap.size; omega) x3
  have r0 := unhide HC3 _ _ (by show w.heap.size + 1 < w2.heap.size; omega) y0
  have r1 := unhide HC3 _ _ (by show w.heap.size + 1 < w2.heap.size; omega) y1
  have r2 := unhide HC3 _ _ (by show w.heap.size + 1 < w2.heap.size; omega) y2
  have r3 := unhide HC3 _ _ (by show w.heap.size + 1 < w2.heap.size; omega) y3
  have HO3 := hide own3
  have HO2b := hide (fun h => (unhide HO2 h).below b3 (Nat.le_refl _))
  clear b3 own3 x0 x1 x2 x3 y0 y1 y2 y3 HC3
  by_cases h1 : z = 0
  · subst h1
    by_cases h2 : z' = 0
    · subst h2
      have hsame : ans ((⟨s, k, fi, es⟩ : Bat) = ⟨s', k', fi', gs⟩) = (layBt ⟨s, k, fi, es⟩ == layBt ⟨s', k', fi', gs⟩) := by
        by_cases hx : (⟨s, k, fi, es⟩ : Bat) = ⟨s', k', fi', gs⟩
        · rw [ans_true hx, hx]; simp
        · rw [ans_false hx]
          symm
          refine beq_eq_false_iff_ne.2 (fun he => hx ?_)
          obtain ⟨q1, q2⟩ := put_zero (unhide HZ).1
          obtain ⟨q3, q4⟩ := put_zero (unhide HZ).2
          exact layBt_inj ⟨q1, fun e he => ⟨q2 e he, fun f hf => (((unhide HF).1 e he).2 f hf).2⟩⟩ ⟨q3, fun e he => ⟨q4 e he, fun f hf => (((unhide HF).2 e he).2 f hf).2⟩⟩ he
      have t2 := (unhide HO2b rfl).sl
      have t3 := (unhide HO3 rfl).sl
      obtain ⟨A, hA⟩ : ∃ A, A = layBt ⟨s, k, fi, es⟩ := ⟨_, rfl⟩
      obtain ⟨B, hB⟩ : ∃ B, B = layBt ⟨s', k', fi', gs⟩ := ⟨_, rfl⟩
      rw [← hA] at t2 hsame
      rw [← hB] at t3 hsame
      have HT := hide (And.intro t2 t3)
      have HS := hide hsame
      clear hA hB t2 t3 hsame
      go_wp2_with fail
      refine (SameBatch_any s k s' k' fi fi' a a' n c n' c' es gs _ ((unhide HV).1.below (unhide HB3) (Nat.le_refl _)) ((unhide HV).2.below (unhide HB3) (Nat.le_refl _))).mono ?_
      rintro e w4 ⟨rfl, b4⟩
      rw [unhide HS]
      have st2 := ((unhide HT).1.below b4 (Nat.le_refl _)).str
      have st3 := ((unhide HT).2.below b4 (Nat.le_refl _)).str
      have HB4 := hide ((unhide HB3).trans (b4.mono (by omega)))
      clear b4
      by_cases hAB : A = B
      · subst hAB
        have q : (A == A) = true := beq_self_eq_true _
        go_wp2
        go_ret
        exact ⟨rfl, unhide HB4⟩
      · have q : (A == B) = false := beq_eq_false_iff_ne.2 hAB
        clear hAB
        go_wp2
        go_ret
        exact ⟨rfl, unhide HB4⟩
    · have hne : (z' != 0) = true := by rw [bne_iff_ne]; exact h2
      clear h2
      go_wp2
      go_ret
      exact ⟨rfl, unhide HB3⟩
  · have hne : (z != 0) = true := by rw [bne_iff_ne]; exact h1
    clear h1
    go_wp2
    go_ret
    exact ⟨rfl, unhide HB3⟩

set_option maxRecDepth 100000 in
theorem Apart.lifted (os : Os) (started : os.Started) (H : Type) (enc : TypeId × Value → H) :
    ReturnsInHanded {} Try.checked os 3 .any (Rows.codecApartSpec.pre6 enc Try.prog Try.f3 Rows.codecApartRow.domain false) (Rows.codecApartSpec.post enc Try.prog Try.f3 false true false false) := by
  refine returnsInHanded_of_change (C := Try.checked) own_knob started (by kernel_rfl) Try.func3
    (ChangeSpec.witness6 (enc := enc) (C := Try.checked) false ⟨#[], #[.agg #[.string ⟨#[]⟩, .string ⟨#[]⟩, .int .i64 0, .slice none 0 0], .agg #[.string ⟨#[]⟩, .string ⟨#[]⟩, .int .i64 0, .slice none 0 0]], []⟩ 8 (by kernel_rfl) (by kernel_rfl) (by kernel_rfl) (by kernel_rfl)) ?_
  intro W base args ds gs before hval0 hW hcnd _
  have hval : ∀ (j : Nat) t v, Try.f3.params[j]? = some t → args[j]? = some v → Value.okWide Try.prog W .any base t v := hval0
  have hW' := hW
  obtain ⟨p, q, hA0, hV, rfl, hfz, hnd⟩ := hW
  have hA : DataW.TrodAll enc Try.prog W 0 (fun _ => true) true Try.f3.params.toList args.toList ds p := hA0
  rw [Try.params3] at hA hval
  obtain ⟨v0, v1, d0, d1, p0, p1, rfl, rfl, rfl, h0, h1⟩ := trodAll_two hA
  obtain ⟨rfl, rfl⟩ := trodVars_none hV
  have k0 := h0
  have lt0 : ∀ x ∈ p0, x.block < W.heap.size := by obtain ⟨m, hm⟩ := k0; exact DataW.trod_lt m _ _ _ hm
  have k1 := h1
  have lt1 : ∀ x ∈ p1, x.block < W.heap.size := by obtain ⟨m, hm⟩ := k1; exact DataW.trod_lt m _ _ _ hm
  obtain ⟨s, k, fi, a, n, c, es, rfl, e1, e2, e3⟩ := open_batch (hval 0 24 v0 rfl rfl) h0
  obtain ⟨s', k', fi', a', n', c', es', rfl, g1, g2, g3⟩ := open_batch (hval 1 24 v1 rfl rfl) h1
  clear hA0 hval0
  refine (Apart.walk s k fi a n c es s' k' fi' a' n' c' es' W e1 g1 e2 g2 e3 g3).mono fun e W' ⟨he, bel⟩ => ?_
  subst he
  exact ⟨_, rfl, _, _, _, [], _, [], hW', trodAll_mk1 (shut_bool Try.underlying4 _), (trodAll_cons_mk (Below.trod laid_out (by kernel_rfl) (of_decide_eq_true (by kernel_rfl)) k0 bel lt0) (trodAll_cons_mk (Below.trod laid_out (by kernel_rfl) (of_decide_eq_true (by kernel_rfl)) k1 bel lt1) trodAll_mk0)), rfl, bel.frame _, fun h => by cases h⟩

theorem codecApart_holds : Rows.CodecApartSaid :=
  OpenClaim.holds_of_wide 3 Try.f3 rfl rfl rfl rfl rfl rfl rfl ⟨rfl, rfl, rfl, rfl, rfl⟩ rfl rfl rfl rfl rfl (by kernel_rfl) Try.func3 (by kernel_rfl)
    (of_decide_eq_true (by kernel_rfl)) (by unfold Func.isWrapper; first | (rw [if_pos (by decide +kernel)]; kernel_rfl) | (rw [if_neg (by decide +kernel)]; exact ⟨rfl, rfl⟩))
    (fun os started H enc _ => Apart.lifted os started H enc)
#print axioms codecApart_holds
end Go.Proofs.Ytoclnnkeabbicab
