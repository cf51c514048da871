/-
  CodecParses: for every slice of bytes it returns true, and its argument reads as before. Conditions: none beyond the form's own (the slice takes at most 2^47 - 4096 bytes).
-/
import Derived.Test.YtkikfdbjfhgfoaaRows
import Derived.Test.YtkikfdbjfhgfoaaRefBat4
import Derived.Test.YtkikfdbjfhgfoaaSameB
import Derived.Test.YtkikfdbjfhgfoaaOpen
import Derived.OpenShut
namespace Go.Proofs.Ytkikfdbjfhgfoaa
open Go.ChangeShapes Go.WideShapes Go.ChangeAt Go.RowKit
set_option linter.unusedVariables false

/-- What two readings of the same bytes come to is the same. -/
theorem reads_two {l : List UInt8} {x x' : Bat} {z z' : Int} (h : (z = 0 ∧ goodB x ∧ (layBt x).length ≤ 2000 ∧ layBt x = l) ∨ (z = 11 ∧ x.stream = [] ∧ x.key = [] ∧ x.first = 0 ∧ x.events = [] ∧ ∀ y, goodB y → (layBt y).length ≤ 2000 → layBt y ≠ l))
    (h' : (z' = 0 ∧ goodB x' ∧ (layBt x').length ≤ 2000 ∧ layBt x' = l) ∨ (z' = 11 ∧ x'.stream = [] ∧ x'.key = [] ∧ x'.first = 0 ∧ x'.events = [] ∧ ∀ y, goodB y → (layBt y).length ≤ 2000 → layBt y ≠ l)) : z = z' ∧ x = x' := by
  rcases h with ⟨h1, h2, h3, h4⟩ | ⟨h1, h2, h3, h4, h5, h6⟩
  · rcases h' with ⟨g1, g2, g3, g4⟩ | ⟨g1, g2, g3, g4, g5, g6⟩
    · exact ⟨h1.trans g1.symm, layBt_inj h2 g2 (h4.trans g4.symm)⟩
    · exact absurd h4 (g6 x h2 h3)
  · rcases h' with ⟨g1, g2, g3, g4⟩ | ⟨g1, g2, g3, g4, g5, g6⟩
    · exact absurd g4 (h6 x' g2 g3)
    · refine ⟨h1.trans g1.symm, ?_⟩
      obtain ⟨a, b, c, d⟩ := x
      obtain ⟨a', b', c', d'⟩ := x'
      simp only at h2 h3 h4 h5 g2 g3 g4 g5
      rw [h2, h3, h4, h5, g2, g3, g4, g5]
set_option maxHeartbeats 4000000 in
set_option maxRecDepth 20000 in
theorem Parses.walk (vb : Value) (l : List UInt8) (w : World) (hb : Sl w vb l) (hl : l.length ≤ 140737488351232) :
    Calls Try.prog 4 #[vb] w fun e w' => e = .returned (.bool true) ∧ Below w.heap.size w w' := by
  obtain ⟨bo, bp, rfl, h1, h2, h4⟩ := id hb
  unfold maxLen at h2
  have HVB := hide hb
  clear h4 hb
  go_enter Try.func4, Try.ntmps4
  go_wp2_with fail
  refine (awake_any _).mono ?_
  rintro e w1 ⟨rfl, b1⟩
  have s1 := b1.size
  have D1 := hide b1
  clear b1
  go_wp2_with fail
  refine (lent_any _ l _ ((unhide HVB).below (unhide D1) (Nat.le_refl _)) (by omega)).mono ?_
  rintro e w2 ⟨g2, cap2, rfl, hL2, b2⟩
  have s2 := b2.size
  have D2 := hide ((unhide D1).trans (b2.mono s1))
  have HL2 := hide hL2
  clear hL2 b2 D1
  have BT := hide (Batch_any (some ⟨g2, 0, none⟩) l.length cap2 l w2 (unhide HL2).sl (by omega))
  go_wp2_with fail
  refine (unhide BT).mono ?_
  rintro e w3 ⟨s, k, fi, a, n, c, es, z, rfl, b3, e3, r3⟩
  have s3 := b3.size
  obtain ⟨w4, hw4⟩ : ∃ w4, w4 = w3.alloc (.cells (bt s k fi a n c) 25) := ⟨_, rfl⟩
  have b4 : Below w3.heap.size w3 w4 := by rw [hw4]; exact (Below.refl _ _).alloc (Nat.le_refl _) _
  have s4 : w3.heap.size < w4.heap.size := by rw [hw4]; simp
  have x0 : w4.cell? ⟨w3.heap.size, 0, none⟩ = some (sv s) := by rw [hw4]; simp
  have x1 : w4.cell? ⟨w3.heap.size, 1, none⟩ = some (sv k) := by rw [hw4]; simp
  have x2 : w4.cell? ⟨w3.heap.size, 2, none⟩ = some (.int .i64 fi) := by rw [hw4]; simp
  have x3 : w4.cell? ⟨w3.heap.size, 3, none⟩ = some (.slice a n c) := by rw [hw4]; simp
  have D4 := hide ((unhide D2).trans ((b3.trans (b4.mono s3)).mono (by omega)))
  have HL4 := hide (((unhide HL2).below b3 (Nat.le_refl _)).below b4 (Nat.le_refl _))
  have HE4 := hide (e3.below b4 (Nat.le_refl _))
  have HR3 := hide r3
  have HW4 := hide hw4
  clear b3 e3 r3 hw4 b4 BT D2 HL2
  have RB := hide (rBatch_any bo l.length bp l w4 ((unhide HVB).below (unhide D4) (Nat.le_refl _)))
  go_wp2_with fail
  rw [← unhide HW4]
  refine (unhide RB).mono ?_
  rintro e w5 ⟨s', k', fi', a', n', c', es', z', rfl, b5, e5, r5⟩
  obtain ⟨ez, ex⟩ := reads_two (x := ⟨s, k, fi, es⟩) (x' := ⟨s', k', fi', es'⟩) (unhide HR3) r5
  have s5 := b5.size
  have y0 := (b5.cell (p := ⟨w3.heap.size, 0, none⟩) s4).trans x0
  have y1 := (b5.cell (p := ⟨w3.heap.size, 1, none⟩) s4).trans x1
  have y2 := (b5.cell (p := ⟨w3.heap.size, 2, none⟩) s4).trans x2
  have y3 := (b5.cell (p := ⟨w3.heap.size, 3, none⟩) s4).trans x3
  have s35 : w3.heap.size < w5.heap.size := by omega
  obtain ⟨w6, hw6⟩ : ∃ w6, w6 = w5.alloc (.cells (bt s' k' fi' a' n' c') 25) := ⟨_, rfl⟩
  have b6 : Below w5.heap.size w5 w6 := by rw [hw6]; exact (Below.refl _ _).alloc (Nat.le_refl _) _
  have D6 := hide ((unhide D4).trans ((b5.trans (b6.mono s5)).mono (by have := (unhide D4).size; omega)))
  have HL6 := hide (((unhide HL4).below b5 (Nat.le_refl _)).below b6 (Nat.le_refl _))
  have SB := hide (SameBatch_any s k s' k' fi fi' a a' n c n' c' es es' w6 (((unhide HE4).below b5 (Nat.le_refl _)).below b6 (Nat.le_refl _)) (e5.below b6 (Nat.le_refl _)))
  have s6 := b6.size
  rw [ans_true ex] at SB
  subst ez
  have hzz : (z == z) = true := beq_self_eq_true _
  have HW6 := hide hw6
  clear b5 e5 r5 hw6 b6 RB D4 HL4 HE4 HR3 x0 x1 x2 x3 ex
  go_wp2_with fail
  rw [← unhide HW6]
  refine (unhide SB).mono ?_
  rintro e w7 ⟨rfl, b7⟩
  have D7 := hide ((unhide D6).trans (b7.mono (by have := (unhide D6).size; omega)))
  have HL7 := hide ((unhide HL6).below b7 (Nat.le_refl _))
  clear b7 SB D6 HL6 y0 y1 y2 y3
  go_wp2_with fail
  refine (held_any _ _ _ l _ (unhide HL7) ((unhide HVB).below (unhide D7) (Nat.le_refl _))).mono ?_
  rintro e w8 ⟨rfl, rfl⟩
  go_wp2
  go_ret
  exact ⟨rfl, unhide D7⟩

set_option maxRecDepth 100000 in
theorem Parses.lifted (os : Os) (started : os.Started) (H : Type) (enc : TypeId × Value → H) :
    ReturnsInHanded {} Try.checked os 4 .any (Rows.codecParsesSpec.pre6 enc Try.prog Try.f4 Rows.codecParsesRow.domain false) (Rows.codecParsesSpec.post enc Try.prog Try.f4 false true false false) := by
  refine returnsInHanded_of_change_sized (C := Try.checked) own_knob started (by kernel_rfl) Try.func4
    (ChangeSpec.witness6 (enc := enc) (C := Try.checked) false ⟨#[], #[.slice none 0 0], []⟩ 8 (by kernel_rfl) (by kernel_rfl) (by kernel_rfl) (by kernel_rfl)) ?_
  intro W base args ds gs before hval0 hW hcnd hsz0 hholds
  have hval : ∀ (j : Nat) t v, Try.f4.params[j]? = some t → args[j]? = some v → Value.okWide Try.prog W .any base t v := hval0
  have hsz : (DataW.weightsEach Try.prog (Try.f4.params.toList ++ Rows.codecParsesSpec.plain.varTypes Try.prog) (ds ++ gs)).all (· ≤ reachBytes) = true := hsz0
  have hW' := hW
  obtain ⟨p, q, hA0, hV, rfl, hfz, hnd⟩ := hW
  have hA : DataW.TrodAll enc Try.prog W 0 (fun _ => true) true Try.f4.params.toList args.toList ds p := hA0
  rw [Try.params4] at hA hval hsz
  obtain ⟨v0, d0, rfl, rfl, h0⟩ := trodAll_one hA
  obtain ⟨rfl, rfl⟩ := trodVars_none hV
  obtain ⟨a0, len0, cap0, rfl⟩ := okWide_slice Try.underlying22 (hval 0 22 v0 rfl rfl)
  have k0 := h0
  have lt0 : ∀ x ∈ p, x.block < W.heap.size := by obtain ⟨m, hm⟩ := k0; exact DataW.trod_lt m _ _ _ hm
  obtain ⟨l, hl, hd⟩ := open_bytes h0
  have hlen : l.length ≤ 140737488351232 := by
    rcases hd with ⟨_, rfl⟩ | ⟨es, sp, rfl, h⟩
    · simp
    · have := sized_slice hsz (j := 0) (t := 22) (e := 5) rfl rfl Try.underlying22
      rw [Try.bytes5] at this
      simp only [reachBytes] at this
      omega
  clear hA0 hval0 hsz0
  refine (Parses.walk _ l W hl hlen).mono fun e W' ⟨he, bel⟩ => ?_
  subst he
  exact ⟨_, rfl, _, _, _, [], _, [], hW', trodAll_mk1 (shut_bool Try.underlying4 _), (trodAll_cons_mk (Below.trod laid_out (by kernel_rfl) (of_decide_eq_true (by kernel_rfl)) k0 bel lt0) trodAll_mk0), rfl, bel.frame _, fun h => by cases h⟩

theorem codecParses_holds : Rows.CodecParsesSaid :=
  OpenClaim.holds_of_wide 4 Try.f4 rfl rfl rfl rfl rfl rfl rfl ⟨rfl, rfl, rfl, rfl, rfl⟩ rfl rfl rfl rfl rfl (by kernel_rfl) Try.func4 (by kernel_rfl)
    (of_decide_eq_true (by kernel_rfl)) (by unfold Func.isWrapper; first | (rw [if_pos (by decide +kernel)]; kernel_rfl) | (rw [if_neg (by decide +kernel)]; exact ⟨rfl, rfl⟩))
    (fun os started H enc _ => Parses.lifted os started H enc)
#print axioms codecParses_holds
end Go.Proofs.Ytkikfdbjfhgfoaa
