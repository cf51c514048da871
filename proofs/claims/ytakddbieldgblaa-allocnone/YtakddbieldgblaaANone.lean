/-
  AllocNone: for every int and every slice of runs it returns true, and its arguments read as before. Conditions: none.
-/
import Derived.Test.YtakddbieldgblaaRows
import Derived.Test.YtakddbieldgblaaAawake
import Derived.OpenShut
import Derived.ShutString
import Derived.SizedLaws
namespace Go.Proofs.Ytakddbieldgblaa
open Go.ChangeShapes Go.WideShapes Go.ChangeAt Go.RowKit
set_option linter.unusedVariables false
attribute [local go_sem] Oper.semAt_some

theorem own_knob : ownKnob Try.prog.godebug = none := by kernel_rfl
theorem laid_out : laidOutB Try.prog = true := by kernel_rfl

set_option maxRecDepth 100000 in
set_option maxHeartbeats 3200000 in
theorem None.walk (n : Int) (v : Value) (w : World) :
    Calls Try.prog 6 #[.int .i64 n, v] w fun e w' => e = .returned (.bool true) ∧ Below w.heap.size w w' := by
  refine (callsIn_wide (n := 3)).1 ?_
  refine callsIn_of_wp_marks Try.func6 rfl trivial ?_ rfl
  simp only [Try.ntmps6, List.size_toArray, List.length_cons, List.length_nil, Nat.reduceAdd, Nat.reduceSub, Array.replicate_succ, Array.replicate_zero, List.push_toArray, List.append_toArray, List.nil_append, List.cons_append]
  gi_wp2_with fail
  refine ⟨trivial, (callsIn_wide.2 (awake_ok _)).mono ?_⟩
  rintro e w1 ⟨rfl, g1⟩
  have G1 := hide (below_of_grown g1)
  clear g1
  gi_wp2_with fail
  refine ⟨trivial, (callsIn_wide.2 (Take_nil _ _)).mono ?_⟩
  rintro e w2 ⟨rfl, g2⟩
  have G2 : Hid (Below w.heap.size w w2) := hide ((unhide G1).trans ((below_of_grown g2).mono (unhide G1).size))
  clear g2 G1
  gi_wp2_with fail
  refine ⟨trivial, (callsIn_wide.2 (Commit_nil _)).mono ?_⟩
  rintro e w3 ⟨⟨v3, rfl⟩, rfl⟩
  gi_wp2_with fail
  refine ⟨trivial, (callsIn_wide.2 (Reset_nil _)).mono ?_⟩
  rintro e w4 ⟨⟨v4, rfl⟩, rfl⟩
  gi_wp2_with fail
  refine ⟨trivial, (callsIn_wide.2 (All_any _ _)).mono ?_⟩
  rintro e w' ⟨rfl, rfl⟩
  gi_wp2
  have bO := Boxed.new w4 3 (.int .i64 0)
  have bN := Boxed.new (w4.alloc (.cells #[.int .i64 0] 3)) 24 (.pointer none)
  rw [World.size_alloc] at bN
  obtain ⟨Wl, hWl⟩ : ∃ Wl, Wl = (w4.alloc (.cells #[.int .i64 0] 3)).alloc (.cells #[.pointer none] 24) := ⟨_, rfl⟩
  have hB0 : Below w4.heap.size w4 Wl := by rw [hWl]; exact ((Below.refl _ w4).alloc (Nat.le_refl _) _).alloc (by simp) _
  have hsz : Wl.heap.size = w4.heap.size + 2 := by rw [hWl]; simp
  have bO' : Boxed Wl w4.heap.size 3 (.int .i64 0) := by rw [hWl]; exact bO.alloc _
  have hw4 := (unhide G2).size
  rw [← hWl] at bN ⊢
  clear hWl bO
  refine wpIn_rangeFunc_ownH rfl (by omega) (gf := 42) (lb := #[.pointer (some ⟨w4.heap.size + 1, 0, none⟩)]) rfl trivial (enters_of Try.func42 (by kernel_rfl) rfl)
    (AllIt_nil 2 (w4.heap.size + 1) (fun _ _ => True) Wl bN.cell bN.lt) (fun _ _ => trivial) (fun _ _ _ _ _ _ _ _ => trivial) (Below.refl _ _) (fun _ => rfl)
    (fun pre W => Boxed W w4.heap.size 3 (.int .i64 0) ∧ Below w4.heap.size w4 W)
    (fun _ _ _ => False)
    (OwnFrom.and (Own.from (boxed_own w4.heap.size 3 (fun pre : List (Nat × Nat) => .int .i64 0)) _) (ownFrom_below (Nat.le_refl _) (by omega)))
    (fun _ _ _ _ _ hs _ _ => hs)
    ⟨bO', hB0⟩
    (fun x a' W => True)
    (fun x a' s A A' row hs hg hr => trivial)
    ?assign ?body ?done ?stop
  case assign =>
    rintro l pre x W K hi hK
    gi_wp2
    exact hK _ _ (KeepsFrom.refl _ _) trivial hi trivial
  case body =>
    rintro l pre x a' W hl hr _ _ hlt
    omega
  case done =>
    rintro D ys W hD rfl ⟨hb1, hb2⟩ hK
    have c := hb1.cell
    have HK := hide hK
    have HB2 : Hid (Below w.heap.size w W) := hide ((unhide G2).trans (hb2.mono hw4))
    have HD : Hid (w.heap.size ≤ D) := hide (by omega)
    clear hK hb1 hb2 hB0 bO' bN
    gi_wp2_with fail
    refine ⟨trivial, (callsIn_wide.2 (Give_nil _ _)).mono ?_⟩
    rintro e w5 ⟨rfl, rfl⟩
    gi_wp2_with fail
    refine ⟨trivial, (callsIn_wide.2 (Blocks_nil _)).mono ?_⟩
    rintro e w6 ⟨rfl, rfl⟩
    gi_wp2_with fail
    refine ⟨trivial, (callsIn_wide.2 (Free_nil _)).mono ?_⟩
    rintro e w7 ⟨rfl, g7⟩
    have HK7 : Hid (w7.heap[D]? = some (.deferred (some []))) := hide ((g7.block D (Array.getElem?_eq_some_iff.1 (unhide HK)).1 (by simp)).trans (unhide HK))
    have HB7 : Hid (Below w.heap.size w w7) := hide ((unhide HB2).trans ((below_of_grown g7).mono (unhide HB2).size))
    clear g7 HK HB2
    gi_wp2_with fail
    refine ⟨trivial, (callsIn_wide.2 (Bytes_nil _)).mono ?_⟩
    rintro e w8 ⟨rfl, rfl⟩
    gi_wp2
    refine ⟨by simp, .inl ⟨_, _, rfl, run_takeDeferred (unhide HK7), ?_⟩⟩
    exact ⟨_, results_tmp rfl _ _ _, rfl, (unhide HB7).trans (belowK_b (w := w) (Nat.le_refl _) _ D _ _ (unhide HD) (unhide HK7) rfl rfl)⟩
  case stop =>
    rintro D c pre W _ _ h _
    exact h.elim

set_option maxRecDepth 100000 in
theorem None.lifted (os : Os) (started : os.Started) (H : Type) (enc : TypeId × Value → H) :
    ReturnsInHanded {} Try.checked os 6 .any (Rows.allocNoneSpec.pre6 enc Try.prog Try.f6 Rows.allocNoneRow.domain false) (Rows.allocNoneSpec.post enc Try.prog Try.f6 false true false false) := by
  refine returnsInHanded_of_change (C := Try.checked) own_knob started (by kernel_rfl) Try.func6
    (ChangeSpec.witness6 (enc := enc) (C := Try.checked) false ⟨#[], #[.int .i64 0, .slice none 0 0], []⟩ 8 (by kernel_rfl) (by kernel_rfl) (by kernel_rfl) (by kernel_rfl)) ?_
  intro W base args ds gs before hval0 hW hcnd _
  have hval : ∀ (j : Nat) t v, Try.f6.params[j]? = some t → args[j]? = some v → Value.okWide Try.prog W .any base t v := hval0
  have hW' := hW
  obtain ⟨p, q, hA0, hV, rfl, hfz, hnd⟩ := hW
  have hA : DataW.TrodAll enc Try.prog W 0 (fun _ => true) true Try.f6.params.toList args.toList ds p := hA0
  rw [Try.params6] at hA hval
  obtain ⟨v0, v1, d0, d1, p0, p1, rfl, rfl, rfl, h0, h1⟩ := trodAll_two hA
  obtain ⟨rfl, rfl⟩ := trodVars_none hV
  obtain ⟨a0, rfl, rfl, rfl, w0⟩ := open_int Try.underlying3 (hval 0 3 v0 rfl rfl) h0
  have k1 := h1
  have lt1 : ∀ x ∈ p1, x.block < W.heap.size := by obtain ⟨m, hm⟩ := k1; exact DataW.trod_lt m _ _ _ hm
  clear hA0 hval0
  refine (None.walk a0 v1 W).mono fun e W' ⟨he, bel⟩ => ?_
  subst he
  exact ⟨_, rfl, _, _, _, [], _, [], hW', trodAll_mk1 (shut_bool Try.underlying4 _), (trodAll_cons_mk (shut_int Try.underlying3 w0) (trodAll_cons_mk (Below.trod laid_out (by kernel_rfl) (of_decide_eq_true (by kernel_rfl)) k1 bel lt1) trodAll_mk0)), rfl, bel.frame _, fun h => by cases h⟩

theorem allocNone_holds : Rows.AllocNoneSaid :=
  OpenClaim.holds_of_wide 6 Try.f6 rfl rfl rfl rfl rfl rfl rfl ⟨rfl, rfl, rfl, rfl, rfl⟩ rfl rfl rfl rfl rfl (by kernel_rfl) Try.func6 (by kernel_rfl)
    (of_decide_eq_true (by kernel_rfl)) (by unfold Func.isWrapper; first | (rw [if_pos (by decide +kernel)]; kernel_rfl) | (rw [if_neg (by decide +kernel)]; exact ⟨rfl, rfl⟩))
    (fun os started H enc _ => None.lifted os started H enc)
#print axioms allocNone_holds
end Go.Proofs.Ytakddbieldgblaa
