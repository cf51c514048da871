/-
  StreamsNone: for every text and every int it returns true, and its arguments read as before. Conditions: none.
-/
import Derived.Test.YtgomncbfhloobaaXawake
import Derived.Test.YtgomncbfhloobaaXnames
import Derived.Test.YtgomncbfhloobaaXopen
namespace Go.Proofs.Ytgomncbfhloobaa
open Go.ChangeShapes Go.WideShapes Go.ChangeAt Go.RowKit Go.Maps
open Go.ChangeMaps (open_string shut_string)
set_option linter.unusedVariables false

set_option maxRecDepth 100000 in
set_option maxHeartbeats 4000000 in
theorem XNone.walk (s : List UInt8) (hs : s.length ≤ maxLen) (n : Int) (w : World) :
    Calls Try.prog 5 #[sv s, .int .i64 n] w fun e w' => e = .returned (.bool true) ∧ Below w.heap.size w w' := by
  have HS := hide hs
  clear hs
  go_enter Try.func5, Try.ntmps5
  go_wp2_with fail
  refine (awake_go _).mono ?_
  rintro e w1 ⟨rfl, b1⟩
  have B1 := hide b1
  clear b1
  go_wp2_with fail
  refine (Try_nil w1 s s n none 0 0).mono ?_
  rintro e w2 ⟨rfl, b2⟩
  obtain ⟨w3, hw3⟩ : ∃ w3, w3 = (w2.alloc (.cells (apV 0 0 0 false) 27)).alloc (.cells (bt [] [] 0 none 0 0) 30) := ⟨_, rfl⟩
  have B3 : Hid (Below w.heap.size w w3) := hide (by
    have t := (unhide B1).trans (b2.mono (unhide B1).size)
    rw [hw3]; exact (t.alloc t.size _).alloc (Nat.le_trans t.size (by simp)) _)
  clear b2 B1
  go_wp2_with fail
  rw [← hw3]
  clear hw3
  refine (Stream_nil w3 s n n).mono ?_
  rintro e w4 ⟨rfl, rfl⟩
  go_wp2_with fail
  refine (All_nil w4 n n).mono ?_
  rintro e w5 ⟨rfl, rfl⟩
  go_wp2_with fail
  refine (Keyed_nil w5 s (unhide HS)).mono ?_
  rintro e w6 ⟨rfl, b6⟩
  obtain ⟨w7, hw7⟩ : ∃ w7, w7 = w6.alloc (.cells (apV 0 0 0 false) 27) := ⟨_, rfl⟩
  have B7 : Hid (Below w.heap.size w w7) := hide (by
    have t := (unhide B3).trans (b6.mono (unhide B3).size)
    rw [hw7]; exact t.alloc t.size _)
  have a7 : ABox w7 w6.heap.size 0 0 0 false := by unfold ABox; rw [hw7]; exact heap_alloc_self _ _
  have A7 := hide a7
  clear b6 B3 a7
  go_wp2_with fail
  rw [← hw7]
  clear hw7
  refine (Add_nil w7 [] [] 0 none 0 0).mono ?_
  rintro e w8 ⟨rfl, b8⟩
  have B8 := hide ((unhide B7).trans (b8.mono (unhide B7).size))
  have A8 := hide ((unhide A7).same (b8.block _ (lt_of_block (unhide A7))))
  clear b8 B7 A7
  go_wp2_with fail
  refine (Len_nil w8).mono ?_
  rintro e w9 ⟨rfl, b9⟩
  have B9 := hide ((unhide B8).trans (b9.mono (unhide B8).size))
  have A9 := hide ((unhide A8).same (b9.block _ (lt_of_block (unhide A8))))
  clear b9 B8 A8
  go_wp2_with fail
  refine (Version_nil w9 s (unhide HS)).mono ?_
  rintro e w10 ⟨rfl, b10⟩
  have B10 := hide ((unhide B9).trans (b10.mono (unhide B9).size))
  have A10 := hide ((unhide A9).same (b10.block _ (lt_of_block (unhide A9))))
  clear b10 B9 A9
  go_wp2_with fail
  refine (Names_nil w10).mono ?_
  rintro e w11 ⟨rfl, b11⟩
  have B11 := hide ((unhide B10).trans (b11.mono (unhide B10).size))
  obtain ⟨c0, c1, c2, c3, c4⟩ := ((unhide A10).same (b11.block _ (lt_of_block (unhide A10)))).cells
  clear b11 B10 A10
  go_wp2
  go_ret
  exact ⟨rfl, unhide B11⟩

set_option maxRecDepth 100000 in
theorem XNone.lifted (os : Os) (started : os.Started) (H : Type) (enc : TypeId × Value → H) :
    ReturnsInHanded {} Try.checked os 5 .any (Rows.streamsNoneSpec.pre6 enc Try.prog Try.f5 Rows.streamsNoneRow.domain false) (Rows.streamsNoneSpec.post enc Try.prog Try.f5 false true false false) := by
  refine returnsInHanded_of_change (C := Try.checked) own_knob started (by kernel_rfl) Try.func5
    (ChangeSpec.witness6 (enc := enc) (C := Try.checked) false ⟨#[], #[.string ⟨#[]⟩, .int .i64 0], []⟩ 8 (by kernel_rfl) (by kernel_rfl) (by kernel_rfl) (by kernel_rfl)) ?_
  intro W base args ds gs before hval0 hW hcnd _
  have hval : ∀ (j : Nat) t v, Try.f5.params[j]? = some t → args[j]? = some v → Value.okWide Try.prog W .any base t v := hval0
  have hW' := hW
  obtain ⟨p, q, hA0, hV, rfl, hfz, hnd⟩ := hW
  have hA : DataW.TrodAll enc Try.prog W 0 (fun _ => true) true Try.f5.params.toList args.toList ds p := hA0
  rw [Try.params5] at hA hval
  obtain ⟨v0, v1, d0, d1, p0, p1, rfl, rfl, rfl, h0, h1⟩ := trodAll_two hA
  obtain ⟨rfl, rfl⟩ := trodVars_none hV
  obtain ⟨s0, rfl, rfl, rfl, hs0⟩ := open_string Try.underlying9 (hval 0 9 v0 rfl rfl) h0
  obtain ⟨a1, rfl, rfl, rfl, w1⟩ := open_int Try.underlying3 (hval 1 3 v1 rfl rfl) h1
  clear hA0 hval0
  refine (XNone.walk s0.data.toList hs0 a1 W).mono fun e W' ⟨he, bel⟩ => ?_
  subst he
  exact ⟨_, rfl, _, _, _, [], _, [], hW', trodAll_mk1 (shut_bool Try.underlying4 _), (trodAll_cons_mk (shut_string Try.underlying9 hs0) (trodAll_cons_mk (shut_int Try.underlying3 w1) trodAll_mk0)), rfl, bel.frame _, fun h => by cases h⟩

theorem streamsNone_holds : Rows.StreamsNoneSaid :=
  OpenClaim.holds_of_wide 5 Try.f5 rfl rfl rfl rfl rfl rfl rfl ⟨rfl, rfl, rfl, rfl, rfl⟩ rfl rfl rfl rfl rfl (by kernel_rfl) Try.func5 (by kernel_rfl)
    (of_decide_eq_true (by kernel_rfl)) (by unfold Func.isWrapper; first | (rw [if_pos (by decide +kernel)]; kernel_rfl) | (rw [if_neg (by decide +kernel)]; exact ⟨rfl, rfl⟩))
    (fun os started H enc _ => XNone.lifted os started H enc)
#print axioms streamsNone_holds
end Go.Proofs.Ytgomncbfhloobaa
