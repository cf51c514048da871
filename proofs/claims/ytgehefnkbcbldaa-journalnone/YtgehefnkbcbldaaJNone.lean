/-
  JournalNone: for every int and every slice of bytes it returns true, and its arguments read as before. Conditions: none.
-/
import Derived.Test.YtgehefnkbcbldaaM7
namespace Go.Proofs.Ytgehefnkbcbldaa
open Go.ChangeShapes Go.WideShapes Go.ChangeAt Go.RowKit
set_option linter.unusedVariables false

theorem grown_belowJ {w w' : World} (h : w.grownBy w' none) : Below w.heap.size w w' := ⟨h.os, h.tape, h.output, h.size, fun i hi => h.block i hi (by simp)⟩
set_option maxRecDepth 100000 in
set_option maxHeartbeats 3200000 in
theorem JNone.walk (k : Int) (a : Option Addr) (c : Nat) (d : List UInt8) (w : World) (hv : Sl w (.slice a d.length c) d) (hk0 : -9223372036854775808 ≤ k) (hk1 : k ≤ 9223372036854775807) :
    Calls Try.prog 6 #[.int .i64 k, .slice a d.length c] w fun e w' => e = .returned (.bool true) ∧ Below w.heap.size w w' := by
  have hl64 : (St.new 64).safe.length = 64 := List.length_replicate
  have hr0 : (St.new 64).rcd 0 = noSlot := new_rcd 0 (by omega)
  have HE : Hid ((St.new 64).openJ ((64 - 20 : Nat) : Int) = (41, (St.new 64).burn.burn)) := hide (by
    have e := wait_none (St.new 64) ((64 - 20 : Nat) : Int) (Free.new 64).reads (.inl (by rw [hr0]; rfl))
    unfold St.openJ
    rw [e]
    exact thn_no _ _ (by decide))
  have hcn : ((St.new 64).rcd 0).count < 9223372036854775807 := by rw [hr0]; decide
  clear hv hr0
  go_enter Try.func6, Try.ntmps6
  go_wp2_with fail
  refine (Jawake_any _).mono ?_
  rintro e w1 ⟨rfl, b1⟩
  have HB1 := hide b1
  clear b1
  go_wp2_with fail
  refine (New_run w w1 (unhide HB1)).mono ?_
  rintro e w2 ⟨rfl, r2, _⟩
  obtain ⟨b, hb⟩ : ∃ b, b = w1.heap.size + 2 := ⟨_, rfl⟩
  obtain ⟨F2, hF2⟩ : ∃ F2, F2 = (fun k => w1.heap.size ≤ k ∧ k < w2.heap.size) := ⟨_, rfl⟩
  rw [← hb, ← hF2] at r2
  rw [← hb]
  have OP := Open_go r2 (by omega) hcn
  rw [hl64, unhide HE] at OP
  have HOP := hide OP
  clear r2 hb hF2 HB1 OP hl64 hcn
  go_wp2_with fail
  refine (JRead_nil _ _).mono ?_
  rintro e w3 ⟨rfl, rfl⟩
  go_wp2_with fail
  refine (unhide HOP).mono ?_
  rintro e w4 hp
  rcases hp with ⟨e0, _⟩ | ⟨_, rfl, F4, r4, _, _⟩
  · exact absurd (show (41 : Int) = 0 from e0) (by decide)
  have R4 := hide r4.bel
  clear r4 HOP
  go_wp2_with fail
  refine (JOpen_nil _).mono ?_
  rintro e w5 ⟨rfl, rfl⟩
  go_wp2_with fail
  refine (JPut_nil _ _ _).mono ?_
  rintro e w6 ⟨rfl, rfl⟩
  go_wp2_with fail
  refine (JCommit_nil _ _).mono ?_
  rintro e w7 ⟨rfl, b7⟩
  have R7 : Hid (Below w.heap.size w w7) := hide ((unhide R4).trans ((grown_belowJ b7).mono (unhide R4).size))
  clear b7 R4
  go_wp2_with fail
  refine (Size_nil _).mono ?_
  rintro e w8 ⟨rfl, rfl⟩
  go_wp2_with fail
  refine (JFormat_nil _).mono ?_
  rintro e w9 ⟨rfl, b9⟩
  have R9 : Hid (Below w.heap.size w w9) := hide ((unhide R7).trans ((grown_belowJ b9).mono (unhide R7).size))
  clear b9 R7
  go_wp2
  go_ret
  exact ⟨rfl, unhide R9⟩

set_option maxRecDepth 100000 in
theorem JNone.lifted (os : Os) (started : os.Started) (H : Type) (enc : TypeId × Value → H) :
    ReturnsInHanded {} Try.checked os 6 .any (Rows.journalNoneSpec.pre6 enc Try.prog Try.f6 Rows.journalNoneRow.domain false) (Rows.journalNoneSpec.post enc Try.prog Try.f6 false true false false) := by
  refine returnsInHanded_of_change (C := Try.checked) own_knob started (by kernel_rfl) Try.func6
    (ChangeSpec.witness6 (enc := enc) (C := Try.checked) false ⟨#[], #[.int .i64 0, .slice none 0 0], []⟩ 8 (by kernel_rfl) (by kernel_rfl) (by kernel_rfl) (by kernel_rfl)) ?_
  intro W base args ds gs before hval0 hW hcnd _
  have hval : ∀ (j : Nat) t v, Try.f6.params[j]? = some t → args[j]? = some v → Value.okWide Try.prog W .any base t v := hval0
  have hW' := hW
  obtain ⟨p, q, hA0, hV, rfl, hfz, hnd⟩ := hW
  have hA : DataW.TrodAll enc Try.prog W 0 (fun _ => true) true Try.f6.params.toList args.toList ds p := hA0
  rw [Try.params6] at hA hval
  obtain ⟨v0, v1, d0, d1, p0, p1, rfl, rfl, rfl, h0, h1⟩ := trodAll_two hA
  obtain ⟨rfl, rfl⟩ := trodVars_none hV
  obtain ⟨x, rfl, rfl, rfl, wx⟩ := open_int Try.underlying3 (hval 0 3 v0 rfl rfl) h0
  obtain ⟨a1, len1, cap1, rfl⟩ := okWide_slice Try.underlying34 (hval 1 34 v1 rfl rfl)
  have k1 := h1
  have lt1 : ∀ x ∈ p1, x.block < W.heap.size := by obtain ⟨m, hm⟩ := k1; exact DataW.trod_lt m _ _ _ hm
  obtain ⟨l1, hl1, _⟩ := open_bytes h1
  obtain rfl : len1 = l1.length := hl1.lenEq
  have bx := bounds_i64 wx
  clear hA0 hval0
  refine (JNone.walk x a1 cap1 l1 W hl1 (by omega) (by omega)).mono fun e W' ⟨he, bel⟩ => ?_
  subst he
  exact ⟨_, rfl, _, _, _, [], _, [], hW', trodAll_mk1 (shut_bool Try.underlying4 _), (trodAll_cons_mk (shut_int Try.underlying3 wx) (trodAll_cons_mk (Below.trod laid_out (by kernel_rfl) (of_decide_eq_true (by kernel_rfl)) k1 bel lt1) trodAll_mk0)), rfl, bel.frame _, fun h => by cases h⟩

theorem journalNone_holds : Rows.JournalNoneSaid :=
  OpenClaim.holds_of_wide 6 Try.f6 rfl rfl rfl rfl rfl rfl rfl ⟨rfl, rfl, rfl, rfl, rfl⟩ rfl rfl rfl rfl rfl (by kernel_rfl) Try.func6 (by kernel_rfl)
    (of_decide_eq_true (by kernel_rfl)) (by unfold Func.isWrapper; first | (rw [if_pos (by decide +kernel)]; kernel_rfl) | (rw [if_neg (by decide +kernel)]; exact ⟨rfl, rfl⟩))
    (fun os started H enc _ => JNone.lifted os started H enc)
#print axioms journalNone_holds
end Go.Proofs.Ytgehefnkbcbldaa
