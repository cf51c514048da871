/-
  SuperNone: for every int and every slice of bytes it returns true, and its arguments read as before. Conditions: none.
-/
import Derived.Test.YtbgaomfoiooegaaSopen
namespace Go.Proofs.Ytbgaomfoiooegaa
open Go.ChangeShapes Go.WideShapes Go.ChangeAt Go.RowKit
set_option linter.unusedVariables false

theorem Load_refused {w0 w : World} {b N : Nat} {F : Nat → Prop} {S : St} (h : Run w0 w b N F S) (at_ : Int) (e : Int) (hE : chkE S.safe.length at_ 0 = e) (he : e ≠ 0) :
    Calls Try.prog 12 #[.pointer (some ⟨b, 0, none⟩), .int .i64 at_] w fun r w' => r = .returned (.tuple #[.slice none 0 0, .int .i64 0, .int .i64 e]) ∧ Run w0 w' b N F S := by
  obtain ⟨g, c, m, vf, D, h0⟩ := h.dev
  refine (Load_bad at_ h0.dev h0.n2 (by rw [hE]; exact he)).mono ?_
  rintro r w' ⟨rfl, hb⟩
  exact ⟨by rw [hE], h.grown (hb _)⟩
theorem Store_refused {w0 w : World} {b N : Nat} {F : Nat → Prop} {S : St} (h : Run w0 w b N F S) (at_ : Int) (x : Option Addr) (l q : Nat) (e : Int) (hE : chkE S.safe.length at_ l = e) (he : e ≠ 0) :
    Calls Try.prog 17 #[.pointer (some ⟨b, 0, none⟩), .int .i64 at_, .slice x l q] w fun r w' => r = .returned (.int .i64 e) ∧ Run w0 w' b N F S := by
  obtain ⟨g, c, m, vf, D, h0⟩ := h.dev
  refine (Store_bad at_ x l q h0.dev h0.n2 (by rw [hE]; exact he)).mono ?_
  rintro r w' ⟨rfl, hb⟩
  exact ⟨by rw [hE], h.grown (hb _)⟩

set_option maxRecDepth 100000 in
set_option maxHeartbeats 3200000 in
theorem SNone.walk (k : Int) (a : Option Addr) (c : Nat) (d : List UInt8) (w : World) (hv : Sl w (.slice a d.length c) d) (hk0 : -9223372036854775808 ≤ k) (hk1 : k ≤ 9223372036854775807) :
    Calls Try.prog 6 #[.int .i64 k, .slice a d.length c] w fun e w' => e = .returned (.bool true) ∧ Below w.heap.size w w' := by
  have HV := hide hv
  clear hv
  have hl64 : (St.new 64).safe.length = 64 := List.length_replicate
  by_cases hat : k < 0 ∨ k > 62
  · have E1 : Hid (chkE (St.new 64).safe.length k 0 = 20) := hide (by rw [hl64]; unfold chkE; rw [if_pos (by omega)])
    have E2 : Hid (chkE (St.new 64).safe.length k d.length = 20) := hide (by rw [hl64]; unfold chkE; rw [if_pos (by omega)])
    clear hl64
    by_cases hk : k < 0
    · clear hat
      go_enter Try.func6, Try.ntmps6
      go_wp2_with fail
      refine (awake_any _).mono ?_
      rintro e w1 ⟨rfl, b1⟩
      have HB1 := hide b1
      clear b1
      go_wp2_with fail
      refine (New_run w w1 (unhide HB1)).mono ?_
      rintro e w2 ⟨rfl, r2, _⟩
      have R2 := hide r2
      clear r2
      go_wp2_with fail
      refine (Load_nil _ _).mono ?_
      rintro e w' ⟨rfl, rfl⟩
      go_wp2_with fail
      refine (Format_nil _ _ _).mono ?_
      rintro e w' ⟨rfl, rfl⟩
      go_wp2_with fail
      refine (Store_nil _ _ _).mono ?_
      rintro e w' ⟨rfl, rfl⟩
      go_wp2_with fail
      refine (Load_refused (unhide R2) k 20 (unhide E1) (by decide)).mono ?_
      rintro e w3 ⟨rfl, r3⟩
      have R3 := hide r3
      clear r3
      go_wp2_with fail
      refine (Store_refused (unhide R3) k _ _ _ 20 (unhide E2) (by decide)).mono ?_
      rintro e w4 ⟨rfl, r4⟩
      have R4 := hide r4
      clear r4
      go_wp2
      go_ret
      exact ⟨rfl, (unhide R4).bel⟩
    · have hk2 : 62 < k := by omega
      clear hat
      go_enter Try.func6, Try.ntmps6
      go_wp2_with fail
      refine (awake_any _).mono ?_
      rintro e w1 ⟨rfl, b1⟩
      have HB1 := hide b1
      clear b1
      go_wp2_with fail
      refine (New_run w w1 (unhide HB1)).mono ?_
      rintro e w2 ⟨rfl, r2, _⟩
      have R2 := hide r2
      clear r2
      go_wp2_with fail
      refine (Load_nil _ _).mono ?_
      rintro e w' ⟨rfl, rfl⟩
      go_wp2_with fail
      refine (Format_nil _ _ _).mono ?_
      rintro e w' ⟨rfl, rfl⟩
      go_wp2_with fail
      refine (Store_nil _ _ _).mono ?_
      rintro e w' ⟨rfl, rfl⟩
      go_wp2_with fail
      refine (Load_refused (unhide R2) k 20 (unhide E1) (by decide)).mono ?_
      rintro e w3 ⟨rfl, r3⟩
      have R3 := hide r3
      clear r3
      go_wp2_with fail
      refine (Store_refused (unhide R3) k _ _ _ 20 (unhide E2) (by decide)).mono ?_
      rintro e w4 ⟨rfl, r4⟩
      have R4 := hide r4
      clear r4
      go_wp2
      go_ret
      exact ⟨rfl, (unhide R4).bel⟩
  obtain ⟨n, rfl⟩ : ∃ n : Nat, k = n := ⟨k.toNat, by omega⟩
  have hn : n + 1 < 64 := by omega
  have hn0 : (0 : Int) ≤ (n : Int) := by omega
  have hn1 : (n : Int) ≤ 62 := by omega
  clear hat
  have e0 : Hid ((St.new 64).rcd n = noSlot) := hide (new_rcd n hn)
  by_cases hd : 400 < d.length
  · have E2 : Hid (chkE (St.new 64).burn.burn.safe.length n d.length = 31) := hide (by show chkE (St.new 64).safe.length n d.length = 31; rw [hl64]; unfold chkE; rw [if_neg (by omega), if_pos hd])
    clear hl64
    go_enter Try.func6, Try.ntmps6
    go_wp2_with fail
    refine (awake_any _).mono ?_
    rintro e w1 ⟨rfl, b1⟩
    have HB1 := hide b1
    clear b1
    go_wp2_with fail
    refine (New_run w w1 (unhide HB1)).mono ?_
    rintro e w2 ⟨rfl, r2, _⟩
    have R2 := hide r2
    clear r2
    go_wp2_with fail
    refine (Load_nil _ _).mono ?_
    rintro e w' ⟨rfl, rfl⟩
    go_wp2_with fail
    refine (Format_nil _ _ _).mono ?_
    rintro e w' ⟨rfl, rfl⟩
    go_wp2_with fail
    refine (Store_nil _ _ _).mono ?_
    rintro e w' ⟨rfl, rfl⟩
    go_wp2_with fail
    refine (Load_no (unhide R2) Up.new n hn (by omega) (by rw [unhide e0]; rfl)).mono ?_
    rintro e w3 ⟨rfl, r3, _⟩
    have R3 := hide r3
    clear r3
    go_wp2_with fail
    refine (Store_refused (unhide R3) n _ _ _ 31 (unhide E2) (by decide)).mono ?_
    rintro e w4 ⟨rfl, r4⟩
    have R4 := hide r4
    clear r4
    go_wp2
    go_ret
    exact ⟨rfl, (unhide R4).bel⟩
  · have hd2 : d.length ≤ 400 := by omega
    clear hl64 hd
    go_enter Try.func6, Try.ntmps6
    go_wp2_with fail
    refine (awake_any _).mono ?_
    rintro e w1 ⟨rfl, b1⟩
    have HB1 := hide b1
    clear b1
    go_wp2_with fail
    refine (New_run w w1 (unhide HB1)).mono ?_
    rintro e w2 ⟨rfl, r2, _⟩
    have R2 := hide r2
    clear r2
    go_wp2_with fail
    refine (Load_nil _ _).mono ?_
    rintro e w' ⟨rfl, rfl⟩
    go_wp2_with fail
    refine (Format_nil _ _ _).mono ?_
    rintro e w' ⟨rfl, rfl⟩
    go_wp2_with fail
    refine (Store_nil _ _ _).mono ?_
    rintro e w' ⟨rfl, rfl⟩
    go_wp2_with fail
    refine (Load_no (unhide R2) Up.new n hn (by omega) (by rw [unhide e0]; rfl)).mono ?_
    rintro e w3 ⟨rfl, r3, _⟩
    have R3 := hide r3
    clear r3
    go_wp2_with fail
    refine (Store_no (unhide R3) Up.new.burn.burn n hn (by omega) a c d ((unhide R3).sl (unhide HV)) ((unhide R3).notF (unhide HV)) hd2 (by show ((St.new 64).rcd n).laid = false; rw [unhide e0]; rfl) (by show ((St.new 64).rcd n).count < _; rw [unhide e0]; decide)).mono ?_
    rintro e w4 ⟨rfl, F4, r4, _⟩
    have R4 := hide r4
    clear r4
    go_wp2
    go_ret
    exact ⟨rfl, (unhide R4).bel⟩

set_option maxRecDepth 100000 in
theorem SNone.lifted (os : Os) (started : os.Started) (H : Type) (enc : TypeId × Value → H) :
    ReturnsInHanded {} Try.checked os 6 .any (Rows.superNoneSpec.pre6 enc Try.prog Try.f6 Rows.superNoneRow.domain false) (Rows.superNoneSpec.post enc Try.prog Try.f6 false true false false) := by
  refine returnsInHanded_of_change (C := Try.checked) own_knob started (by kernel_rfl) Try.func6
    (ChangeSpec.witness6 (enc := enc) (C := Try.checked) false ⟨#[], #[.int .i64 0, .slice none 0 0], []⟩ 8 (by kernel_rfl) (by kernel_rfl) (by kernel_rfl) (by kernel_rfl)) ?_
  intro W base args ds gs before hval0 hW hcnd _
  have hval : ∀ (j : Nat) t v, Try.f6.params[j]? = some t → args[j]? = some v → Value.okWide Try.prog W .any base t v := hval0
  have hW' := hW
  obtain ⟨p, q, hA0, hV, rfl, hfz, hnd⟩ := hW
  have hA : DataW.TrodAll enc Try.prog W 0 (fun _ => true) true Try.f6.params.toList args.toList ds p := hA0
  rw [Try.params6] at hA hval
  obtain ⟨v0, v1, d0, d1, p0, p1, rfl, rfl, rfl, h0, h1⟩ := trodAll_two hA
  obtain ⟨rfl, rfl⟩ := trodVars_none hV
  obtain ⟨x, rfl, rfl, rfl, wx⟩ := open_int Try.underlying3 (hval 0 3 v0 rfl rfl) h0
  obtain ⟨a1, len1, cap1, rfl⟩ := okWide_slice Try.underlying22 (hval 1 22 v1 rfl rfl)
  have k1 := h1
  have lt1 : ∀ x ∈ p1, x.block < W.heap.size := by obtain ⟨m, hm⟩ := k1; exact DataW.trod_lt m _ _ _ hm
  obtain ⟨l1, hl1, _⟩ := open_bytes h1
  obtain rfl : len1 = l1.length := hl1.lenEq
  have bx := bounds_i64 wx
  clear hA0 hval0
  refine (SNone.walk x a1 cap1 l1 W hl1 (by omega) (by omega)).mono fun e W' ⟨he, bel⟩ => ?_
  subst he
  exact ⟨_, rfl, _, _, _, [], _, [], hW', trodAll_mk1 (shut_bool Try.underlying4 _), (trodAll_cons_mk (shut_int Try.underlying3 wx) (trodAll_cons_mk (Below.trod laid_out (by kernel_rfl) (of_decide_eq_true (by kernel_rfl)) k1 bel lt1) trodAll_mk0)), rfl, bel.frame _, fun h => by cases h⟩

theorem superNone_holds : Rows.SuperNoneSaid :=
  OpenClaim.holds_of_wide 6 Try.f6 rfl rfl rfl rfl rfl rfl rfl ⟨rfl, rfl, rfl, rfl, rfl⟩ rfl rfl rfl rfl rfl (by kernel_rfl) Try.func6 (by kernel_rfl)
    (of_decide_eq_true (by kernel_rfl)) (by unfold Func.isWrapper; first | (rw [if_pos (by decide +kernel)]; kernel_rfl) | (rw [if_neg (by decide +kernel)]; exact ⟨rfl, rfl⟩))
    (fun os started H enc _ => SNone.lifted os started H enc)
#print axioms superNone_holds
end Go.Proofs.Ytbgaomfoiooegaa
