/-
  DERIVED. FormReads, where what it reads is of bulk at most 1048576: any text is read, unescaped, escaped, and a name, as the document says.
-/
import Derived.Test.YtkgepklmhdjjnaaGreatDoorShRr
import Derived.Test.YtkgepklmhdjjnaaGreatDoorShR2
import Derived.Test.YtkgepklmhdjjnaaGreatDoorShaw
import Derived.Test.YtkgepklmhdjjnaaGreatDoorShsame
import Derived.Test.YtkgepklmhdjjnaaGreatDoorShlaid
import Derived.Test.YtkgepklmhdjjnaaGreatDoorCards
import Derived.Test.YtkgepklmhdjjnaaGreatDoorTie
import Derived.SevenTiedAt
import Derived.OpenShut
import Derived.ShutString
import Derived.ChangeMaps
import Derived.Deep.DeepHandedRow
namespace Go.Proofs.YtkgepklmhdjjnaaGreatDoor
open Go.ChangeShapes Go.WideShapes Go.ChangeAt Go.RowKit
open Go.ChangeMaps (open_string shut_string)
set_option linter.unusedVariables false

/-- Both Reads answer alike: one error, and lists that read as the same. -/
def RdBoth (w : World) (r : Except Int (List Fld)) (v : Value) (n : Int) (W : World) : Prop :=
  Below w.heap.size w W ∧ n = errS r ∧ ∃ R, FdL W v R ∧ (∀ S, r = .ok S → IsRec S R) ∧ (∀ e, r = .error e → R = [])
theorem nil_fdl (W : World) : FdL W (.slice none 0 0) [] := ⟨none, 0, rfl, by simp, by omega, fun h => absurd rfl h⟩
theorem RdPost.both {w : World} {r : Except Int (List Fld)} {e : Ending} {W : World} (h : RdPost w r e W) : ∃ v n, e = .returned (.tuple #[v, .int .i64 n]) ∧ RdBoth w r v n W := by
  cases r with
  | error n =>
    obtain ⟨rfl, b⟩ := h
    exact ⟨_, n, rfl, b, rfl, [], nil_fdl W, (fun S e => by cases e), fun _ _ => rfl⟩
  | ok S =>
    obtain ⟨v, R, rfl, ho, hr, _, b⟩ := h
    exact ⟨v, 0, rfl, b, rfl, R, ho.fdl, (fun S' e => by cases e; exact hr), (fun _ e => by cases e)⟩
theorem RdBoth.same {w w2 : World} {r : Except Int (List Fld)} {v v2 : Value} {n n2 : Int} {W W2 : World} (h : RdBoth w r v n W) (k : RdBoth w2 r v2 n2 W2) (b : Below W.heap.size W W2) : n = n2 ∧ ∃ R, FdL W2 v R ∧ FdL W2 v2 R := by
  obtain ⟨_, e1, R, f1, g1, i1⟩ := h
  obtain ⟨_, e2, R2, f2, g2, i2⟩ := k
  refine ⟨e1.trans e2.symm, R, f1.below b (Nat.le_refl _), ?_⟩
  cases r with
  | error n => rw [i1 n rfl]; rw [i2 n rfl] at f2; exact f2
  | ok S => rw [(g1 S rfl).unique (g2 S rfl)]; exact f2

set_option maxHeartbeats 4000000 in
theorem ShReads.walk (t : List UInt8) (w : World) (ht : t.length ≤ 1048576) (hva : Vars w) :
    Calls Tryz.prog 3 #[sv t] w fun e w' => e = .returned (.bool true) ∧ Below w.heap.size w w' := by
  have HA := hide (awake_go w hva)
  have HV := hide hva
  have HRd : Hid (∀ W, Below w.heap.size w W → Calls Tryz.prog 10 #[sv t] W fun e w' => ∃ v n, e = .returned (.tuple #[v, .int .i64 n]) ∧ RdBoth W (readAll t) v n w') := hide (fun W hW => (Read_any t W (by omega) (hva.below hW (Nat.le_refl _))).mono fun e w' h => h.both)
  have HrRd : Hid (∀ W, Calls Tryz.prog 11 #[sv t] W fun e w' => ∃ v n, e = .returned (.tuple #[v, .int .i64 n]) ∧ RdBoth W (readAll t) v n w') := hide (fun W => (rRead_any t W ht).mono fun e w' h => h.both)
  have HU : Hid (∀ W, Calls Tryz.prog 13 #[sv t] W fun e w' => e = .returned (.tuple #[sv ((unesc t).getD []), .bool (unesc t).isSome]) ∧ Below W.heap.size W w') := hide (fun W => Unescape_any t W (by omega))
  have HrU : Hid (∀ W, Calls Tryz.prog 14 #[sv t] W fun e w' => e = .returned (.tuple #[sv ((unesc t).getD []), .bool (unesc t).isSome]) ∧ Below W.heap.size W w') := hide (fun W => rUnescaped_any t W (by omega))
  obtain ⟨u, hu⟩ : ∃ u, u = (unesc t).getD [] := ⟨_, rfl⟩
  obtain ⟨ok, hok⟩ : ∃ ok, ok = (unesc t).isSome := ⟨_, rfl⟩
  have hnone : ok = false → u = [] := fun e => by
    rw [hok] at e; rw [hu]
    cases h : unesc t with
    | none => rfl
    | some x => rw [h] at e; cases e
  rw [← hu, ← hok] at HU HrU
  obtain ⟨x, hx⟩ : ∃ x, x = esc t := ⟨_, rfl⟩
  have HE : Hid (∀ W, Calls Tryz.prog 15 #[sv t] W fun e w' => e = .returned (sv x) ∧ Below W.heap.size W w') := hide (fun W => by rw [hx]; exact Escape_any t W (by omega))
  have HrE : Hid (∀ W, Calls Tryz.prog 16 #[sv t] W fun e w' => e = .returned (sv x) ∧ Below W.heap.size W w') := hide (fun W => by rw [hx]; exact rEscaped_any t W (by omega))
  obtain ⟨nb, hnb⟩ : ∃ nb, nb = nameB t := ⟨_, rfl⟩
  have HN : Hid (∀ W, Calls Tryz.prog 17 #[sv t] W fun e w' => e = .returned (.bool nb) ∧ W = w') := hide (fun W => by rw [hnb]; exact Name_any t W (by omega))
  have HrN : Hid (∀ W, Calls Tryz.prog 18 #[sv t] W fun e w' => e = .returned (.bool nb) ∧ W = w') := hide (fun W => by rw [hnb]; exact rName_any t W (by omega))
  obtain ⟨all, hall⟩ : ∃ all, all = readAll t := ⟨_, rfl⟩
  rw [← hall] at HRd HrRd
  have HNO := hide hnone
  clear hva hu hok hx hnb hall hnone
  go_enter Tryz.func3, Tryz.ntmps3
  go_upto_region 4 with (first | (go_at_call 9; refine (unhide HA).mono ?_; rintro e w1 ⟨rfl, b1⟩; have HB1 := hide b1; clear b1) | (go_at_call 10; refine (unhide HRd _ (unhide HB1)).mono ?_; rintro e w2 ⟨v2, n2, rfl, h2⟩; have H2 := hide h2; have HB2 := hide ((unhide HB1).trans (h2.1.mono (unhide HB1).size)); clear h2) | (go_at_call 11; refine (unhide HrRd _).mono ?_; rintro e w3 ⟨v3, n3, rfl, h3⟩; obtain ⟨rfl, hR⟩ := (unhide H2).same h3 h3.1; have H3 := hide hR; have HB3 := hide ((unhide HB2).trans (h3.1.mono (unhide HB2).size)); clear h3 hR))
  clear HA HRd HrRd H2
  go_upto_region 7 with (first | (go_at_call 12; refine ((unhide H3).elim fun R hR => Same_eq _ _ R _ hR.1 hR.2).mono ?_; rintro e w4 ⟨rfl, b4⟩; have HB4 := hide ((unhide HB3).trans (b4.mono (unhide HB3).size)); clear b4) | (go_at_call 13; refine (unhide HU _).mono ?_; rintro e w5 ⟨rfl, b5⟩; have HB5 := hide ((unhide HB4).trans (b5.mono (unhide HB4).size)); clear b5) | (go_at_call 14; refine (unhide HrU _).mono ?_; rintro e w6 ⟨rfl, b6⟩; have HB6 := hide ((unhide HB5).trans (b6.mono (unhide HB5).size)); clear b6))
  clear HU HrU H3
  cases ok with
  | false =>
    have hu0 := unhide HNO rfl
    subst hu0
    go_wp2_with (first | (go_at_call 15; refine (unhide HE _).mono ?_; rintro e w7 ⟨rfl, b7⟩; have HB7 := hide ((unhide HB6).trans (b7.mono (unhide HB6).size)); clear b7) | (go_at_call 16; refine (unhide HrE _).mono ?_; rintro e w8 ⟨rfl, b8⟩; have HB8 := hide ((unhide HB7).trans (b8.mono (unhide HB7).size)); clear b8) | (go_at_call 17; refine (unhide HN _).mono ?_; rintro e w' ⟨rfl, rfl⟩) | (go_at_call 18; refine (unhide HrN _).mono ?_; rintro e w' ⟨rfl, rfl⟩))
    go_ret
    exact ⟨by simp, unhide HB8⟩
  | true =>
    go_wp2_with (first | (go_at_call 15; refine (unhide HE _).mono ?_; rintro e w7 ⟨rfl, b7⟩; have HB7 := hide ((unhide HB6).trans (b7.mono (unhide HB6).size)); clear b7) | (go_at_call 16; refine (unhide HrE _).mono ?_; rintro e w8 ⟨rfl, b8⟩; have HB8 := hide ((unhide HB7).trans (b8.mono (unhide HB7).size)); clear b8) | (go_at_call 17; refine (unhide HN _).mono ?_; rintro e w' ⟨rfl, rfl⟩) | (go_at_call 18; refine (unhide HrN _).mono ?_; rintro e w' ⟨rfl, rfl⟩))
    go_ret
    exact ⟨by simp, unhide HB8⟩

set_option maxRecDepth 100000 in
theorem reads_contract (H : Type) (enc : TypeId × Value → H) (W : World) (base : Nat) (args : Array Value) (ds gs : List (DataW H)) (before : List MemPlace)
    (hval0 : ∀ (j : Nat) t v, Tryz.f3.params[j]? = some t → args[j]? = some v → Value.okWide Tryz.prog W .any base t v)
    (hW : DataW.Whole enc Tryz.prog Tryz.f3.params.toList Rows.formReadsSpec.vars false W args.toList ds gs before) (hL : laidMetH Tryz.prog seatLaid W) (hk : Rows.uptoSmall H (ds ++ gs) = true) :
    Calls Tryz.prog 3 args W fun e W' => ∃ v, e = .returned v ∧ Rows.formReadsSpec.post enc Tryz.prog Tryz.f3 false true false false W args v W' := by
  have hval : ∀ (j : Nat) t v, Tryz.f3.params[j]? = some t → args[j]? = some v → Value.okWide Tryz.prog W .any base t v := hval0
  have hW' := hW
  obtain ⟨p, q, hA0, hV, rfl, hfz, hnd⟩ := hW
  have hA : DataW.TrodAll enc Tryz.prog W 0 (fun _ => true) true Tryz.f3.params.toList args.toList ds p := hA0
  rw [Tryz.params3] at hA hval
  obtain ⟨v0, vs0, d0, ds0, p0, q0, e0, rfl, rfl, h0, hA⟩ := trodAll_cons hA
  obtain ⟨rfl, rfl, rfl⟩ := trodAll_nil hA
  obtain rfl : args = #[v0] := by cases args; simp_all
  obtain ⟨rfl, rfl⟩ := trodVars_none hV
  obtain ⟨s0, rfl, rfl, rfl, hs0⟩ := open_string Tryz.underlying9 (hval 0 9 v0 rfl rfl) h0
  have hb : s0.data.toList.length ≤ 1048576 := by
    simp only [Rows.uptoSmall, List.append_nil, decide_eq_true_eq, Rows.uptoBulkAll, Rows.uptoBulk] at hk
    omega
  clear hA0 hval0
  refine (ShReads.walk s0.data.toList W hb (vars_of_laid hL)).mono fun e W' ⟨he, bel⟩ => ?_
  subst he
  exact ⟨_, rfl, _, _, _, [], _, [], hW', trodAll_mk1 (shut_bool Tryz.underlying4 _), (trodAll_cons_mk (shut_string Tryz.underlying9 hs0) trodAll_mk0), rfl, bel.frame _, fun h => by cases h⟩

theorem reads_reads (os : Os) {H : Type} (enc : TypeId × Value → H) : ∃ places, DataW.whole enc Tryz.prog ((laidWorld os).forCall (fun _ _ => 0) ⟨#[], #[.string ⟨#[]⟩], []⟩).memory Tryz.f3.params.toList Rows.formReadsSpec.vars false #[Value.string ⟨#[]⟩].toList 8 = some ([.lit (.string [])], [], places) :=
  ⟨[], by kernel_rfl⟩

set_option maxRecDepth 100000 in
theorem ShReads.lifted (os : Os) (started : os.Started) (H : Type) (enc : TypeId × Value → H) (F : Stop.Interp) :
    ReturnsInHanded {} Tryz.checked os 3 .any ((Rows.OpenSpec.upto Rows.formReadsSpec).preRow enc Tryz.prog Tryz.f3 Rows.formReadsUptoRow.domain false Rows.formReadsUptoRow.laid) (((Rows.OpenSpec.upto Rows.formReadsSpec).at F).post enc Tryz.prog Tryz.f3 false true false false) := by
  obtain ⟨places, hx⟩ := reads_reads os enc
  refine returnsInHanded_of_row (C := Tryz.checked) (s := Rows.OpenSpec.upto Rows.formReadsSpec) own_knob started (by kernel_rfl) Tryz.func3
    (witness_row_at (enc := enc) (C := Tryz.checked) false (laidWorld os) #[.string ⟨#[]⟩] rfl (by kernel_rfl) (by kernel_rfl) (by kernel_rfl)
      (OpenSpec.preRow_of_cond 8 hx (by kernel_rfl) (fun k hk => by cases hk; kernel_rfl) (by kernel_rfl) (laidWorld_met os _))) ?_
  intro W base args ds gs before hval hW _ hk _ hL _ _
  exact reads_contract H enc W base args ds gs before hval hW hL (hk _ rfl)

theorem formReads_upto : Rows.FormReadsUptoSaid :=
  OpenClaim.holds_of_cond 3 Tryz.f3 rfl rfl rfl rfl rfl rfl rfl ⟨rfl, rfl, rfl, rfl, rfl⟩ rfl rfl rfl rfl rfl (by kernel_rfl) Tryz.func3 (by kernel_rfl)
    (of_decide_eq_true (by kernel_rfl)) (by unfold Func.isWrapper; first | (rw [if_pos (by decide +kernel)]; kernel_rfl) | (rw [if_neg (by decide +kernel)]; exact ⟨rfl, rfl⟩))
    (fun os started H enc _ F => by rw [OpenClaim.pre_eq_preRow]; exact ShReads.lifted os started H enc F)

theorem formReadsUptoCard_holds : Rows.FormReadsUptoCardSaid :=
  Claim7.holds_tied_plain_at .later [] _ _ _ _
    formReads_upto (fun _ h => by cases h) (by kernel_rfl) (fun _ h => by cases h) formReadsUpto_row_tie rfl ⟨rfl, rfl⟩ (by kernel_rfl) rfl
    (fun f fn hf hfn => by
      obtain rfl : f = 3 := Option.some.inj ((show Tryz.prog.funcNamed "cartulary/cartularylaw12.FormReads" = some 3 by kernel_rfl).symm.trans hf) |>.symm
      obtain rfl : fn = Tryz.f3 := (Option.some.inj (Tryz.func3.symm.trans hfn)).symm
      exact ⟨by kernel_rfl, fun j t ht => by
        rw [Tryz.params3] at ht
        have h0 : ∀ (t : TypeId), t ∈ ([9] : List TypeId) → Tryz.prog.wantsStandIn t = false := by
          intro t ht
          simp only [List.mem_cons, List.not_mem_nil, or_false] at ht
          subst ht; kernel_rfl
        exact h0 t (List.mem_of_getElem? (by simpa using ht))⟩)
    (by kernel_rfl)
#print axioms formReadsUptoCard_holds
end Go.Proofs.YtkgepklmhdjjnaaGreatDoor
