/-
  DERIVED. FormEscapes, where what it reads is of bulk at most 1048576: any text is what its escaped bytes stand for.
-/
import Derived.Test.YtihkbbhckdpaiabDoorShaw
import Derived.Test.YtihkbbhckdpaiabDoorShlaid
import Derived.Test.YtihkbbhckdpaiabDoorCards
import Derived.Test.YtihkbbhckdpaiabDoorTie
import Derived.SevenTiedAt
import Derived.OpenShut
import Derived.ShutString
import Derived.ChangeMaps
import Derived.Deep.DeepHandedRow
namespace Go.Proofs.YtihkbbhckdpaiabDoor
open Go.ChangeShapes Go.WideShapes Go.ChangeAt Go.RowKit
open Go.ChangeMaps (open_string shut_string)
set_option linter.unusedVariables false

theorem out_tests {d : UInt8} (h : outB d = true) : ¬ (d.toNat : Int) ≤ 32 ∧ ¬ (126 : Int) < d.toNat ∧ ((d.toNat : Int) == 38) = false ∧ ((d.toNat : Int) == 61) = false ∧ ((d.toNat : Int) == 47) = false ∧ ((d.toNat : Int) == 124) = false := by
  unfold outB at h
  simp at h
  simp
  omega

set_option maxHeartbeats 4000000 in
theorem ShEsc.walk (s t : List UInt8) (w : World) (hs : s.length ≤ 1048576) (ht : t.length ≤ 1048576) (hva : Vars w) :
    Calls Tryd.prog 3 #[sv s, sv t] w fun e w' => e = .returned (.bool true) ∧ Below w.heap.size w w' := by
  have HA := hide (awake_go w hva)
  obtain ⟨x, hx⟩ : ∃ x, x = esc s := ⟨_, rfl⟩
  obtain ⟨y, hy⟩ : ∃ y, y = esc t := ⟨_, rfl⟩
  have hxl : x.length ≤ 3145728 := by have := esc_length s; rw [hx]; omega
  have HEs : Hid (∀ W, Calls Tryd.prog 5 #[sv s] W fun e w' => e = .returned (sv x) ∧ Below W.heap.size W w') := hide (fun W => by rw [hx]; exact Escape_any s W (by omega))
  have HEt : Hid (∀ W, Calls Tryd.prog 5 #[sv t] W fun e w' => e = .returned (sv y) ∧ Below W.heap.size W w') := hide (fun W => by rw [hy]; exact Escape_any t W (by omega))
  have HU : Hid (∀ W, Calls Tryd.prog 6 #[sv x] W fun e w' => e = .returned (.tuple #[sv s, .bool true]) ∧ Below W.heap.size W w') := hide (fun W => by have := Unescape_any x W (by omega); rw [hx, unesc_esc] at this; rw [hx]; exact this)
  have HOut : Hid (∀ (k : Nat) (d : UInt8), x[k]? = some d → outB d = true) := hide (fun k d hd => esc_out s d (by rw [← hx]; exact List.mem_of_getElem? hd))
  have HXY : Hid ((x == y) = (s == t)) := hide (by
    rw [hx, hy]
    by_cases e : s = t
    · subst e; rw [beq_self_eq_true, beq_self_eq_true]
    · have h1 : (s == t) = false := beq_eq_false_iff_ne.2 e
      have h2 : (esc s == esc t) = false := beq_eq_false_iff_ne.2 (fun h => e (esc_inj h))
      rw [h1, h2])
  clear hva hx hy
  go_enter Tryd.func3, Tryd.ntmps3
  have m1 : True := trivial
  go_upto_region 5 with (first | (go_at_call 4; refine (unhide HA).mono ?_; rintro e w1 ⟨rfl, b1⟩; have HB1 := hide b1; clear b1) | (go_at_call 5; clear m1; refine (unhide HEs _).mono ?_; rintro e w2 ⟨rfl, b2⟩; have HB2 := hide ((unhide HB1).trans (b2.mono (unhide HB1).size)); clear b2) | (go_at_call 5; refine (unhide HEt _).mono ?_; rintro e w3 ⟨rfl, b3⟩; have HB3 := hide ((unhide HB2).trans (b3.mono (unhide HB2).size)); clear b3) | (go_at_call 6; refine (unhide HU _).mono ?_; rintro e w4 ⟨rfl, b4⟩; have HB4 := hide ((unhide HB3).trans (b4.mono (unhide HB3).size)); clear b4))
  clear HA HEs HEt HU
  go_wp2_with fail
  go_loopw [10] (fun i wr => ∃ (k : Nat), k ≤ x.length ∧ i = .int .i64 k ∧ Hid (wr = w4)) (fun i _ => x.length - (intOf i).toNat)
  case atStart => exact ⟨0, by omega, rfl, hide rfl⟩
  case round =>
    obtain ⟨k, hk, rfl, HW⟩ := hrel
    by_cases hlt : k < x.length
    · obtain ⟨d, hd⟩ : ∃ d, x[k]? = some d := ⟨_, List.getElem?_eq_getElem hlt⟩
      have hB := byte_at hd
      obtain ⟨t1, t2, t3, t4, t5, t6⟩ := out_tests (unhide HOut k d hd)
      have hdl := d.toNat_lt
      clear hd
      go_wp2_with fail
      go_roundw
      case rel => exact ⟨k + 1, by omega, by go_num, HW⟩
      case measure => simp [intOf]; omega
    · have HR : Hid (Below w.heap.size w wr) := hide (by rw [unhide HW]; exact unhide HB4)
      have hxy := unhide HXY
      go_wp2_with fail
      go_ret
      exact ⟨by first | rfl | simp, unhide HR⟩

theorem reads_esc (os : Os) {H : Type} (enc : TypeId × Value → H) : ∃ places, DataW.whole enc Tryd.prog ((laidWorld os).forCall (fun _ _ => 0) ⟨#[], #[.string ⟨#[]⟩, .string ⟨#[]⟩], []⟩).memory Tryd.f3.params.toList Rows.formEscapesSpec.vars false #[Value.string ⟨#[]⟩, Value.string ⟨#[]⟩].toList 8 = some ([.lit (.string []), .lit (.string [])], [], places) :=
  ⟨[], by kernel_rfl⟩

set_option maxRecDepth 100000 in
theorem esc_contract (H : Type) (enc : TypeId × Value → H) (W : World) (base : Nat) (args : Array Value) (ds gs : List (DataW H)) (before : List MemPlace)
    (hval0 : ∀ (j : Nat) t v, Tryd.f3.params[j]? = some t → args[j]? = some v → Value.okWide Tryd.prog W .any base t v)
    (hW : DataW.Whole enc Tryd.prog Tryd.f3.params.toList Rows.formEscapesSpec.vars false W args.toList ds gs before) (hL : laidMetH Tryd.prog seatLaid W) (hk : Rows.uptoSmall H (ds ++ gs) = true) :
    Calls Tryd.prog 3 args W fun e W' => ∃ v, e = .returned v ∧ Rows.formEscapesSpec.post enc Tryd.prog Tryd.f3 false true false false W args v W' := by
  have hval : ∀ (j : Nat) t v, Tryd.f3.params[j]? = some t → args[j]? = some v → Value.okWide Tryd.prog W .any base t v := hval0
  have hW' := hW
  obtain ⟨p, q, hA0, hV, rfl, hfz, hnd⟩ := hW
  have hA : DataW.TrodAll enc Tryd.prog W 0 (fun _ => true) true Tryd.f3.params.toList args.toList ds p := hA0
  rw [Tryd.params3] at hA hval
  obtain ⟨v0, vs0, d0, ds0, p0, q0, e0, rfl, rfl, h0, hA⟩ := trodAll_cons hA
  obtain ⟨v1, vs1, d1, ds1, p1, q1, rfl, rfl, rfl, h1, hA⟩ := trodAll_cons hA
  obtain ⟨rfl, rfl, rfl⟩ := trodAll_nil hA
  obtain rfl : args = #[v0, v1] := by cases args; simp_all
  obtain ⟨rfl, rfl⟩ := trodVars_none hV
  obtain ⟨s0, rfl, rfl, rfl, hs0⟩ := open_string Tryd.underlying9 (hval 0 9 v0 rfl rfl) h0
  obtain ⟨s1, rfl, rfl, rfl, hs1⟩ := open_string Tryd.underlying9 (hval 1 9 v1 rfl rfl) h1
  have hb : s0.data.toList.length ≤ 1048576 ∧ s1.data.toList.length ≤ 1048576 := by
    simp only [Rows.uptoSmall, List.append_nil, decide_eq_true_eq, Rows.uptoBulkAll, Rows.uptoBulk] at hk
    omega
  clear hA0 hval0
  refine (ShEsc.walk s0.data.toList s1.data.toList W hb.1 hb.2 (vars_of_laid hL)).mono fun e W' ⟨he, bel⟩ => ?_
  subst he
  exact ⟨_, rfl, _, _, _, [], _, [], hW', trodAll_mk1 (shut_bool Tryd.underlying4 _), (trodAll_cons_mk (shut_string Tryd.underlying9 hs0) (trodAll_cons_mk (shut_string Tryd.underlying9 hs1) trodAll_mk0)), rfl, bel.frame _, fun h => by cases h⟩

set_option maxRecDepth 100000 in
theorem ShEsc.lifted (os : Os) (started : os.Started) (H : Type) (enc : TypeId × Value → H) (F : Stop.Interp) :
    ReturnsInHanded {} Tryd.checked os 3 .any ((Rows.OpenSpec.upto Rows.formEscapesSpec).preRow enc Tryd.prog Tryd.f3 Rows.formEscapesUptoRow.domain false Rows.formEscapesUptoRow.laid) (((Rows.OpenSpec.upto Rows.formEscapesSpec).at F).post enc Tryd.prog Tryd.f3 false true false false) := by
  obtain ⟨places, hx⟩ := reads_esc os enc
  refine returnsInHanded_of_row (C := Tryd.checked) (s := Rows.OpenSpec.upto Rows.formEscapesSpec) own_knob started (by kernel_rfl) Tryd.func3
    (witness_row_at (enc := enc) (C := Tryd.checked) false (laidWorld os) #[.string ⟨#[]⟩, .string ⟨#[]⟩] rfl (by kernel_rfl) (by kernel_rfl) (by kernel_rfl)
      (OpenSpec.preRow_of_cond 8 hx (by kernel_rfl) (fun k hk => by cases hk; kernel_rfl) (by kernel_rfl) (laidWorld_met os _))) ?_
  intro W base args ds gs before hval hW _ hk _ hL _ _
  exact esc_contract H enc W base args ds gs before hval hW hL (hk _ rfl)

theorem formEscapes_upto : Rows.FormEscapesUptoSaid :=
  OpenClaim.holds_of_cond 3 Tryd.f3 rfl rfl rfl rfl rfl rfl rfl ⟨rfl, rfl, rfl, rfl, rfl⟩ rfl rfl rfl rfl rfl (by kernel_rfl) Tryd.func3 (by kernel_rfl)
    (of_decide_eq_true (by kernel_rfl)) (by unfold Func.isWrapper; first | (rw [if_pos (by decide +kernel)]; kernel_rfl) | (rw [if_neg (by decide +kernel)]; exact ⟨rfl, rfl⟩))
    (fun os started H enc _ F => by rw [OpenClaim.pre_eq_preRow]; exact ShEsc.lifted os started H enc F)

theorem formEscapesUptoCard_holds : Rows.FormEscapesUptoCardSaid :=
  Claim7.holds_tied_plain_at .later [] _ _ _ _
    formEscapes_upto (fun _ h => by cases h) (by kernel_rfl) (fun _ h => by cases h) formEscapesUpto_row_tie rfl ⟨rfl, rfl⟩ (by kernel_rfl) rfl
    (fun f fn hf hfn => by
      obtain rfl : f = 3 := Option.some.inj ((show Tryd.prog.funcNamed "cartulary/cartularylaw12.FormEscapes" = some 3 by kernel_rfl).symm.trans hf) |>.symm
      obtain rfl : fn = Tryd.f3 := (Option.some.inj (Tryd.func3.symm.trans hfn)).symm
      exact ⟨by kernel_rfl, fun j t ht => by
        rw [Tryd.params3] at ht
        have h0 : ∀ (t : TypeId), t ∈ ([9, 9] : List TypeId) → Tryd.prog.wantsStandIn t = false := by
          intro t ht
          simp only [List.mem_cons, List.not_mem_nil, or_false] at ht
          rcases ht with rfl | rfl <;> kernel_rfl
        exact h0 t (List.mem_of_getElem? (by simpa using ht))⟩)
    (by kernel_rfl)
#print axioms formEscapesUptoCard_holds
end Go.Proofs.YtihkbbhckdpaiabDoor
