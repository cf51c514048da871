/-
  DERIVED. FormBack: what is written is read again as it was; what is read is written in one way alone.
-/
import Derived.Test.YtihkbbhckdpaiaaDoorShaw
import Derived.Test.YtihkbbhckdpaiaaDoorShbm
import Derived.Test.YtihkbbhckdpaiaaDoorShsame
import Derived.Test.YtihkbbhckdpaiaaDoorShopen
import Derived.Test.YtihkbbhckdpaiaaDoorShlaid
import Derived.Test.YtihkbbhckdpaiaaDoorCards
import Derived.Test.YtihkbbhckdpaiaaDoorTie
import Derived.SevenTiedAt
namespace Go.Proofs.YtihkbbhckdpaiaaDoor
open Go.ChangeShapes Go.WideShapes Go.ChangeAt Go.RowKit
open Go.ChangeMaps (open_string shut_string)
set_option linter.unusedVariables false

theorem rec_fits {t : List UInt8} {S R : List Fld} (h : readAll t = .ok S) (hr : IsRec S R) : ∀ f ∈ R, fits f := (rec_check h hr).2.1

theorem isRec_self {R : List Fld} (h : Rising R) : IsRec R R := ⟨h, fun f => Iff.rfl⟩

theorem write_len {fs : List Fld} (hfit : ∀ f ∈ fs, fits f) (h : checkF fs = 0) : (writeT fs).length ≤ 140737488355328 := by
  obtain ⟨h1, h2, _⟩ := check_ok h
  have := join_len (fs.map fldT) (fun x hx => by
    obtain ⟨f, hf, rfl⟩ := List.mem_map.1 hx
    exact fldT_len (hfit f hf) (h2 f hf))
  unfold writeT
  simp at this ⊢
  omega

/-- Read of a record's own text. -/
theorem Read_back (fs : List Fld) (hfit : ∀ f ∈ fs, fits f) (h : checkF fs = 0) (w : World) (hva : Vars w) :
    Calls Tryd.prog 7 #[sv (writeT fs)] w fun e w' => ∃ (a : Option Addr) (c : Nat), e = .returned (.tuple #[.slice a fs.length c, .int .i64 0]) ∧ FdL w' (.slice a fs.length c) fs ∧ Below w.heap.size w w' := by
  refine (Read_ok (writeT fs) w (write_len hfit h) hva fs (read_write hfit h)).mono ?_
  rintro e w' ⟨v, R, rfl, own, hrec, _, hb⟩
  obtain rfl := IsRec.unique hrec (isRec_self (check_ok h).2.2)
  obtain ⟨ao, cap, rfl, g⟩ := id own.fdl
  exact ⟨ao, cap, rfl, own.fdl, hb⟩

set_option maxHeartbeats 4000000 in
theorem ShBack.walk (a : Option Addr) (n c : Nat) (fs : List Fld) (t : List UInt8) (w : World) (hv : FdL w (.slice a n c) fs) (hfit : ∀ f ∈ fs, fits f) (ht : t.length ≤ 140737488351232) (hva : Vars w) :
    Calls Tryd.prog 4 #[.slice a n c, sv t] w fun e w' => e = .returned (.bool true) ∧ Below w.heap.size w w' := by
  have HA := hide (awake_go w hva)
  have HV := hide hv
  have HVa := hide hva
  have HFit := hide hfit
  obtain rfl : n = fs.length := by obtain ⟨_, _, e, _⟩ := hv; cases e; rfl
  clear hv hva hfit
  go_enter Tryd.func4, Tryd.ntmps4
  go_upto_region 2 with (go_at_call 5; refine (unhide HA).mono ?_; rintro e w1 ⟨rfl, b1⟩; have HB1 := hide b1; clear b1)
  have key : ∀ (W : World), Below w.heap.size w W → Calls Tryd.prog 7 #[sv t] W (RdPost W (readAll t)) := fun W hW => Read_any t W (by omega) ((unhide HVa).below hW (Nat.le_refl _))
  have HKey := hide key
  clear key HA
  have hfs : fs.length ≤ 9223372036854775807 := by obtain ⟨_, _, e, h1, h2, _⟩ := unhide HV; cases e; omega
  by_cases hck : checkF fs = 0
  · have HW := hide (Write_ok a fs.length c fs w1 ((unhide HV).below (unhide HB1) (Nat.le_refl _)) (unhide HFit) hck ((unhide HVa).below (unhide HB1) (Nat.le_refl _)))
    have HRB : Hid (∀ W, Below w.heap.size w W → Calls Tryd.prog 7 #[sv (writeT fs)] W fun e w' => ∃ (a : Option Addr) (c : Nat), e = .returned (.tuple #[.slice a fs.length c, .int .i64 0]) ∧ FdL w' (.slice a fs.length c) fs ∧ Below W.heap.size W w') := hide (fun W hW => Read_back fs (unhide HFit) hck W ((unhide HVa).below hW (Nat.le_refl _)))
    clear hck
    go_upto_region 8 with (first | (go_at_call 6; refine (unhide HW).mono ?_; rintro e w2 ⟨rfl, b2⟩; have HB2 := hide ((unhide HB1).trans (b2.mono (unhide HB1).size)); clear b2) | (go_at_call 7; refine (unhide HRB _ (unhide HB2)).mono ?_; rintro e w3 ⟨ra, rc, rfl, hfd, b3⟩; have HB3 := hide ((unhide HB2).trans (b3.mono (unhide HB2).size)); have HSm := hide (Same_eq _ _ fs w3 hfd ((unhide HV).below (unhide HB3) (Nat.le_refl _))); clear hfd b3) | (go_at_call 8; refine (unhide HSm).mono ?_; rintro e w4 ⟨rfl, b4⟩; have HB4 := hide ((unhide HB3).trans (b4.mono (unhide HB3).size)); clear b4))
    clear HW HRB HSm
    cases hr : readAll t with
    | error n =>
      have hn : (n != 0) = true := by simp [readAll_err hr]
      rw [hr] at HKey
      clear hr
      go_wp2_with (go_at_call 7; refine (unhide HKey _ (unhide HB4)).mono ?_; rintro e w5 ⟨rfl, b5⟩; have HB5 := hide ((unhide HB4).trans (b5.mono (unhide HB4).size)); clear b5)
      go_ret
      exact ⟨rfl, unhide HB5⟩
    | ok S =>
      rw [hr] at HKey
      have HRec : Hid (∀ R, IsRec S R → checkF R = 0 ∧ (∀ f ∈ R, fits f) ∧ R.length ≤ 16) := hide (fun R hR => rec_check hr hR)
      clear hr
      go_upto_region 11 with (go_at_call 7; refine (unhide HKey _ (unhide HB4)).mono ?_; rintro e w5 ⟨v, R, rfl, own, hrec, -, b5⟩; have HB5 := hide ((unhide HB4).trans (b5.mono (unhide HB4).size)); obtain ⟨hck5, hfit5, hl5⟩ := unhide HRec R hrec; have HFd5 := hide own.fdl; obtain ⟨va, vc, rfl, hvl, hvc, -⟩ := own.fdl; clear own b5 hrec)
      have HW5 := hide (Write_ok va R.length vc R w5 (unhide HFd5) hfit5 hck5 ((unhide HVa).below (unhide HB5) (Nat.le_refl _)))
      have HRB5 : Hid (∀ W, Below w.heap.size w W → Calls Tryd.prog 7 #[sv (writeT R)] W fun e w' => ∃ (a : Option Addr) (c : Nat), e = .returned (.tuple #[.slice a R.length c, .int .i64 0]) ∧ FdL w' (.slice a R.length c) R ∧ Below W.heap.size W w') := hide (fun W hW => Read_back R hfit5 hck5 W ((unhide HVa).below hW (Nat.le_refl _)))
      have HCk5 : Hid (∀ W, FdL W (.slice va R.length vc) R → Calls Tryd.prog 9 #[.slice va R.length vc] W fun e w' => e = .returned (.int .i64 0) ∧ Below W.heap.size W w') := hide (fun W hW => by have := Check_any va R.length vc R W hW hfit5; rwa [hck5] at this)
      clear hck5 hfit5 HKey HRec
      go_wp2_with (first | (go_at_call 6; refine (unhide HW5).mono ?_; rintro e w6 ⟨rfl, b6⟩; have HB6 := hide ((unhide HB5).trans (b6.mono (unhide HB5).size)); have HFd6 := hide ((unhide HFd5).below b6 (Nat.le_refl _)); clear b6) | (go_at_call 7; refine (unhide HRB5 _ (unhide HB6)).mono ?_; rintro e w7 ⟨qa, qc, rfl, hfd, b7⟩; have HB7 := hide ((unhide HB6).trans (b7.mono (unhide HB6).size)); have HFd7 := hide ((unhide HFd6).below b7 (Nat.le_refl _)); have HSm7 := hide (Same_eq _ _ R w7 (unhide HFd7) hfd); clear hfd b7) | (go_at_call 8; refine (unhide HSm7).mono ?_; rintro e w8 ⟨rfl, b8⟩; have HB8 := hide ((unhide HB7).trans (b8.mono (unhide HB7).size)); have HFd8 := hide ((unhide HFd7).below b8 (Nat.le_refl _)); clear b8) | (go_at_call 9; refine (unhide HCk5 _ (unhide HFd8)).mono ?_; rintro e w9 ⟨rfl, b9⟩; have HB9 := hide ((unhide HB8).trans (b9.mono (unhide HB8).size)); clear b9))
      go_ret
      exact ⟨rfl, unhide HB9⟩
  · have HW := hide (Write_bad a fs.length c fs w1 ((unhide HV).below (unhide HB1) (Nat.le_refl _)) (unhide HFit) (checkF fs) rfl hck)
    obtain ⟨M, hM⟩ : ∃ M, M = checkF fs := ⟨_, rfl⟩
    rw [← hM] at HW hck
    have hm : (M == 0) = false := by simp [hck]
    clear hM hck
    go_upto_region 8 with (go_at_call 6; refine (unhide HW).mono ?_; rintro e w2 ⟨rfl, b2⟩; have HB2 := hide ((unhide HB1).trans (b2.mono (unhide HB1).size)); clear b2)
    cases hr : readAll t with
    | error n =>
      have hn : (n != 0) = true := by simp [readAll_err hr]
      rw [hr] at HKey
      clear hr
      go_wp2_with (go_at_call 7; refine (unhide HKey _ (unhide HB2)).mono ?_; rintro e w5 ⟨rfl, b5⟩; have HB5 := hide ((unhide HB2).trans (b5.mono (unhide HB2).size)); clear b5)
      go_ret
      exact ⟨rfl, unhide HB5⟩
    | ok S =>
      rw [hr] at HKey
      have HRec : Hid (∀ R, IsRec S R → checkF R = 0 ∧ (∀ f ∈ R, fits f) ∧ R.length ≤ 16) := hide (fun R hR => rec_check hr hR)
      clear hr
      go_upto_region 11 with (go_at_call 7; refine (unhide HKey _ (unhide HB2)).mono ?_; rintro e w5 ⟨v, R, rfl, own, hrec, -, b5⟩; have HB5 := hide ((unhide HB2).trans (b5.mono (unhide HB2).size)); obtain ⟨hck5, hfit5, hl5⟩ := unhide HRec R hrec; have HFd5 := hide own.fdl; obtain ⟨va, vc, rfl, hvl, hvc, -⟩ := own.fdl; clear own b5 hrec)
      have HW5 := hide (Write_ok va R.length vc R w5 (unhide HFd5) hfit5 hck5 ((unhide HVa).below (unhide HB5) (Nat.le_refl _)))
      have HRB5 : Hid (∀ W, Below w.heap.size w W → Calls Tryd.prog 7 #[sv (writeT R)] W fun e w' => ∃ (a : Option Addr) (c : Nat), e = .returned (.tuple #[.slice a R.length c, .int .i64 0]) ∧ FdL w' (.slice a R.length c) R ∧ Below W.heap.size W w') := hide (fun W hW => Read_back R hfit5 hck5 W ((unhide HVa).below hW (Nat.le_refl _)))
      have HCk5 : Hid (∀ W, FdL W (.slice va R.length vc) R → Calls Tryd.prog 9 #[.slice va R.length vc] W fun e w' => e = .returned (.int .i64 0) ∧ Below W.heap.size W w') := hide (fun W hW => by have := Check_any va R.length vc R W hW hfit5; rwa [hck5] at this)
      clear hck5 hfit5 HKey HRec
      go_wp2_with (first | (go_at_call 6; refine (unhide HW5).mono ?_; rintro e w6 ⟨rfl, b6⟩; have HB6 := hide ((unhide HB5).trans (b6.mono (unhide HB5).size)); have HFd6 := hide ((unhide HFd5).below b6 (Nat.le_refl _)); clear b6) | (go_at_call 7; refine (unhide HRB5 _ (unhide HB6)).mono ?_; rintro e w7 ⟨qa, qc, rfl, hfd, b7⟩; have HB7 := hide ((unhide HB6).trans (b7.mono (unhide HB6).size)); have HFd7 := hide ((unhide HFd6).below b7 (Nat.le_refl _)); have HSm7 := hide (Same_eq _ _ R w7 (unhide HFd7) hfd); clear hfd b7) | (go_at_call 8; refine (unhide HSm7).mono ?_; rintro e w8 ⟨rfl, b8⟩; have HB8 := hide ((unhide HB7).trans (b8.mono (unhide HB7).size)); have HFd8 := hide ((unhide HFd7).below b8 (Nat.le_refl _)); clear b8) | (go_at_call 9; refine (unhide HCk5 _ (unhide HFd8)).mono ?_; rintro e w9 ⟨rfl, b9⟩; have HB9 := hide ((unhide HB8).trans (b9.mono (unhide HB8).size)); clear b9))
      go_ret
      exact ⟨rfl, unhide HB9⟩

set_option maxRecDepth 100000 in
theorem ShBack.lifted (os : Os) (started : os.Started) (H : Type) (enc : TypeId × Value → H) :
    ReturnsInHanded {} Tryd.checked os 4 .any (fun w args => (Rows.formBackSpec.pre enc Tryd.prog Tryd.f4 [] false w args ∧ laidMetH Tryd.prog seatLaid w) ∧ sizedMet enc Tryd.prog Tryd.f4 (OpenSpec.ofChange Rows.formBackSpec) false w args)
      (Rows.formBackSpec.post enc Tryd.prog Tryd.f4 false true false false) := by
  refine returnsInHanded_of_change_and (C := Tryd.checked) (X := fun w _ => laidMetH Tryd.prog seatLaid w) (fun _ _ _ hh h => h.of_heap hh) own_knob started (by kernel_rfl) Tryd.func4
    (ChangeSpec.witness_at (enc := enc) (C := Tryd.checked) (os := os) (X := fun w _ => laidMetH Tryd.prog seatLaid w) false (laidWorld os) #[.slice none 0 0, .string ⟨#[]⟩] 8 rfl (by kernel_rfl) (by kernel_rfl) (by kernel_rfl) (by kernel_rfl) (by kernel_rfl) (laidWorld_met os _)) ?_
  intro W base args ds gs before hval0 hW _ hsz0 hL _
  have hval : ∀ (j : Nat) t v, Tryd.f4.params[j]? = some t → args[j]? = some v → Value.okWide Tryd.prog W .any base t v := hval0
  have hsz : (DataW.weightsEach Tryd.prog (Tryd.f4.params.toList ++ Rows.formBackSpec.plain.varTypes Tryd.prog) (ds ++ gs)).all (· ≤ reachBytes) = true := hsz0
  have hW' := hW
  obtain ⟨p, q, hA0, hV, rfl, hfz, hnd⟩ := hW
  have hA : DataW.TrodAll enc Tryd.prog W 0 (fun _ => true) true Tryd.f4.params.toList args.toList ds p := hA0
  rw [Tryd.params4] at hA hval hsz
  obtain ⟨v0, vs0, d0, ds0, p0, q0, e0, rfl, rfl, h0, hA⟩ := trodAll_cons hA
  obtain ⟨v1, vs1, d1, ds1, p1, q1, rfl, rfl, rfl, h1, hA⟩ := trodAll_cons hA
  obtain ⟨rfl, rfl, rfl⟩ := trodAll_nil hA
  obtain rfl : args = #[v0, v1] := by cases args; simp_all
  obtain ⟨rfl, rfl⟩ := trodVars_none hV
  obtain ⟨a0, n0, c0, rfl⟩ := okWide_slice Tryd.underlying23 (hval 0 23 v0 rfl rfl)
  have k0 := h0
  have lt0 : ∀ x ∈ p0, x.block < W.heap.size := by obtain ⟨m, hm⟩ := k0; exact DataW.trod_lt m _ _ _ hm
  obtain ⟨l0, g0, f0, b0⟩ := open_flds hsz (j := 0) rfl h0 rfl
  obtain ⟨s1, rfl, rfl, rfl, hs1⟩ := open_string Tryd.underlying9 (hval 1 9 v1 rfl rfl) h1
  have ls1 : s1.data.toList.length ≤ 140737488351232 := by
    have := sized_string hsz (j := 1) (t := 9) rfl rfl
    simp only [reachBytes] at this
    omega
  clear hA0 hval0 hsz0
  refine (ShBack.walk a0 n0 c0 l0 s1.data.toList W g0 f0 ls1 (vars_of_laid hL)).mono fun e W' ⟨he, bel⟩ => ?_
  subst he
  exact ⟨_, rfl, _, _, _, [], _, [], hW', trodAll_mk1 (shut_bool Tryd.underlying4 _), (trodAll_cons_mk (Below.trod laid_out (by kernel_rfl) (of_decide_eq_true (by kernel_rfl)) k0 bel lt0) (trodAll_cons_mk (shut_string Tryd.underlying9 hs1) trodAll_mk0)), rfl, bel.frame _, fun h => by cases h⟩

theorem formBack_holds : Rows.FormBackSaid :=
  OpenClaim.holds_of_wide 4 Tryd.f4 rfl rfl rfl rfl rfl rfl rfl ⟨rfl, rfl, rfl, rfl, rfl⟩ rfl rfl rfl rfl rfl (by kernel_rfl) Tryd.func4 (by kernel_rfl)
    (of_decide_eq_true (by kernel_rfl)) (by unfold Func.isWrapper; first | (rw [if_pos (by decide +kernel)]; kernel_rfl) | (rw [if_neg (by decide +kernel)]; exact ⟨rfl, rfl⟩))
    (fun os started H enc _ => ShBack.lifted os started H enc)

theorem formBackCard_holds : Rows.FormBackCardSaid :=
  Claim7.holds_tied_plain_at .later [] [.data, .data, .data, .sentinel, .sentinel] true (true, "6bfebf6deb256e1c9969fe7f262ad9697bf6819b0392efbca6153290a70ed5f7") true
    formBack_holds (fun _ h => by cases h) (by kernel_rfl) (fun _ h => by cases h) formBack_row_tie rfl ⟨rfl, rfl⟩ (by kernel_rfl) rfl
    (fun f fn hf hfn => by
      obtain rfl : f = 4 := Option.some.inj ((show Tryd.prog.funcNamed "cartulary/cartularylaw12.FormBack" = some 4 by kernel_rfl).symm.trans hf) |>.symm
      obtain rfl : fn = Tryd.f4 := (Option.some.inj (Tryd.func4.symm.trans hfn)).symm
      exact ⟨by kernel_rfl, fun j t ht => by
        rw [Tryd.params4] at ht
        have h0 : ∀ (t : TypeId), t ∈ ([23, 9] : List TypeId) → Tryd.prog.wantsStandIn t = false := by
          intro t ht
          simp only [List.mem_cons, List.not_mem_nil, or_false] at ht
          rcases ht with rfl | rfl <;> kernel_rfl
        exact h0 t (List.mem_of_getElem? (by simpa using ht))⟩)
    (by kernel_rfl)
#print axioms formBackCard_holds
end Go.Proofs.YtihkbbhckdpaiaaDoor
