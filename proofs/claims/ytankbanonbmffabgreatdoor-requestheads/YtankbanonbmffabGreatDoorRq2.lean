/-
  DERIVED. The reader: end, line.
-/
import Derived.Test.YtankbanonbmffabGreatDoorRq1
namespace Go.Proofs.YtankbanonbmffabGreatDoor
open Go.RowKit
set_option linter.unusedVariables false

/-- A LF. -/
def qLF : List UInt8 → Rs Unit
  | [] => .no 0
  | b :: _ => if b.toNat = 10 then .ok () 1 else .no 400
theorem u8_eq {b : UInt8} {n : Nat} (h : b.toNat = n) : ((b.toNat : Int) == (n : Int)) = true := by rw [h]; simp
theorem u8_ne {b : UInt8} {n : Nat} (h : b.toNat ≠ n) : ((b.toNat : Int) == (n : Int)) = false := by rw [beq_eq_false_iff_ne]; omega

set_option maxRecDepth 20000 in
theorem end_any (g : Nat) (R : Rd) (w : World) (h : RdAt w g R) : Calls Tryz.prog 31 #[.pointer (some ⟨g, 0, none⟩)] w (QEnds (qLF (R.s.drop R.at')) (fun _ => .tuple #[]) g R w) := by
  cases hb : R.s[R.at']? with
  | none =>
    have HC := hide (next_none h hb)
    have HE : Hid (qLF (R.s.drop R.at') = .no 0) := hide (by rw [List.drop_of_length_le (List.getElem?_eq_none_iff.1 hb)]; rfl)
    rw [unhide HE]
    clear h hb
    go_enter Tryz.func31, Tryz.ntmps31
    go_wp2_with (go_at_call 30; refine (unhide HC).mono ?_; rintro e w' ⟨rfl, q1⟩; have HQ := hide q1; clear q1)
    exact ⟨rfl, rfl, unhide HQ⟩
  | some b =>
    have HC := hide (next_some h hb)
    by_cases h10 : b.toNat = 10
    · have HE : Hid (qLF (R.s.drop R.at') = .ok () 1) := hide (by rw [drop_cons hb]; simp [qLF, h10])
      rw [unhide HE]
      have e1 : ((b.toNat : Int) == 10) = true := u8_eq h10
      clear h hb h10
      go_enter Tryz.func31, Tryz.ntmps31
      go_wp2_with (first | (go_at_call 30; refine (unhide HC).mono ?_; rintro e w' ⟨rfl, r1, q1⟩; have HQ := hide q1; have HR := hide r1; clear q1 r1) | (go_at_call 14; refine (need_ok 400 _).mono ?_; rintro e w' ⟨rfl, rfl⟩))

      refine bodyPost_end (results_none rfl _ _ _) rfl ?_
      exact ⟨⟨rfl, unhide HR⟩, unhide HQ⟩
    · have HE : Hid (qLF (R.s.drop R.at') = .no 400) := hide (by rw [drop_cons hb]; simp [qLF, h10])
      rw [unhide HE]
      have e1 : ((b.toNat : Int) == 10) = false := u8_ne h10
      clear h hb h10
      go_enter Tryz.func31, Tryz.ntmps31
      go_wp2_with (first | (go_at_call 30; refine (unhide HC).mono ?_; rintro e w' ⟨rfl, r1, q1⟩; have HQ := hide q1; have HR := hide r1; clear q1 r1) | (go_at_call 14; refine (need_no 400 _).mono ?_; rintro e w' ⟨rfl, rfl⟩))
      exact ⟨rfl, rfl, unhide HQ⟩

theorem sClone_any (s : List UInt8) (w : World) (hs : s.length ≤ 281474976710656) : Calls Tryz.prog 11 #[qv s] w fun e w' => e = .returned (qv s) ∧ Below w.heap.size w w' := by
  have HC := hide (Tryz.stringslite_Clone ⟨s.toArray⟩ w (by show s.length ≤ _; exact hs))
  clear hs
  go_enter Tryz.func11, Tryz.ntmps11
  go_wp2_with (go_at_call 28; refine (unhide HC).mono ?_; rintro e w' ⟨rfl, b1⟩; have HB := hide b1; clear b1)
  go_ret
  exact ⟨rfl, unhide HB⟩

/-- How far the reader at g is. -/
def atOf (w : World) (g : Nat) : Nat := (intOf ((w.cell? ⟨g, 1, none⟩).getD undef)).toNat
theorem RdAt.atOf {w : World} {g : Nat} {R : Rd} (h : RdAt w g R) : atOf w g = R.at' := by
  unfold Go.Proofs.YtankbanonbmffabGreatDoor.atOf
  rw [h.at_]; simp [intOf]
theorem ext_mid' (s : List UInt8) (i j : Nat) : (⟨s.toArray⟩ : ByteArray).extract i j = ⟨((s.take j).drop i).toArray⟩ := by
  apply ByteArray.ext
  simp [List.drop_take]

def Rd.go (R : Rd) (k : Nat) : Rd := { R with at' := R.at' + k }

set_option maxHeartbeats 4000000 in
set_option maxRecDepth 20000 in
theorem line_any (g : Nat) (R : Rd) (w : World) (h : RdAt w g R) : Calls Tryz.prog 13 #[.pointer (some ⟨g, 0, none⟩)] w (QEnds (qLine 0 (R.s.drop R.at')) qv g R w) := by
  obtain ⟨x, hx⟩ : ∃ x, x = R.s.drop R.at' := ⟨_, rfl⟩
  have HX : Hid (∀ k, x[k]? = R.s[R.at' + k]?) := hide (fun k => by rw [hx, List.getElem?_drop])
  have HXL : Hid (x.length = R.s.length - R.at' ∧ R.at' ≤ R.s.length ∧ R.s.length ≤ 281474976710656) := hide ⟨by rw [hx]; simp, h.2.1, h.2.2⟩
  have HXT : Hid (∀ k, x.take k = (R.s.take (R.at' + k)).drop R.at') := hide (fun k => by rw [hx, List.drop_take, Nat.add_sub_cancel_left])
  rw [← hx]
  have HR0 : Hid (RdAt w g (R.go 0)) := hide h
  have HL0 := hide (LineAt.start x)
  have c1 := h.at_
  have HQ0 := hide (QF.refl g w)
  obtain ⟨A, hA⟩ : ∃ A, A = R.at' := ⟨_, rfl⟩
  have HA := hide hA
  rw [← hA] at c1
  clear hx h hA
  go_enter Tryz.func13, Tryz.ntmps13
  go_wp2_with fail
  clear c1
  go_loopw [4] (fun b wr => ∃ (k : Nat), Hid (LineAt x k) ∧ Hid (RdAt wr g (R.go k)) ∧ Hid (QF g w wr)) (fun _ wr => 1000 + A - atOf wr g)
  case atStart => exact ⟨0, HL0, HR0, HQ0⟩
  case round =>
    clear HR0 HL0 HQ0
    obtain ⟨k, HL, HR, HQ⟩ := hrel
    have hk := (unhide HL).1
    have HM := hide (unhide HR).atOf
    cases hb : x[k]? with
    | none =>
      have HE := hide ((unhide HL).more (List.getElem?_eq_none_iff.1 hb))
      have HC := hide (next_none (unhide HR) (by rw [← hb]; exact (unhide HX k).symm))
      rw [unhide HE]
      clear hb
      go_wp2_with (go_at_call 30; refine (unhide HC).mono ?_; rintro e w' ⟨rfl, q1⟩; have HQ1 := hide ((unhide HQ).trans q1); clear q1)
      exact ⟨rfl, rfl, unhide HQ1⟩
    | some b =>
      have HC := hide (next_some (unhide HR) (by rw [← hb]; exact (unhide HX k).symm))
      have HB := hide hb
      clear hb
      by_cases h13 : b.toNat = 13
      · have HCR := hide ((unhide HL).cr (unhide HB) h13)
        have e13 : ((b.toNat : Int) == 13) = true := u8_eq h13
        obtain ⟨T, hT⟩ : ∃ T : Int, T = (A : Int) + k := ⟨_, rfl⟩
        obtain ⟨N, hN⟩ : ∃ N : Int, N = (A : Int) + k + 1 := ⟨_, rfl⟩
        have wr1 : IntKind.i64.wrap (N - 1) = T := by have := unhide HXL; have := unhide HA; have := (unhide HL).2.1; rw [IntKind.wrap_i64]; omega
        have HNT := hide (And.intro hT hN)
        have HEN : Hid (∀ (v : World), RdAt v g (R.go (k + 1)) → v.cell? ⟨g, 1, none⟩ = some (.int .i64 N) ∧ v.cell? ⟨g, 0, none⟩ = some (qv R.s)) := hide (fun v hv => ⟨by
          have := hv.at_
          rw [this, hN, unhide HA]
          simp only [Rd.go]
          congr 2, hv.data⟩)
        clear h13 hT hN
        cases hc : x[k + 1]? with
        | none =>
          have HE : Hid (qLine 0 x = .no 0) := hide (by have := unhide HCR; rw [hc] at this; exact this)
          have hd : R.s.drop (R.at' + (k + 1)) = [] := List.drop_of_length_le (List.getElem?_eq_none_iff.1 (by rw [← hc]; exact (unhide HX (k + 1)).symm))
          have HD := hide hd
          clear hc hd HCR
          go_wp2_with (first | (go_at_call 30; refine (unhide HC).mono ?_; rintro e w1 ⟨rfl, r1, q1⟩; have HQ1 := hide ((unhide HQ).trans q1); have HR1 : Hid (RdAt w1 g (R.go (k + 1))) := hide r1; clear q1 r1; obtain ⟨c1, c0⟩ := unhide HEN _ (unhide HR1)) | (go_at_call 31; clear c1 c0; have HEC := end_any g (R.go (k + 1)) w1 (unhide HR1); (rw [show (R.go (k + 1)).s.drop (R.go (k + 1)).at' = [] from unhide HD] at HEC); refine HEC.mono ?_; rintro e w2 ⟨rfl, q2⟩; have HQ2 := hide ((unhide HQ1).trans q2); clear q2))
          refine ⟨rfl, ?_⟩
          rw [unhide HE]
          exact ⟨rfl, unhide HQ2⟩
        | some c =>
          have HE : Hid (qLine 0 x = if c.toNat = 10 then .ok (x.take k) (k + 2) else .no 400) := hide (by have := unhide HCR; rw [hc] at this; exact this)
          have hd : R.s.drop (R.at' + (k + 1)) = c :: R.s.drop (R.at' + (k + 1) + 1) := drop_cons (by rw [← hc]; exact (unhide HX (k + 1)).symm)
          have HD := hide hd
          have hkl : k + 1 < x.length := (List.getElem?_eq_some_iff.1 hc).1
          clear hc hd HCR
          by_cases hc10 : c.toNat = 10
          · have HE1 : Hid (qLine 0 x = .ok (x.take k) (k + 2)) := hide (by rw [unhide HE]; simp [hc10])
            have HL10 : Hid (qLF (c :: R.s.drop (R.at' + (k + 1) + 1)) = .ok () 1) := hide (by simp [qLF, hc10])
            have HCL := hide (fun W => sClone_any (x.take k) W (by have := unhide HXL; rw [List.length_take]; omega))
            have b1 : (0 : Int) ≤ A := by omega
            have b2 : (A : Int) ≤ T := by have := (unhide HNT).1; omega
            have b3 : T ≤ R.s.length := by have := (unhide HNT).1; have := unhide HXL; have := unhide HA; omega
            have HSX : Hid ((⟨R.s.toArray⟩ : ByteArray).extract A T.toNat = ⟨(x.take k).toArray⟩) := hide (by
              rw [ext_mid', unhide HXT k, unhide HA]
              have : T.toNat = R.at' + k := by have := (unhide HNT).1; have := unhide HA; omega
              rw [this])
            clear HE hc10 hkl
            go_wp2_with (first | (go_at_call 30; refine (unhide HC).mono ?_; rintro e w1 ⟨rfl, r1, q1⟩; have HQ1 := hide ((unhide HQ).trans q1); have HR1 : Hid (RdAt w1 g (R.go (k + 1))) := hide r1; clear q1 r1; obtain ⟨c1, c0⟩ := unhide HEN _ (unhide HR1)) | (go_at_call 31; clear c1 c0; have HEC := end_any g (R.go (k + 1)) w1 (unhide HR1); (rw [show (R.go (k + 1)).s.drop (R.go (k + 1)).at' = _ from unhide HD, unhide HL10] at HEC); refine HEC.mono ?_; rintro e w2 ⟨⟨rfl, r2⟩, q2⟩; have HQ2 := hide ((unhide HQ1).trans q2); have HR2 := hide r2; have c0 : w2.cell? ⟨g, 0, none⟩ = some (qv R.s) := r2.data; clear q2 r2) | (go_at_call 11; clear c0; rw [unhide HSX]; refine (unhide HCL _).mono ?_; rintro e w3 ⟨rfl, b3⟩; have HQ3 := hide ((unhide HQ2).trans (QF.of b3)); have HR3 := hide ((unhide HR2).same (b3.block g (unhide HR2).lt)); clear b3))
            go_ret
            rw [unhide HE1]
            exact ⟨⟨rfl, unhide HR3⟩, unhide HQ3⟩
          · have HE1 : Hid (qLine 0 x = .no 400) := hide (by rw [unhide HE]; simp [hc10])
            have HL10 : Hid (qLF (c :: R.s.drop (R.at' + (k + 1) + 1)) = .no 400) := hide (by simp [qLF, hc10])
            clear HE hc10 hkl
            go_wp2_with (first | (go_at_call 30; refine (unhide HC).mono ?_; rintro e w1 ⟨rfl, r1, q1⟩; have HQ1 := hide ((unhide HQ).trans q1); have HR1 : Hid (RdAt w1 g (R.go (k + 1))) := hide r1; clear q1 r1; obtain ⟨c1, c0⟩ := unhide HEN _ (unhide HR1)) | (go_at_call 31; clear c1 c0; have HEC := end_any g (R.go (k + 1)) w1 (unhide HR1); (rw [show (R.go (k + 1)).s.drop (R.go (k + 1)).at' = _ from unhide HD, unhide HL10] at HEC); refine HEC.mono ?_; rintro e w2 ⟨rfl, q2⟩; have HQ2 := hide ((unhide HQ1).trans q2); clear q2))
            refine ⟨rfl, ?_⟩
            rw [unhide HE1]
            exact ⟨rfl, unhide HQ2⟩
      · have e13 : ((b.toNat : Int) == 13) = false := u8_ne h13
        by_cases h10 : b.toNat = 10
        · have e10 : ((b.toNat : Int) != 10) = false := by rw [h10]; rfl
          have HE := hide ((unhide HL).lf (unhide HB) h10)
          rw [unhide HE]
          clear h13 h10
          go_wp2_with (first | (go_at_call 30; refine (unhide HC).mono ?_; rintro e w' ⟨rfl, r1, q1⟩; have HQ1 := hide ((unhide HQ).trans q1); clear q1 r1) | (go_at_call 14; refine (need_no 400 _).mono ?_; rintro e w' ⟨rfl, rfl⟩))
          exact ⟨rfl, rfl, unhide HQ1⟩
        · have e10 : ((b.toNat : Int) != 10) = true := by rw [bne_iff_ne]; omega
          obtain ⟨K, hK⟩ : ∃ K : Int, K = (k : Int) + 1 := ⟨_, rfl⟩
          obtain ⟨N, hN⟩ : ∃ N : Int, N = (A : Int) + k + 1 := ⟨_, rfl⟩
          have wr1 : IntKind.i64.wrap (N - (A : Int)) = K := by rw [IntKind.wrap_i64]; omega
          by_cases h256 : k < 256
          · have HL1 := hide ((unhide HL).next (unhide HB) h13 h10 h256)
            have HEN : Hid (∀ (v : World), RdAt v g (R.go (k + 1)) → v.cell? ⟨g, 1, none⟩ = some (.int .i64 N)) := hide (fun v hv => by
              have := hv.at_
              rw [this, hN, unhide HA]
              simp only [Rd.go]
              congr 2)
            have b256 : K ≤ 256 := by omega
            have HKK := hide (And.intro hK hN)
            have HM1 : Hid (∀ v, RdAt v g (R.go (k + 1)) → atOf v g = R.at' + (k + 1)) := hide (fun v hv => hv.atOf)
            clear h13 h10 hK hN
            go_wp2_with (first | (go_at_call 30; refine (unhide HC).mono ?_; rintro e w1 ⟨rfl, r1, q1⟩; have HQ1 := hide ((unhide HQ).trans q1); have HR1 : Hid (RdAt w1 g (R.go (k + 1))) := hide r1; clear q1 r1; have c1 := unhide HEN _ (unhide HR1)) | (go_at_call 14; have mark1 : True := trivial; refine (need_ok 400 _).mono ?_; rintro e w2 ⟨rfl, rfl⟩) | (go_at_call 14; refine (need_ok 431 _).mono ?_; rintro e w2 ⟨rfl, rfl⟩))
            clear c1
            go_roundw
            case rel => exact ⟨k + 1, HL1, HR1, HQ1⟩
            case measure => rw [unhide HM1 _ (unhide HR1), unhide HM, unhide HA]; simp only [Rd.go]; have := (unhide HL1).1; omega
          · have HE := hide ((unhide HL).long (unhide HB) h13 h10 h256)
            rw [unhide HE]
            have HEN : Hid (∀ (v : World), RdAt v g (R.go (k + 1)) → v.cell? ⟨g, 1, none⟩ = some (.int .i64 N)) := hide (fun v hv => by
              have := hv.at_
              rw [this, hN, unhide HA]
              simp only [Rd.go]
              congr 2)
            have b256 : decide (K ≤ 256) = false := decide_eq_false (by omega)
            clear h13 h10 hK hN
            go_wp2_with (first | (go_at_call 30; refine (unhide HC).mono ?_; rintro e w1 ⟨rfl, r1, q1⟩; have HQ1 := hide ((unhide HQ).trans q1); have HR1 : Hid (RdAt w1 g (R.go (k + 1))) := hide r1; clear q1 r1; have c1 := unhide HEN _ (unhide HR1)) | (go_at_call 14; refine (need_ok 400 _).mono ?_; rintro e w2 ⟨rfl, rfl⟩) | (go_at_call 14; refine (need_no 431 _).mono ?_; rintro e w2 ⟨rfl, rfl⟩))
            exact ⟨rfl, rfl, unhide HQ1⟩
end Go.Proofs.YtankbanonbmffabGreatDoor
