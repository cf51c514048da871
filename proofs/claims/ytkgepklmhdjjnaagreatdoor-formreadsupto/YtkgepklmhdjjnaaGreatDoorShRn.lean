/-
  DERIVED. The document's Number.
-/
import Derived.Test.YtkgepklmhdjjnaaGreatDoorShRm
import Derived.Test.YtkgepklmhdjjnaaGreatDoorShRh
import Derived.BigQuiet
namespace Go.Proofs.YtkgepklmhdjjnaaGreatDoor
open Go.RowKit
set_option linter.unusedVariables false

abbrev numA (r : Option Int) : Value := .tuple #[.int .i64 (r.getD 0), .bool r.isSome]

theorem numL_digit {m : Int} {d : UInt8} {r : List UInt8} (h : digitB d = true) : numL m (d :: r) = if 10 * m - ((d.toNat : Int) - 48) < -9223372036854775808 then none else numL (10 * m - ((d.toNat : Int) - 48)) r := by
  rw [numL, if_pos h]
theorem numL_bad {m : Int} {d : UInt8} {r : List UInt8} (h : digitB d = false) : numL m (d :: r) = none := by
  rw [numL, if_neg (by rw [h]; decide)]

def refEnd (s ds : List UInt8) : Option Int → Option Int
  | none => none
  | some n => if ds.length < s.length then some n else if n = -9223372036854775808 then none else some (-n)

theorem refNum_bad {s ds : List UInt8} (hd : ds = digs s) (h : ds.length < 1 ∨ 19 < ds.length ∨ (ds.head? = some 48 ∧ s ≠ [48])) : refNum s = none := by
  unfold refNum; rw [← hd, if_pos h]
theorem refNum_else {s ds : List UInt8} (hd : ds = digs s) (h : ¬ (ds.length < 1 ∨ 19 < ds.length ∨ (ds.head? = some 48 ∧ s ≠ [48]))) : refNum s = refEnd s ds (numL 0 ds) := by
  unfold refNum; rw [← hd, if_neg h]
  cases numL 0 ds <;> rfl

set_option maxHeartbeats 4000000 in
theorem rNumber_any (s : List UInt8) (w : World) (hs : s.length ≤ 140737488355328) :
    Calls Tryz.prog 89 #[sv s] w fun e w' => e = .returned (numA (refNum s)) ∧ w = w' := by
  obtain ⟨ds, hds⟩ : ∃ ds, ds = digs s := ⟨_, rfl⟩
  have HDS := hide hds
  have hdl : ds.length ≤ s.length := by rw [hds]; unfold digs; split <;> simp
  have HBAD : Hid (_ → refNum s = none) := hide (refNum_bad hds)
  have HELSE : Hid (_ → refNum s = refEnd s ds (numL 0 ds)) := hide (refNum_else hds)
  clear hds
  obtain ⟨b, hb⟩ : ∃ b, b = decide (s.head? = some 45) := ⟨_, rfl⟩
  have HBB := hide hb
  clear hb
  go_enter Tryz.func89, Tryz.ntmps89
  go_upto_region 2 with fail
  go_cut [16] from 8 to 16 (fun t wx => t = .bool b ∧ wx = w)
  case first =>
    by_cases h0 : s.length = 0
    · obtain rfl := List.length_eq_zero_iff.1 h0
      have HB0 : Hid (b = false) := hide (unhide HBB)
      clear h0
      go_wp2
      go_meet
      exact ⟨by rw [unhide HB0], rfl⟩
    · obtain ⟨c, hc⟩ : ∃ c, s[0]? = some c := ⟨_, List.getElem?_eq_getElem (by omega)⟩
      have hB := byte_at hc
      have hp : (0 : Int) < s.length := by omega
      have hp2 : 0 < s.length := by omega
      have hhd : s.head? = some c := by rw [List.head?_eq_getElem?, hc]
      by_cases h45 : c = 45
      · have e : ((c.toNat : Int) == 45) = true := by rw [h45]; rfl
        have HB1 : Hid (b = true) := hide (by rw [unhide HBB, hhd, h45]; rfl)
        clear h45 hc hhd h0
        go_wp2
        go_meet
        exact ⟨by rw [unhide HB1], rfl⟩
      · have e : ((c.toNat : Int) == 45) = false := by
          rw [beq_eq_false_iff_ne]
          intro e2
          exact h45 (UInt8.toNat_inj.1 (by show c.toNat = 45; omega))
        have HB1 : Hid (b = false) := hide (by rw [unhide HBB, hhd]; exact decide_eq_false (fun e2 => h45 (Option.some.inj e2)))
        clear h45 hc hhd h0
        go_wp2
        go_meet
        exact ⟨by rw [unhide HB1], rfl⟩
  case rest =>
    obtain ⟨rfl, hwc⟩ := hcut
    subst hwc
    go_upto_if 16 with fail
    go_cut [4] from 8 to 18 (fun t wx => t = sv ds ∧ wx = wc)
    case first =>
      cases b with
      | true =>
        have hh : s.head? = some 45 := of_decide_eq_true (unhide HBB).symm
        have hd : ds = s.drop 1 := by rw [unhide HDS]; unfold digs; rw [if_pos hh]; simp
        have hp : s.length ≠ 0 := fun e => by rw [List.length_eq_zero_iff.1 e] at hh; cases hh
        have c1 : (1 : Int) ≤ s.length := by omega
        have HD := hide hd
        clear hd hh hp
        go_wp2
        go_meet
        refine ⟨?_, rfl⟩
        show Value.string ((⟨s.toArray⟩ : ByteArray).extract 1 s.length) = _
        rw [ext_drop, unhide HD]
      | false =>
        have hh : ¬ s.head? = some 45 := of_decide_eq_false (unhide HBB).symm
        have HD : Hid (ds = s) := hide (by rw [unhide HDS]; unfold digs; rw [if_neg hh])
        clear hh
        go_wp2
        go_meet
        exact ⟨by rw [unhide HD], rfl⟩
    case rest =>
      obtain ⟨rfl, hwc⟩ := hcut
      subst hwc
      clear HBB HDS
      obtain ⟨bad, hbad⟩ : ∃ bad, bad = decide (ds.length < 1 ∨ 19 < ds.length ∨ (ds.head? = some 48 ∧ s ≠ [48])) := ⟨_, rfl⟩
      have HBD := hide hbad
      clear hbad
      go_upto_region 4 with fail
      go_cut [35] from 8 to 35 (fun t wx => t = .bool bad ∧ wx = wc)
      case first =>
        by_cases h1 : ds.length < 1
        · have HF : Hid (bad = true) := hide (by rw [unhide HBD]; exact decide_eq_true (.inl h1))
          have a1 : decide ((ds.length : Int) < 1) = true := decide_eq_true (by omega)
          clear HBAD HELSE h1
          go_wp2
          go_meet
          exact ⟨by rw [unhide HF], rfl⟩
        · have a1 : decide ((ds.length : Int) < 1) = false := decide_eq_false (by omega)
          by_cases h19 : 19 < ds.length
          · have HF : Hid (bad = true) := hide (by rw [unhide HBD]; exact decide_eq_true (.inr (.inl h19)))
            have a2 : decide ((19 : Int) < ds.length) = true := decide_eq_true (by omega)
            clear HBAD HELSE h1 h19
            go_wp2
            go_meet
            exact ⟨by rw [unhide HF], rfl⟩
          · have a2 : decide ((19 : Int) < ds.length) = false := decide_eq_false (by omega)
            obtain ⟨c, hc⟩ : ∃ c, ds[0]? = some c := ⟨_, List.getElem?_eq_getElem (by omega)⟩
            have hB := byte_at hc
            have hp2 : 0 < ds.length := by omega
            have hhd : ds.head? = some c := by rw [List.head?_eq_getElem?, hc]
            by_cases h48 : c = 48
            · have e : ((c.toNat : Int) == 48) = true := by rw [h48]; rfl
              by_cases hs0 : s = [48]
              · have HF : Hid (bad = false) := hide (by rw [unhide HBD]; exact decide_eq_false (fun h => h.elim h1 (fun h => h.elim h19 (fun h => h.2 hs0))))
                subst hs0
                clear h48 hc hhd h1 h19 HBAD HELSE HBD
                go_wp2
                go_meet
                exact ⟨by rw [unhide HF], rfl⟩
              · have HF : Hid (bad = true) := hide (by rw [unhide HBD]; exact decide_eq_true (.inr (.inr ⟨by rw [hhd, h48], hs0⟩)))
                have hsn : (s == [48]) = false := beq_eq_false_iff_ne.2 hs0
                have hsn2 : (s != [48]) = true := bne_iff_ne.2 hs0
                clear h48 hc hhd h1 h19 HBAD HELSE HBD
                go_wp2
                go_meet
                exact ⟨by rw [unhide HF], rfl⟩
            · have e : ((c.toNat : Int) == 48) = false := by
                rw [beq_eq_false_iff_ne]
                intro e2
                exact h48 (UInt8.toNat_inj.1 (by show c.toNat = 48; omega))
              have HF : Hid (bad = false) := hide (by rw [unhide HBD]; exact decide_eq_false (fun h => h.elim h1 (fun h => h.elim h19 (fun h => h48 (Option.some.inj (hhd.symm.trans h.1))))))
              clear h48 hc hhd h1 h19 HBAD HELSE HBD
              go_wp2
              go_meet
              exact ⟨by rw [unhide HF], rfl⟩
      case rest =>
        obtain ⟨rfl, hwc⟩ := hcut
        subst hwc
        cases bad with
        | true =>
          have HF := hide (unhide HBAD (of_decide_eq_true (unhide HBD).symm))
          clear HBAD HELSE HBD
          go_wp2
          go_ret2
          rw [unhide HF]
          exact ⟨rfl, rfl⟩
        | false =>
          have hno := of_decide_eq_false (unhide HBD).symm
          have HF := hide (unhide HELSE hno)
          have hl19 : ds.length ≤ 19 := by omega
          clear HBAD HELSE HBD hno
          go_wp2
          go_loopw [5, 6, 7] (fun n i _ wr => ∃ (k : Nat) (m : Int), k ≤ ds.length ∧ i = .int .i64 k ∧ n = .int .i64 m ∧ m ≤ 0 ∧ -9223372036854775808 ≤ m ∧ Hid (numL 0 ds = numL m (ds.drop k)) ∧ Hid (wr = wc)) (fun _ i _ _ => ds.length - (intOf i).toNat)
          case atStart => exact ⟨0, 0, by omega, rfl, rfl, by omega, by omega, hide (by simp), hide rfl⟩
          case round =>
            obtain ⟨k, m, hk, rfl, rfl, hm0, hm1, HN, HW⟩ := hrel
            by_cases hlt : k < ds.length
            · obtain ⟨d, hd⟩ : ∃ d, ds[k]? = some d := ⟨_, List.getElem?_eq_getElem hlt⟩
              have hB := byte_at hd
              have hdl := d.toNat_lt
              have HD := hide (drop_at hd)
              clear hd
              cases hdg : digitB d with
              | false =>
                have HE : Hid (refNum s = none) := hide (by rw [unhide HF, unhide HN, unhide HD, numL_bad hdg]; rfl)
                have g1 := digit_no hdg
                clear hdg HF HN HD
                rcases g1 with g1 | ⟨g1, g1'⟩
                all_goals
                  go_wp2
                  go_ret2
                  rw [unhide HE]
                  exact ⟨rfl, (unhide HW).symm⟩
              | true =>
                obtain ⟨g1, g2⟩ := digit_yes hdg
                obtain ⟨q, hq⟩ : ∃ q : Nat, (q : Int) = (d.toNat : Int) - 48 := ⟨d.toNat - 48, by omega⟩
                have hq9 : q ≤ 9 := by omega
                have HND : Hid (numL 0 ds = if 10 * m - (q : Int) < -9223372036854775808 then none else numL (10 * m - (q : Int)) (ds.drop (k + 1))) := hide (by rw [unhide HN, unhide HD, numL_digit hdg, hq])
                have q1 : IntKind.u8.wrap ((d.toNat : Int) - 48) = (q : Int) := by rw [← hq]; simp [IntKind.wrap, IntKind.signed, IntKind.bits]; omega
                have q2 : IntKind.i64.wrap (q : Int) = (q : Int) := by rw [IntKind.wrap_i64]; omega
                have q3 : IntKind.i64.wrap (-9223372036854775808 + (q : Int)) = -9223372036854775808 + (q : Int) := by rw [IntKind.wrap_i64]; omega
                obtain ⟨T, hT⟩ : ∃ T, T = (-9223372036854775808 + (q : Int)).tdiv 10 := ⟨_, rfl⟩
                have hT' : T = -((9223372036854775808 - (q : Int)) / 10) := by
                  rw [hT, show (-9223372036854775808 + (q : Int)) = -(9223372036854775808 - (q : Int)) by omega, Int.neg_tdiv, Int.tdiv_eq_ediv_of_nonneg (by omega)]
                have q4 : (-9223372036854775808 + (q : Int)).tdiv 10 = T := hT.symm
                have q5 : IntKind.i64.wrap T = T := by rw [IntKind.wrap_i64]; omega
                clear hdg hq HN HD hT
                by_cases hlow : 10 * m - (q : Int) < -9223372036854775808
                · have d1 : decide (m < T) = true := decide_eq_true (by omega)
                  have HE : Hid (refNum s = none) := hide (by rw [unhide HF, unhide HND, if_pos hlow]; rfl)
                  clear HF HND hT' hlow
                  go_wp2
                  go_ret2
                  rw [unhide HE]
                  exact ⟨rfl, (unhide HW).symm⟩
                · have d1 : decide (m < T) = false := decide_eq_false (by omega)
                  have HNE : Hid (numL 0 ds = numL (10 * m - (q : Int)) (ds.drop (k + 1))) := hide (by rw [unhide HND, if_neg hlow])
                  obtain ⟨z, hz⟩ : ∃ z, z = 10 * m - (q : Int) := ⟨_, rfl⟩
                  have q6 : IntKind.i64.wrap (10 * m) = 10 * m := by rw [IntKind.wrap_i64]; omega
                  have q7 : IntKind.i64.wrap (10 * m - (q : Int)) = z := by rw [IntKind.wrap_i64, hz]; omega
                  have hz0 : z ≤ 0 := by omega
                  have hz1 : -9223372036854775808 ≤ z := by omega
                  rw [← hz] at HNE
                  clear HND hT' hlow hz
                  go_wp2
                  go_roundw
                  case rel => exact ⟨k + 1, z, by omega, by go_num, rfl, hz0, hz1, HNE, HW⟩
                  case measure => simp [intOf]; omega
            · have HE : Hid (refNum s = refEnd s ds (some m)) := hide (by rw [unhide HF, unhide HN, List.drop_of_length_le (by omega)]; rfl)
              clear HF HN
              by_cases hls : ds.length < s.length
              · have d1 : decide ((ds.length : Int) < (s.length : Int)) = true := decide_eq_true (by omega)
                have HE2 : Hid (refNum s = some m) := hide (by rw [unhide HE]; unfold refEnd; simp only; rw [if_pos hls])
                clear HE
                go_wp2
                go_ret2
                rw [unhide HE2]
                exact ⟨rfl, (unhide HW).symm⟩
              · have d1 : decide ((ds.length : Int) < (s.length : Int)) = false := decide_eq_false (by omega)
                by_cases hmin : m = -9223372036854775808
                · have d2 : (m == -9223372036854775808) = true := by rw [hmin]; rfl
                  have HE2 : Hid (refNum s = none) := hide (by rw [unhide HE]; unfold refEnd; simp only; rw [if_neg hls, if_pos hmin])
                  clear HE hmin
                  go_wp2
                  go_ret2
                  rw [unhide HE2]
                  exact ⟨rfl, (unhide HW).symm⟩
                · have d2 : (m == -9223372036854775808) = false := beq_eq_false_iff_ne.2 hmin
                  have HE2 : Hid (refNum s = some (-m)) := hide (by rw [unhide HE]; unfold refEnd; simp only; rw [if_neg hls, if_neg hmin])
                  have q8 : IntKind.i64.wrap (-m) = -m := by rw [IntKind.wrap_i64]; omega
                  clear HE
                  go_wp2
                  go_ret2
                  rw [unhide HE2]
                  exact ⟨rfl, (unhide HW).symm⟩
end Go.Proofs.YtkgepklmhdjjnaaGreatDoor
