/-
  DERIVED. The walk of readValue at numbers; readValue_any.
-/
import Derived.Test.YtkgepklmhdjjnaaGreatDoorShs
import Derived.Lib.SmallJoins
namespace Go.Proofs.YtkgepklmhdjjnaaGreatDoor
open Go.RowKit
set_option linter.unusedVariables false

theorem Atoi_ok (v : List UInt8) (n : Int) (hl : v.length ≤ 281474976710656) (h : Lib.atoiAll v = .ok n) (w : World) :
    Calls Tryz.prog 143 #[sv v] w fun e w' => e = .returned (.tuple #[.int .i64 n, .nilIface]) ∧ Below w.heap.size w w' := by
  refine (Tryz.strconv_Atoi_ok ⟨v.toArray⟩ (by show v.toArray.size ≤ _; simp; omega) n h w).mono ?_
  rintro e w' ⟨rfl, rfl | ⟨t, rfl⟩⟩
  · exact ⟨rfl, Below.refl _ _⟩
  · exact ⟨rfl, Go.Joins.below_bytesWorld _ _ _ _ (Nat.le_refl _)⟩
theorem Atoi_no (v : List UInt8) (hl : v.length ≤ 281474976710656) (h : ∀ n, Lib.atoiAll v ≠ .ok n) (w : World) (hva : Vars w) :
    Calls Tryz.prog 143 #[sv v] w fun e w' => ∃ (m : Int) (t : TypeId) (p : Value), e = .returned (.tuple #[.int .i64 m, .iface t p]) ∧ Below w.heap.size w w' := by
  have hz : (⟨v.toArray⟩ : ByteArray).size ≤ 281474976710656 := by show v.toArray.size ≤ _; simp; omega
  obtain ⟨_, ⟨t1, p1, h2⟩, ⟨t2, p2, h3⟩⟩ := hva
  cases ha : Lib.atoiAll v with
  | ok n => exact absurd ha (h n)
  | «syntax» =>
    refine (Tryz.strconv_Atoi_syntax ⟨v.toArray⟩ hz ha _ w h2 (.inr ⟨_, _, rfl⟩)).mono ?_
    rintro e w' ⟨N, rfl, _, _, hb⟩
    exact ⟨_, _, _, rfl, hb⟩
  | range =>
    refine (Tryz.strconv_Atoi_range ⟨v.toArray⟩ hz ha _ w h3 (.inr ⟨_, _, rfl⟩)).mono ?_
    rintro e w' ⟨N, rfl, _, _, hb⟩
    exact ⟨_, _, _, rfl, hb⟩

theorem atoi_bounds {v : List UInt8} {n : Int} (h : Lib.atoiAll v = .ok n) : -9223372036854775808 ≤ n ∧ n ≤ 9223372036854775807 := Lib.atoiAll_bounds h

set_option maxHeartbeats 2000000 in
theorem rv_num (v : List UInt8) (w : World) (hl : v.length ≤ 281474976710656) (hp : ∀ r, v ≠ 39 :: r) (n : Int) (ha : Lib.atoiAll v = .ok n) (hva : Vars w) (b : Bool) (hb : (Lib.itoa n == v) = b) :
    Calls Tryz.prog 84 #[sv v] w fun e w' => e = .returned (.tuple #[.agg (fv ⟨[], false, n, []⟩), .bool b]) ∧ Below w.heap.size w w' := by
  have HP := hide (Prefix_no v hp)
  have HA := hide (Atoi_ok v n hl ha)
  obtain ⟨n0, n1⟩ := atoi_bounds ha
  have HI : Hid (∀ W, Below w.heap.size w W → Calls Tryz.prog 130 #[.int .i64 n] W fun e w' => e = .returned (sv (Lib.itoa n)) ∧ Below W.heap.size W w') := hide (fun W hW => Itoa_go n n0 n1 W (hva.below hW (Nat.le_refl _)))
  clear hp ha hva
  go_enter Tryz.func84, Tryz.ntmps84
  go_upto_region 1 with fail
  have hb1 : Below w.heap.size w (w.alloc (.cells (fv fld0) 33)) := (Below.refl _ _).alloc (Nat.le_refl _) _
  have hf1 := FBox.new w fld0
  obtain ⟨w1, hw1⟩ : ∃ w1, w1 = w.alloc (.cells (fv fld0) 33) := ⟨_, rfl⟩
  rw [← hw1] at hb1 hf1
  rw [show w.alloc (.cells #[Value.string ⟨#[]⟩, .bool false, .int .i64 0, Value.string ⟨#[]⟩] 33) = w1 from hw1.symm]
  have HB1 := hide hb1
  have HF1 := hide hf1
  clear hw1 hb1 hf1
  go_wp2_with (first | (go_at_call 142; refine (unhide HP _).mono ?_; rintro e w' ⟨rfl, rfl⟩) | (go_at_call 143; refine (unhide HA _).mono ?_; rintro e w2 ⟨rfl, b2⟩; have HB2 := hide ((unhide HB1).trans (b2.mono (unhide HB1).size)); have HF2 := hide ((unhide HF1).below b2 (Nat.le_refl _)); clear b2) | (go_at_call 130; refine (unhide HI _ (unhide HB2)).mono ?_; rintro e w3 ⟨rfl, b3⟩; have HB3 := hide ((unhide HB2).trans (b3.mono (unhide HB2).size)); have HF3 := hide ((unhide HF2).below b3 (Nat.le_refl _)); obtain ⟨c0, c1, c2, c3, cf⟩ := (unhide HF3).cells; have HE := hide ((unhide HF3).put [] false n []); have BE := hide (below_put (unhide HB3) (Nat.le_refl _) [] false n []); clear b3))
  exact bodyPost_ret (results_ct rfl _ _ w.heap.size 33 (fv ⟨[], false, n, []⟩) (0, 0) _ (.bool b) rfl rfl (unhide HE) Tryz.underlying33 rfl sizeField) rfl ⟨rfl, unhide BE⟩

set_option maxHeartbeats 2000000 in
theorem rv_bad (v : List UInt8) (w : World) (hl : v.length ≤ 281474976710656) (hp : ∀ r, v ≠ 39 :: r) (ha : ∀ n, Lib.atoiAll v ≠ .ok n) (hva : Vars w) :
    Calls Tryz.prog 84 #[sv v] w fun e w' => ∃ n, e = .returned (.tuple #[.agg (fv ⟨[], false, n, []⟩), .bool false]) ∧ Below w.heap.size w w' := by
  have HP := hide (Prefix_no v hp)
  have HA : Hid (∀ W, Below w.heap.size w W → Calls Tryz.prog 143 #[sv v] W fun e w' => ∃ (m : Int) (t : TypeId) (p : Value), e = .returned (.tuple #[.int .i64 m, .iface t p]) ∧ Below W.heap.size W w') := hide (fun W hW => Atoi_no v hl ha W (hva.below hW (Nat.le_refl _)))
  clear hp ha hva
  go_enter Tryz.func84, Tryz.ntmps84
  go_upto_region 1 with fail
  have hb1 : Below w.heap.size w (w.alloc (.cells (fv fld0) 33)) := (Below.refl _ _).alloc (Nat.le_refl _) _
  have hf1 := FBox.new w fld0
  obtain ⟨w1, hw1⟩ : ∃ w1, w1 = w.alloc (.cells (fv fld0) 33) := ⟨_, rfl⟩
  rw [← hw1] at hb1 hf1
  rw [show w.alloc (.cells #[Value.string ⟨#[]⟩, .bool false, .int .i64 0, Value.string ⟨#[]⟩] 33) = w1 from hw1.symm]
  have HB1 := hide hb1
  have HF1 := hide hf1
  clear hw1 hb1 hf1
  go_wp2_with (first | (go_at_call 142; refine (unhide HP _).mono ?_; rintro e w' ⟨rfl, rfl⟩) | (go_at_call 143; refine (unhide HA _ (unhide HB1)).mono ?_; rintro e w2 ⟨n, t, p, rfl, b2⟩; have HB2 := hide ((unhide HB1).trans (b2.mono (unhide HB1).size)); have HF2 := hide ((unhide HF1).below b2 (Nat.le_refl _)); obtain ⟨c0, c1, c2, c3, cf⟩ := (unhide HF2).cells; have HE := hide ((unhide HF2).put [] false n []); have BE := hide (below_put (unhide HB2) (Nat.le_refl _) [] false n []); clear b2))
  exact bodyPost_ret (results_ct rfl _ _ w.heap.size 33 (fv ⟨[], false, n, []⟩) (0, 0) _ (.bool false) rfl rfl (unhide HE) Tryz.underlying33 rfl sizeField) rfl ⟨n, rfl, unhide BE⟩

theorem readValue_any (v : List UInt8) (w : World) (hl : v.length ≤ 140737488355328) (hva : Vars w) :
    Calls Tryz.prog 84 #[sv v] w (RvPost w (readV v)) := by
  by_cases hp : ∃ r, v = 39 :: r
  · obtain ⟨r, rfl⟩ := hp
    have hr : r.length ≤ 140737488355328 := by simp at hl; omega
    have e : readV (39 :: r) = (readTxt r).map (fun s => ⟨[], true, 0, s⟩) := rfl
    rw [e]
    cases hu : unesc r with
    | none =>
      refine (rv_none r w hr hu).mono ?_
      rintro e w' ⟨rfl, hb⟩
      exact ⟨⟨[], true, 0, []⟩, by simp [readTxt, hu], fun g hg => by simp [readTxt, hu] at hg, hb⟩
    | some s =>
      refine (rv_some r w hr s hu).mono ?_
      rintro e w' ⟨rfl, hb⟩
      refine ⟨⟨[], true, 0, s⟩, ?_, ?_, hb⟩
      · by_cases h : s.length ≤ 200
        · have : ((s.length : Int) ≤ 200) := by omega
          simp [readTxt, hu, h, this]
        · have : ¬ ((s.length : Int) ≤ 200) := by omega
          simp [readTxt, hu, h, this]
      · intro g hg
        by_cases h : s.length ≤ 200
        · simp [readTxt, hu, h] at hg; exact hg
        · simp [readTxt, hu, h] at hg
  · have hp' : ∀ r, v ≠ 39 :: r := fun r h => hp ⟨r, h⟩
    have e : readV v = (readNum v).map (fun n => ⟨[], false, n, []⟩) := by
      rcases v with _ | ⟨c, r⟩
      · rfl
      · have : ¬ c = 39 := fun e => hp' r (by rw [e])
        simp [readV, this]
    rw [e]
    by_cases hn : ∃ n, Lib.atoiAll v = .ok n
    · obtain ⟨n, hn⟩ := hn
      refine (rv_num v w (by omega) hp' n hn hva _ rfl).mono ?_
      rintro e w' ⟨rfl, hb⟩
      refine ⟨⟨[], false, n, []⟩, ?_, ?_, hb⟩
      · by_cases h : Lib.itoa n = v
        · simp [readNum, hn, h]
        · simp [readNum, hn, h]
      · intro g hg
        by_cases h : Lib.itoa n = v
        · simp [readNum, hn, h] at hg; exact hg
        · simp [readNum, hn, h] at hg
    · have hn' : ∀ n, Lib.atoiAll v ≠ .ok n := fun n h => hn ⟨n, h⟩
      have hr : readNum v = none := by
        unfold readNum
        split
        · rename_i n h; exact absurd h (hn' n)
        · rfl
      rw [hr]
      refine (rv_bad v w (by omega) hp' hn' hva).mono ?_
      rintro e w' ⟨n, rfl, hb⟩
      exact ⟨⟨[], false, n, []⟩, rfl, (fun g hg => by cases hg), hb⟩
end Go.Proofs.YtkgepklmhdjjnaaGreatDoor
