/-
  DERIVED. The law's awake.
-/
import Derived.Test.YtkgepklmhdjjnaaGreatDoorShza
namespace Go.Proofs.YtkgepklmhdjjnaaGreatDoor
open Go.RowKit Go.Maps
set_option linter.unusedVariables false

theorem Read_any (t : List UInt8) (w : World) (ht : t.length ≤ 140737488355328) (hva : Vars w) : Calls Tryz.prog 10 #[sv t] w (RdPost w (readAll t)) := by
  cases h : readAll t with
  | error n => exact Read_bad t w ht hva n h
  | ok S => exact Read_ok t w ht hva S h

theorem itoa7 : Lib.itoa 7 = [55] := by
  unfold Lib.itoa
  rw [if_neg (by decide)]
  show Lib.decDigits 7 = [55]
  rw [Lib.decDigits, dif_pos (by decide)]
  decide
theorem num7 : readNum [55] = some 7 := by
  have : Lib.atoiAll [55] = .ok 7 := by decide
  unfold readNum
  rw [this]
  simp [itoa7]
theorem num07 : readNum [48, 55] = none := by
  have : Lib.atoiAll [48, 55] = .ok 7 := by decide
  unfold readNum
  rw [this]
  simp [itoa7]

abbrev fA : Fld := ⟨[97], false, 7, []⟩
abbrev fB : Fld := ⟨[98], true, 0, [65, 46]⟩

theorem part_b : readP [98, 61, 39, 37, 52, 49, 46] = .ok fB := by
  have h1 : cutA 61 [98, 61, 39, 37, 52, 49, 46] = ([98], some [39, 37, 52, 49, 46]) := by decide
  have h2 : nameB [98] = true := by decide
  have h3 : readV [39, 37, 52, 49, 46] = some ⟨[], true, 0, [65, 46]⟩ := by
    have : unesc [37, 52, 49, 46] = some [65, 46] := by simp [unesc, hexV, digitB, plainB, markB, smallB, capB]
    show (readTxt [37, 52, 49, 46]).map _ = _
    simp [readTxt, this]
  unfold readP
  rw [h1]
  simp only [h2, h3, if_true, namedF]
theorem part_a : readP [97, 61, 55] = .ok fA := by
  have h1 : cutA 61 [97, 61, 55] = ([97], some [55]) := by decide
  have h2 : nameB [97] = true := by decide
  have h3 : readV [55] = some ⟨[], false, 7, []⟩ := by
    show (readNum [55]).map _ = _
    rw [num7]; rfl
  unfold readP
  rw [h1]
  simp only [h2, h3, if_true, namedF]
theorem part_07 : readP [97, 61, 48, 55] = .error 122 := by
  have h1 : cutA 61 [97, 61, 48, 55] = ([97], some [48, 55]) := by decide
  have h2 : nameB [97] = true := by decide
  have h3 : readV [48, 55] = none := by
    show (readNum [48, 55]).map _ = _
    rw [num07]; rfl
  unfold readP
  rw [h1]
  simp only [h2, h3, if_true, namedF]

theorem all_ba : readAll [98, 61, 39, 37, 52, 49, 46, 38, 97, 61, 55] = .ok [fB, fA] := by
  have h1 : splitA 38 [98, 61, 39, 37, 52, 49, 46, 38, 97, 61, 55] = [[98, 61, 39, 37, 52, 49, 46], [97, 61, 55]] := by decide
  unfold readAll
  rw [if_neg (by decide), h1]
  simp [foldParts, readStep, part_b, part_a]
theorem all_07 : readAll [97, 61, 48, 55] = .error 122 := by
  have h1 : splitA 38 [97, 61, 48, 55] = [[97, 61, 48, 55]] := by decide
  unfold readAll
  rw [if_neg (by decide), h1]
  simp [foldParts, readStep, part_07]

theorem rec_ab : IsRec [fB, fA] [fA, fB] := by
  refine ⟨?_, fun f => by simp; constructor <;> rintro (h | h) <;> simp [h]⟩
  unfold Rising
  simp
  decide

theorem check_ab : checkF [fA, fB] = 0 := by decide
theorem write_ab : writeT [fA, fB] = [97, 61, 55, 38, 98, 61, 39, 65, 46] := by
  have h1 : fldT fA = [97, 61, 55] := by unfold fldT valT; simp [itoa7]
  have h2 : fldT fB = [98, 61, 39, 65, 46] := by decide
  unfold writeT
  simp only [List.map_cons, List.map_nil, h1, h2]
  decide

set_option maxHeartbeats 4000000 in
theorem awake_go (w : World) (hva : Vars w) : Calls Tryz.prog 9 #[] w fun e w' => e = .returned (.bool true) ∧ Below w.heap.size w w' := by
  have hr1 := Read_any [98, 61, 39, 37, 52, 49, 46, 38, 97, 61, 55] w (by decide) hva
  rw [all_ba] at hr1
  have HR1 := hide hr1
  have HR2 : Hid (∀ W, Below w.heap.size w W → Calls Tryz.prog 10 #[sv [97, 61, 48, 55]] W (RdPost W (.error 122))) := hide (fun W hW => by have := Read_any [97, 61, 48, 55] W (by decide) (hva.below hW (Nat.le_refl _)); rwa [all_07] at this)
  have HVa := hide hva
  clear hr1 hva
  go_enter Tryz.func9, Tryz.ntmps9
  go_upto_region 2 with (go_at_call 10; refine (unhide HR1).mono ?_; rintro e w1 ⟨v, R, rfl, own1, hrec, -, b1⟩; obtain rfl := IsRec.unique hrec rec_ab; have HO1 := hide own1.fdl; have HB1 := hide b1; clear own1 b1 hrec)
  obtain ⟨ao, cap, rfl, h1, h2, h4⟩ := id (unhide HO1)
  obtain ⟨b, off, rfl, hlt, hc⟩ := h4 (by decide)
  obtain ⟨a0, a1, a2, a3⟩ := hc 0 (by decide)
  obtain ⟨b0, b1, b2, b3⟩ := hc 1 (by decide)
  have HW := hide (Write_ok _ _ _ [fA, fB] w1 (unhide HO1) (by intro f hf; simp at hf; rcases hf with rfl | rfl <;> (refine ⟨by decide, by decide, by decide, by decide⟩)) check_ab ((unhide HVa).below (unhide HB1) (Nat.le_refl _)))
  rw [write_ab] at HW
  have HN : Hid (w1.cell? ⟨b, off + 2, none⟩ = some (.int .i64 7)) := hide a2
  have HS : Hid (w1.cell? ⟨b, off + 1 * 4 + 3, none⟩ = some (sv [65, 46])) := hide b3
  clear h4 hc a0 a1 a2 a3 b0 b1 b2 b3 HR1
  go_upto_region 4 with (first | (go_at_call 35; refine (unhide HW).mono ?_; rintro e w2 ⟨rfl, c2⟩; have HB2 := hide ((unhide HB1).trans (c2.mono (unhide HB1).size)); have n2 := cell_kept c2 (Nat.le_refl _) (unhide HN); have s2 := cell_kept c2 (Nat.le_refl _) (unhide HS); clear c2) | (go_at_call 10; refine (unhide HR2 _ (unhide HB2)).mono ?_; rintro e w3 ⟨rfl, c3⟩; have HB3 := hide ((unhide HB2).trans (c3.mono (unhide HB2).size)); have n3 := cell_kept c3 (Nat.le_refl _) n2; have s3 := cell_kept c3 (Nat.le_refl _) s2; clear c3))
  clear n2 s2
  go_wp2_with fail
  go_ret
  exact ⟨rfl, unhide HB3⟩
end Go.Proofs.YtkgepklmhdjjnaaGreatDoor
