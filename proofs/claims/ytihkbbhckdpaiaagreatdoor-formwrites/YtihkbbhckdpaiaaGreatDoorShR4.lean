/-
  DERIVED. The document's Write.
-/
import Derived.Test.YtihkbbhckdpaiaaGreatDoorShR3
namespace Go.Proofs.YtihkbbhckdpaiaaGreatDoor
open Go.RowKit
set_option linter.unusedVariables false

theorem join_snoc (xs : List (List UInt8)) (x : List UInt8) : Lib.join (xs ++ [x]) [38] = if xs = [] then x else Lib.join xs [38] ++ [38] ++ x := by
  rcases xs with _ | ⟨a, r⟩
  · rw [if_pos rfl]; exact Lib.join_one x [38]
  · rw [if_neg (by simp)]
    show Lib.join (a :: (r ++ [x])) [38] = _
    rw [Lib.join_cons, Lib.join_cons]
    simp [Lib.joinTail]

set_option maxHeartbeats 1000000 in
theorem rWrite_bad (a : Option Addr) (n c : Nat) (fs : List Fld) (w : World) (hv : FdL w (.slice a n c) fs) (hfit : ∀ f ∈ fs, fits f) (M : Int) (hM : checkF fs = M) (hm : M ≠ 0) :
    Calls Tryz.prog 9 #[.slice a n c] w fun e w' => e = .returned (.tuple #[sv [], .int .i64 M]) ∧ Below w.heap.size w w' := by
  have HC := hide (rCheck_any a n c fs w hv hfit)
  rw [hM] at HC
  have hm' : (M != 0) = true := by simp [hm]
  clear hM hm hfit hv
  go_enter Tryz.func9, Tryz.ntmps9
  go_wp2_with (go_at_call 11; refine (unhide HC).mono ?_; rintro e w' ⟨rfl, b4⟩; have HB4 := hide b4; clear b4)
  go_ret2
  exact ⟨rfl, unhide HB4⟩

theorem cat4 (o fn vt : List UInt8) : (⟨o.toArray⟩ : ByteArray) ++ ⟨fn.toArray⟩ ++ ⟨#[61]⟩ ++ ⟨vt.toArray⟩ = ⟨(o ++ (fn ++ [61] ++ vt)).toArray⟩ := by
  rw [show (⟨#[61]⟩ : ByteArray) = ⟨[61].toArray⟩ from rfl, str_cat, str_cat, str_cat]
  simp

set_option maxHeartbeats 8000000 in
theorem rWrite_ok (a : Option Addr) (n c : Nat) (fs : List Fld) (w : World) (hv : FdL w (.slice a n c) fs) (hfit : ∀ f ∈ fs, fits f) (hM : checkF fs = 0) (hva : Vars w) :
    Calls Tryz.prog 9 #[.slice a n c] w fun e w' => e = .returned (.tuple #[sv (writeT fs), .int .i64 0]) ∧ Below w.heap.size w w' := by
  have HC := hide (rCheck_any a n c fs w hv hfit)
  obtain ⟨h16, hmay, _⟩ := check_ok hM
  rw [hM] at HC
  obtain ⟨ao, cap, e, g1, g2, g4⟩ := id hv
  cases e
  obtain ⟨N, hN⟩ : ∃ N, N = fs.length := ⟨_, rfl⟩
  have HN := hide hN
  have H4 := hide g4
  have HFit := hide hfit
  have HMay := hide hmay
  have HVa := hide hva
  rw [← hN] at g1 h16 HC ⊢
  clear g4 hN hv hfit hM hmay hva
  go_enter Tryz.func9, Tryz.ntmps9
  go_wp2_with (go_at_call 11; refine (unhide HC).mono ?_; rintro e w1 ⟨rfl, b1⟩; have HB1 := hide b1; clear b1)
  go_loopw [5, 6] (fun o i wr => ∃ (k : Nat) (out : List UInt8), k ≤ N ∧ i = .int .i64 k ∧ o = sv out ∧ out.length ≤ k * 641 ∧ Hid (out = Lib.join ((fs.take k).map fldT) [38]) ∧ Hid (Below w.heap.size w wr)) (fun _ i _ => N - (intOf i).toNat)
  case atStart => exact ⟨0, [], by omega, rfl, rfl, by simp, hide (by simp [Lib.join_nil]), HB1⟩
  case round =>
    obtain ⟨k, out, hk, rfl, rfl, hol, HOut, HB⟩ := hrel
    by_cases hlt : k < N
    · have hkl : k < fs.length := by have := unhide HN; omega
      obtain ⟨b, off, rfl, hb, hc⟩ := unhide H4 (by omega)
      obtain ⟨c0, c1, c2, c3⟩ := hc k hkl
      obtain ⟨f, hf⟩ : ∃ f, f = fs[k] := ⟨_, rfl⟩
      rw [← hf] at c0 c1 c2 c3
      have hmem : f ∈ fs := by rw [hf]; exact List.getElem_mem hkl
      have HNext : Hid (Lib.join ((fs.take (k + 1)).map fldT) [38] = if k = 0 then fldT f else out ++ [38] ++ fldT f) := hide (by
        rw [map_take_succ (f := f) (fs := fs) (k := k) (by rw [hf]; exact List.getElem?_eq_getElem hkl), join_snoc, ← unhide HOut]
        by_cases h0 : k = 0
        · subst h0; simp
        · rw [if_neg (by simp; exact ⟨h0, by rintro rfl; simp at hkl⟩), if_neg h0])
      have HFf := hide (unhide HFit f hmem)
      have hm := may_ok (unhide HMay f hmem)
      have hsl := val_len hm.2
      have hvl := valT_len (unhide HFf) hm.2
      have hnl := nameB_len hm.1
      have HCell : Hid (∀ W, Below w.heap.size w W → W.cell? ⟨b, off + k * 4, none⟩ = some (sv f.name) ∧ W.cell? ⟨b, off + k * 4 + 1, none⟩ = some (.bool f.text) ∧ W.cell? ⟨b, off + k * 4 + 2, none⟩ = some (.int .i64 f.n) ∧ W.cell? ⟨b, off + k * 4 + 3, none⟩ = some (sv f.s)) := hide (fun W hW => ⟨(hW.cell (p := ⟨b, off + k * 4, none⟩) hb).trans c0, (hW.cell (p := ⟨b, off + k * 4 + 1, none⟩) hb).trans c1, (hW.cell (p := ⟨b, off + k * 4 + 2, none⟩) hb).trans c2, (hW.cell (p := ⟨b, off + k * 4 + 3, none⟩) hb).trans c3⟩)
      clear hf hc c0 c1 c2 c3 hmem hm
      obtain ⟨fn, ft, fi, fss⟩ := f
      simp only at hsl hnl HCell
      obtain ⟨vt, hvt⟩ : ∃ vt, vt = valT ⟨fn, ft, fi, fss⟩ := ⟨_, rfl⟩
      rw [← hvt] at hvl
      have HT : Hid (fldT ⟨fn, ft, fi, fss⟩ = fn ++ [61] ++ vt) := hide (by rw [hvt]; rfl)
      have HVT : Hid (∀ w5, Below w.heap.size w w5 → Calls Tryz.prog 29 #[.agg (fv ⟨fn, ft, fi, fss⟩)] w5 fun e w' => e = .returned (sv vt) ∧ Below w5.heap.size w5 w') := hide (fun w5 hb5 => by
        rw [hvt]
        exact rValue_any ⟨fn, ft, fi, fss⟩ w5 (unhide HFf) (by show 3 * fss.length ≤ _; omega) ((unhide HVa).below hb5 (Nat.le_refl _)))
      have HBd := hide ((unhide HB).drew)
      obtain ⟨d0, d1, d2, d3⟩ := unhide HCell wr.drew (unhide HBd)
      have hsz := (unhide HB).size
      clear hvt
      by_cases hk0 : k = 0
      · have hg : ¬ (0 : Int) < (k : Int) := by omega
        have HNx : Hid (out ++ (fn ++ [61] ++ vt) = Lib.join ((fs.take (k + 1)).map fldT) [38]) := hide (by
          have ho : out = [] := List.eq_nil_of_length_eq_zero (by rw [hk0] at hol; omega)
          rw [unhide HNext, if_pos hk0, unhide HT, ho, List.nil_append])
        have hol2 : out.length ≤ 10256 := by omega
        have z1 : (9223372036854775807 < out.length + fn.length) = False := eq_false (by omega)
        have z2 : (9223372036854775807 < out.length + fn.length + 1) = False := eq_false (by omega)
        have z3 : (9223372036854775807 < out.length + fn.length + 1 + vt.length) = False := eq_false (by omega)
        have hln : (out ++ (fn ++ [61] ++ vt)).length ≤ (k + 1) * 641 := by simp; omega
        have hg2 : decide (0 < k) = false := decide_eq_false (by omega)
        clear hk0
        go_upto_region 10 with fail
        go_region_law (first | (go_simp; go_at_call 29; refine (unhide HVT _ (unhide HBd)).mono ?_; rintro e w5 ⟨rfl, b5⟩; have HB5 := hide ((unhide HBd).trans (b5.mono (unhide HBd).size)); obtain ⟨q0, q1, q2, q3⟩ := unhide HCell w5 (unhide HB5); clear b5))
        all_goals
          go_wp2
          go_roundw
          case rel => exact ⟨k + 1, out ++ (fn ++ [61] ++ vt), by omega, by go_num, by rw [cat4], hln, HNx, HB5⟩
          case measure => simp [intOf]; omega
      · have HNx : Hid ((out ++ [38]) ++ (fn ++ [61] ++ vt) = Lib.join ((fs.take (k + 1)).map fldT) [38]) := hide (by rw [unhide HNext, if_neg hk0, unhide HT])
        have hg : (0 : Int) < (k : Int) := by omega
        have hg2 : decide (0 < k) = true := decide_eq_true (by omega)
        have z0 : (9223372036854775807 < out.length + 1) = False := eq_false (by omega)
        have hln : ((out ++ [38]) ++ (fn ++ [61] ++ vt)).length ≤ (k + 1) * 641 := by simp; omega
        have hol2 : (out ++ [38]).length ≤ 10257 := by simp; omega
        clear hk0
        go_upto_region 10 with fail
        rw [show (⟨out.toArray⟩ : ByteArray) ++ ⟨#[38]⟩ = ⟨(out ++ [38]).toArray⟩ from str_cat out [38]]
        obtain ⟨o2, ho2⟩ : ∃ o2, o2 = out ++ [38] := ⟨_, rfl⟩
        rw [← ho2] at HNx hln hol2 ⊢
        clear ho2
        have z1 : (9223372036854775807 < o2.length + fn.length) = False := eq_false (by omega)
        have z2 : (9223372036854775807 < o2.length + fn.length + 1) = False := eq_false (by omega)
        have z3 : (9223372036854775807 < o2.length + fn.length + 1 + vt.length) = False := eq_false (by omega)
        go_region_law (first | (go_simp; go_at_call 29; refine (unhide HVT _ (unhide HBd)).mono ?_; rintro e w5 ⟨rfl, b5⟩; have HB5 := hide ((unhide HBd).trans (b5.mono (unhide HBd).size)); obtain ⟨q0, q1, q2, q3⟩ := unhide HCell w5 (unhide HB5); clear b5))
        all_goals
          go_wp2
          go_roundw
          case rel => exact ⟨k + 1, o2 ++ (fn ++ [61] ++ vt), by omega, by go_num, by rw [cat4], hln, HNx, HB5⟩
          case measure => simp [intOf]; omega
    · have HR : Hid (out = writeT fs) := hide (by rw [unhide HOut, List.take_of_length_le (by have := unhide HN; omega)]; rfl)
      go_wp2_with fail
      go_ret2
      rw [← unhide HR]
      exact ⟨rfl, unhide HB⟩
end Go.Proofs.YtihkbbhckdpaiaaGreatDoor
