/-
  DERIVED. The walk of Write, second part.
-/
import Derived.Test.YtkgepklmhdjjnaaGreatDoorShw
import Derived.Lib.ItoaLen
namespace Go.Proofs.YtkgepklmhdjjnaaGreatDoor
open Go.RowKit
set_option linter.unusedVariables false

theorem valT_len {f : Fld} (hf : fits f) (h : valB f = true) : (valT f).length ≤ 601 := by
  unfold valT
  have := val_len h
  split
  · have := esc_length f.s; simp; omega
  · have := Lib.itoa_length_le f.n hf.2.2.1 hf.2.2.2; omega

theorem fldT_len {f : Fld} (hf : fits f) (h : mayF f = 0) : (fldT f).length ≤ 640 := by
  obtain ⟨h1, h2⟩ := may_ok h
  have := nameB_len h1
  have := valT_len hf h2
  unfold fldT; simp; omega

theorem tail_len (xs : List (List UInt8)) (h : ∀ x ∈ xs, x.length ≤ 640) : (Lib.joinTail [38] xs).length ≤ xs.length * 641 := by
  induction xs with
  | nil => simp [Lib.joinTail]
  | cons a r ih =>
    have h1 := h a (by simp)
    have h2 := ih (fun x hx => h x (by simp [hx]))
    simp only [Lib.joinTail, List.map_cons, List.flatten_cons, List.length_append, List.length_cons] at h2 ⊢
    simp only [List.length_nil] at *
    omega
theorem join_len (xs : List (List UInt8)) (h : ∀ x ∈ xs, x.length ≤ 640) : (Lib.join xs [38]).length ≤ xs.length * 641 := by
  rcases xs with _ | ⟨a, r⟩
  · simp [Lib.join_nil]
  · rw [Lib.join_cons]
    have h1 := h a (by simp)
    have h2 := tail_len r (fun x hx => h x (by simp [hx]))
    simp; omega

theorem map_take_succ {f : Fld} {fs : List Fld} {k : Nat} (h : fs[k]? = some f) : (fs.take (k + 1)).map fldT = (fs.take k).map fldT ++ [fldT f] := by
  rw [List.take_add_one, h]; simp

/-- A row of strings, joined by '&'. -/
theorem Join_go (v : Value) (xs : List (List UInt8)) (base : Nat) (w : World) (h : SOwn w base v xs) (hl : xs.length ≤ 16) (hx : ∀ x ∈ xs, x.length ≤ 640) :
    Calls Tryz.prog 82 #[v, .string ⟨#[38]⟩] w fun e w' => e = .returned (sv (Lib.join xs [38])) ∧ Below w.heap.size w w' := by
  by_cases hz : xs = []
  · subst hz
    obtain ⟨a, c, rfl⟩ : ∃ a c, v = .slice a 0 c := by
      rcases h.2 with ⟨rfl, _⟩ | ⟨g, cap, cur, rfl, _⟩
      · exact ⟨_, _, rfl⟩
      · exact ⟨_, _, rfl⟩
    refine (Tryz.strings_Join_none a c _ w).mono ?_
    rintro e w' ⟨rfl, rfl⟩
    exact ⟨rfl, Below.refl _ _⟩
  · have hp : 0 < xs.length := List.length_pos_iff.2 hz
    rcases h.2 with ⟨_, h0⟩ | ⟨g, cap, cur, rfl, hb, hg, hn, hm, hs, ht⟩
    · omega
    · obtain ⟨ys, hys⟩ : ∃ ys : List ByteArray, ys = xs.map (fun x => ⟨x.toArray⟩) := ⟨_, rfl⟩
      have hyl : ys.length = xs.length := by rw [hys]; simp
      have hym : ys.map (·.data.toList) = xs := by rw [hys, List.map_map]; exact List.map_id' xs
      have hj := join_len xs hx
      have := Tryz.strings_Join g 0 cap ys ⟨#[38]⟩ w (fun j x hj => by
        rw [hys, List.getElem?_map] at hj
        obtain ⟨y, hy, rfl⟩ := Option.map_eq_some_iff.1 hj
        have hjl := (List.getElem?_eq_some_iff.1 hy).1
        have e : (cur.toList.take (xs.length * 1))[j]? = (xs.map sv)[j]? := by rw [ht]
        rw [List.getElem?_take_of_lt (by omega)] at e
        simp only [World.cell?, hg, Nat.zero_add]
        rw [List.getElem?_map, hy] at e
        simpa using e) (lt_of_block hg) (by omega) (by omega) (by rw [hym]; show (Lib.join xs [38]).length ≤ _; omega)
      rw [hym, hyl] at this
      exact this

set_option maxHeartbeats 1000000 in
theorem Write_bad (a : Option Addr) (n c : Nat) (fs : List Fld) (w : World) (hv : FdL w (.slice a n c) fs) (hfit : ∀ f ∈ fs, fits f) (M : Int) (hM : checkF fs = M) (hm : M ≠ 0) :
    Calls Tryz.prog 35 #[.slice a n c] w fun e w' => e = .returned (.tuple #[sv [], .int .i64 M]) ∧ Below w.heap.size w w' := by
  have HC := hide (Check_any a n c fs w hv hfit)
  rw [hM] at HC
  have hm' : (M != 0) = true := by simp [hm]
  clear hM hm hfit hv
  go_enter Tryz.func35, Tryz.ntmps35
  go_wp2_with (go_at_call 80; refine (unhide HC).mono ?_; rintro e w' ⟨rfl, b4⟩; have HB4 := hide b4; clear b4)
  go_ret2
  exact ⟨rfl, unhide HB4⟩

theorem le_alloc (w : World) (o : Obj) : w.heap.size ≤ (w.alloc o).heap.size := by simp
theorem SOwn.alloc2 {w : World} {base : Nat} {v : Value} {l : List (List UInt8)} (h : SOwn w base v l) (o : Obj) : SOwn (w.alloc o) base v l := h.below ((Below.refl w.heap.size w).alloc (Nat.le_refl _) o) (Nat.le_refl _)
theorem SOwn.drew2 {w : World} {base : Nat} {v : Value} {l : List (List UInt8)} (h : SOwn w base v l) : SOwn w.drew base v l := h.below ((Below.refl w.heap.size w).drew) (Nat.le_refl _)
theorem cell_new (w : World) (x : Value) (t : TypeId) : (w.alloc (.cells #[x] t)).cell? ⟨w.heap.size, 0, none⟩ = some x := by simp
theorem cat3 (a b c : List UInt8) : (some (Value.string ((⟨a.toArray⟩ : ByteArray) ++ ⟨b.toArray⟩ ++ ⟨c.toArray⟩))) = some (sv (a ++ b ++ c)) := by rw [str_cat, str_cat]

set_option maxHeartbeats 4000000 in
theorem Write_ok (a : Option Addr) (n c : Nat) (fs : List Fld) (w : World) (hv : FdL w (.slice a n c) fs) (hfit : ∀ f ∈ fs, fits f) (hM : checkF fs = 0) (hva : Vars w) :
    Calls Tryz.prog 35 #[.slice a n c] w fun e w' => e = .returned (.tuple #[sv (writeT fs), .int .i64 0]) ∧ Below w.heap.size w w' := by
  have HC := hide (Check_any a n c fs w hv hfit)
  have h16 : fs.length ≤ 16 := by
    unfold checkF at hM
    by_cases h : 16 < fs.length
    · rw [if_pos h] at hM; cases hM
    · omega
  have hmay : ∀ f ∈ fs, mayF f = 0 := by
    unfold checkF at hM
    rw [if_neg (by omega)] at hM
    exact chkL_may hM
  rw [hM] at HC
  obtain ⟨ao, cap, e, g1, g2, g4⟩ := id hv
  cases e
  obtain ⟨N, hN⟩ : ∃ N, N = fs.length := ⟨_, rfl⟩
  have HN := hide hN
  have HV := hide hv
  have HFit := hide hfit
  have HMay := hide hmay
  have HVa := hide hva
  rw [← hN] at g1 h16 HC HV ⊢
  clear g4 hN hv hfit hM hmay hva
  go_enter Tryz.func35, Tryz.ntmps35
  go_upto_region 4 with (go_at_call 80; refine (unhide HC).mono ?_; rintro e w1 ⟨rfl, b1⟩; have HB1 := hide b1; clear b1)
  obtain ⟨o, mk, own0⟩ := make_strs w1 N (by omega)
  have HO := hide own0
  have HB2 := hide ((unhide HB1).alloc (unhide HB1).size o)
  have hz1 := (unhide HB1).size
  have hz2 : w1.heap.size ≤ (w1.alloc o).heap.size := by simp
  obtain ⟨w2, hw2⟩ : ∃ w2, w2 = w1.alloc o := ⟨_, rfl⟩
  rw [← hw2] at mk HO HB2 hz2
  clear own0 hw2 HB1
  go_wp2_with fail
  go_loopw [5, 7, 18] (fun p _ i wr => ∃ (k : Nat), k ≤ N ∧ i = .int .i64 k ∧ Hid (SOwn wr w1.heap.size p ((fs.take k).map fldT)) ∧ Hid (Below w.heap.size w wr) ∧ w1.heap.size ≤ wr.heap.size) (fun _ _ i _ => N - (intOf i).toNat)
  case atStart => exact ⟨0, by omega, rfl, HO, HB2, hz2⟩
  case round =>
    obtain ⟨k, hk, rfl, HO', HB', hzr⟩ := hrel
    clear mk HO HB2
    by_cases hlt : k < N
    · have hkl : k < fs.length := by have := unhide HN; omega
      obtain ⟨ao, cap, e, _, _, g4⟩ := (unhide HV).below (unhide HB') (Nat.le_refl _)
      cases e
      obtain ⟨b, off, rfl, hb, hc⟩ := g4 (by omega)
      obtain ⟨d0, d1, d2, d3⟩ := hc k hkl
      obtain ⟨f, hf⟩ : ∃ f, f = fs[k] := ⟨_, rfl⟩
      rw [← hf] at d0 d1 d2 d3
      have hmem : f ∈ fs := by rw [hf]; exact List.getElem_mem hkl
      have HF := hide (map_take_succ (f := f) (fs := fs) (k := k) (by rw [hf]; exact List.getElem?_eq_getElem hkl))
      have HFf := hide (unhide HFit f hmem)
      have hm := may_ok (unhide HMay f hmem)
      have hsl := val_len hm.2
      have hvl := valT_len (unhide HFf) hm.2
      have hnl := nameB_len hm.1
      clear hf hc g4 hmem hm
      obtain ⟨fn, ft, fi, fss⟩ := f
      simp only at d0 d1 d2 d3 hsl hnl
      obtain ⟨vt, hvt⟩ : ∃ vt, vt = valT ⟨fn, ft, fi, fss⟩ := ⟨_, rfl⟩
      rw [← hvt] at hvl
      have HT : Hid (fldT ⟨fn, ft, fi, fss⟩ = fn ++ [61] ++ vt) := hide (by rw [hvt]; rfl)
      have hkc : ((fs.take k).map fldT).length = k := by simp; omega
      obtain ⟨xs, hxs⟩ : ∃ xs, xs = (fs.take k).map fldT := ⟨_, rfl⟩
      rw [← hxs] at HO' HF hkc
      have z1 : (9223372036854775807 < fn.length + 1) = False := eq_false (by omega)
      have z2 : (9223372036854775807 < fn.length + 1 + vt.length) = False := eq_false (by omega)
      have z3 : (9223372036854775807 < fn.length + (vt.length + 1)) = False := eq_false (by omega)
      have HVT : Hid (∀ w5, Below w.heap.size w w5 → Calls Tryz.prog 81 #[.agg (fv ⟨fn, ft, fi, fss⟩)] w5 fun e w' => e = .returned (sv vt) ∧ Below w5.heap.size w5 w') := hide (fun w5 hb5 => by
        rw [hvt]
        exact valueText_any ⟨fn, ft, fi, fss⟩ w5 (unhide HFf) (by show 3 * fss.length ≤ _; omega) ((unhide HVa).below hb5 (Nat.le_refl _)))
      have HBA : Hid (∀ o, Below w.heap.size w (wr.alloc o).drew) := hide (fun o => ((unhide HB').alloc (unhide HB').size o).drew)
      clear hvt hxs
      go_upto_region 8 with fail
      go_region_law (first | (go_simp; go_at_call 81; refine (unhide HVT _ (unhide HBA _)).mono ?_; rintro e w5 ⟨rfl, b5⟩; have HB5 := hide ((unhide HBA _).trans (b5.mono (unhide HBA _).size)); have HO5 := hide ((((unhide HO').alloc2 _).drew2).below b5 (Nat.le_refl _)); have hz5 := (Nat.le_trans hzr (Nat.le_trans (le_alloc wr _) b5.size)); have n5 := b5.cell (p := ⟨wr.heap.size, 0, none⟩) (by simp); simp at n5; clear b5) | (refine step_append_str rfl (.tmp 22) (.tmp 29) rfl w1.heap.size _ xs rfl ?own ?hl ?hb ⟨w5.heap.size, 0, none⟩ 1 (fn ++ [61] ++ vt) rfl ?hc ?_; (case own => exact (unhide HO5).alloc2 _); (case hl => omega); (case hb => exact Nat.le_trans hz5 (le_alloc w5 _)); (case hc => rw [cell_new, cat3]); intro v6 w6 own6 b6; have HO6 := hide own6; have HB6 := hide (((unhide HB5).alloc (unhide HB5).size _).trans (b6.mono hz1)); have hz6 := (Nat.le_trans (Nat.le_trans hz5 (le_alloc w5 _)) b6.size); clear own6 b6))
      all_goals
        go_wp2
        go_roundw
        case rel => exact ⟨k + 1, by omega, by go_num, (by rw [unhide HF, unhide HT]; exact HO6), HB6, hz6⟩
        case measure => simp [intOf]; omega
    · have HR : Hid (fs.take k = fs) := hide (List.take_of_length_le (by have := unhide HN; omega))
      rw [unhide HR] at HO'
      have HJ := hide (Join_go _ _ _ wr (unhide HO') (by have := unhide HN; simp; omega) (by
        intro x hx
        obtain ⟨f, hf, rfl⟩ := List.mem_map.1 hx
        exact fldT_len (unhide HFit f hf) (unhide HMay f hf)))
      go_wp2_with (go_at_call 82; refine (unhide HJ).mono ?_; rintro e w7 ⟨rfl, b7⟩; have HB7 := hide ((unhide HB').trans (b7.mono (unhide HB').size)); clear b7)
      go_ret2
      exact ⟨rfl, unhide HB7⟩
end Go.Proofs.YtkgepklmhdjjnaaGreatDoor
