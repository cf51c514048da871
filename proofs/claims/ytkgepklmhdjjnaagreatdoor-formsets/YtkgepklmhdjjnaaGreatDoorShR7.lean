/-
  DERIVED. The document's Drop and Set.
-/
import Derived.Test.YtkgepklmhdjjnaaGreatDoorShR6
namespace Go.Proofs.YtkgepklmhdjjnaaGreatDoor
open Go.RowKit
set_option linter.unusedVariables false

theorem drop_same {r : List Fld} {nm : List UInt8} (h : hasF r nm = false) : dropF r nm = r := by
  unfold dropF behF
  rw [h]
  simp
theorem fdn_len {w : World} {a : Option Addr} {c : Nat} {fs : List Fld} (h : FdN w a c fs) : fs.length ≤ c ∧ c ≤ 9223372036854775807 := by obtain ⟨_, _, e, h1, h2, _⟩ := h.1; cases e; exact ⟨h1, h2⟩

set_option maxHeartbeats 4000000 in
theorem rDrop_any (a : Option Addr) (c : Nat) (fs : List Fld) (nm : List UInt8) (w : World) (hv : FdN w a c fs) (hlen : fs.length * 48 ≤ 140737488355328) :
    Calls Tryz.prog 24 #[.slice a fs.length c, sv nm] w fun e w' => ∃ v, e = .returned v ∧ FOwn w' w.heap.size v (dropF fs nm) ∧ Below w.heap.size w w' := by
  have HPl := hide (rfind_any a fs.length c fs nm w hv.1)
  have hcl := fdn_len hv
  have hb0 : Below w.heap.size w (w.alloc (.cells #[] 33)) := (Below.refl _ _).alloc (Nat.le_refl _) _
  have HB0 := hide hb0
  have HV0 := hide (hv.below hb0 (Nat.le_refl _))
  have HO0 := hide (fown_empty w)
  cases hh : hasF fs nm with
  | false =>
    have hfa : findA fs nm = -1 := by unfold findA; rw [hh]; rfl
    have HD := hide (drop_same hh)
    rw [hfa] at HPl
    clear hv hh hfa hb0
    go_enter Tryz.func24, Tryz.ntmps24
    go_wp2_with (first | (go_at_call 43; refine (unhide HPl).mono ?_; rintro e w2 ⟨rfl, rfl⟩) | (at_builtin; refine wpList_append_flds rfl (.tmp 11) (.tmp 12) rfl w.heap.size _ [] rfl (unhide HO0) a c fs rfl (unhide HV0) (by simp; omega) (unhide HB0).size ?_; intro v' w5 own5 b5; have HO5 := hide own5; have HB5 := hide ((unhide HB0).trans b5); clear own5 b5))
    go_ret
    exact ⟨_, rfl, by rw [unhide HD]; simpa using unhide HO5, unhide HB5⟩
  | true =>
    obtain ⟨hql, _⟩ := at_get hh
    have hfa : findA fs nm = (atF fs nm : Int) := by unfold findA; rw [hh]; rfl
    have hbe : behF fs nm = atF fs nm + 1 := by unfold behF; rw [hh]; rfl
    have HD : Hid (dropF fs nm = fs.take (atF fs nm) ++ fs.drop (behF fs nm)) := hide rfl
    rw [hfa] at HPl
    obtain ⟨q, hq⟩ : ∃ q, q = atF fs nm := ⟨_, rfl⟩
    obtain ⟨p, hp⟩ : ∃ p, p = behF fs nm := ⟨_, rfl⟩
    rw [← hq] at HPl hql hbe
    rw [← hp] at hbe
    rw [← hq, ← hp] at HD
    obtain ⟨b, off, rfl⟩ := hv.2 (by omega)
    have hwp : IntKind.i64.wrap ((q : Int) + 1) = (p : Int) := by rw [IntKind.wrap_i64]; omega
    have hpl : p ≤ fs.length := by omega
    have hqp : q ≤ p := by omega
    have hq0 : ¬ (q : Int) < 0 := by omega
    have i1 : (0 : Int) ≤ (q : Int) := by omega
    have i2 : (q : Int) ≤ (c : Int) := by omega
    have i3 : (p : Int) ≤ (fs.length : Int) := by omega
    have i4 : (0 : Int) ≤ (p : Int) := by omega
    have i5 : (fs.length : Int) ≤ (c : Int) := by omega
    have HT := hide ((unhide HV0).take q (by omega))
    have HTl : Hid ((fs.take q).length = q) := hide (by simp; omega)
    by_cases hcp : c = p
    · have HE : Hid (fs.drop p = []) := hide (List.drop_of_length_le (by omega))
      have HR : Hid (∀ W, Below w.heap.size w W → FdN W (some ⟨b, off, none⟩) 0 (fs.drop p)) := hide (fun W hW => by rw [unhide HE]; exact FdN.empty (fun h => absurd rfl h) (by omega))
      have HDl : Hid ((fs.drop p).length = 0) := hide (by rw [unhide HE]; rfl)
      subst hcp
      clear hv hh hfa hb0 hbe hq hp
      go_enter Tryz.func24, Tryz.ntmps24
      go_upto_region 4 with (go_at_call 43; refine (unhide HPl).mono ?_; rintro e w2 ⟨rfl, rfl⟩)
      go_region_law (first | (refine step_append_flds rfl (.tmp 14) (.tmp 17) rfl w.heap.size _ [] rfl ?own (some ⟨b, off, none⟩) q c (fs.take q) (unhide HTl).symm rfl ?fd ?hl ?hb ?_; (case own => exact (unhide HO0).below ((Below.refl _ _).drew) (Nat.le_refl _)); (case fd => exact (unhide HT).below ((Below.refl _ _).drew) (Nat.le_refl _)); (case hl => simp; omega); (case hb => simp); intro v4 w4 own4 b4; have HO4 : Hid (FOwn w4 w.heap.size v4 (fs.take q)) := hide (by simpa using own4); have HB4 := hide (((unhide HB0).drew).trans b4); clear own4 b4) | (refine step_append_flds rfl (.tmp 18) (.tmp 22) rfl w.heap.size _ (fs.take q) rfl ?own2 (some ⟨b, off, none⟩) 0 0 (fs.drop c) (unhide HDl).symm rfl ?fd2 ?hl2 ?hb2 ?_; (case own2 => exact unhide HO4); (case fd2 => exact unhide HR _ (unhide HB4)); (case hl2 => simp; omega); (case hb2 => exact (unhide HB4).size); intro v5 w5 own5 b5; have HO5 := hide own5; have HB5 := hide ((unhide HB4).trans b5); clear own5 b5))
      all_goals
        go_wp2
        go_ret
        exact ⟨_, rfl, by rw [unhide HD]; exact unhide HO5, unhide HB5⟩
    · have HR := hide (fun W (hW : Below w.heap.size w W) => ((hv.below hW (Nat.le_refl _)).drop p hpl))
      have HDl : Hid ((fs.drop p).length = fs.length - p) := hide (by simp)
      clear hv hh hfa hb0 hbe hq hp
      go_enter Tryz.func24, Tryz.ntmps24
      go_upto_region 4 with (go_at_call 43; refine (unhide HPl).mono ?_; rintro e w2 ⟨rfl, rfl⟩)
      go_region_law (first | (refine step_append_flds rfl (.tmp 14) (.tmp 17) rfl w.heap.size _ [] rfl ?own (some ⟨b, off, none⟩) q c (fs.take q) (unhide HTl).symm rfl ?fd ?hl ?hb ?_; (case own => exact (unhide HO0).below ((Below.refl _ _).drew) (Nat.le_refl _)); (case fd => exact (unhide HT).below ((Below.refl _ _).drew) (Nat.le_refl _)); (case hl => simp; omega); (case hb => simp); intro v4 w4 own4 b4; have HO4 : Hid (FOwn w4 w.heap.size v4 (fs.take q)) := hide (by simpa using own4); have HB4 := hide (((unhide HB0).drew).trans b4); clear own4 b4) | (refine step_append_flds rfl (.tmp 18) (.tmp 22) rfl w.heap.size _ (fs.take q) rfl ?own2 (some ⟨b, off + p * 4, none⟩) (fs.length - p) (c - p) (fs.drop p) (unhide HDl).symm rfl ?fd2 ?hl2 ?hb2 ?_; (case own2 => exact unhide HO4); (case fd2 => exact unhide HR _ (unhide HB4)); (case hl2 => simp; omega); (case hb2 => exact (unhide HB4).size); intro v5 w5 own5 b5; have HO5 := hide own5; have HB5 := hide ((unhide HB4).trans b5); clear own5 b5))
      all_goals
        go_wp2
        go_ret
        exact ⟨_, rfl, by rw [unhide HD]; exact unhide HO5, unhide HB5⟩

theorem set_has {r : List Fld} {f : Fld} (h : hasF r f.name = true) : setF r f = r.set (atF r f.name) f := by
  unfold setF behF
  rw [h]
  have := (at_get h).1
  simp only [if_true]
  rw [List.set_eq_take_append_cons_drop, if_pos this]
  simp

theorem at_none {r : List Fld} {nm : List UInt8} {k : Nat} (hh : hasF r nm = false) (hk : k ≤ r.length) (hb : ∀ f ∈ r.take k, ¬ nm < f.name) (ha : ∀ f, r[k]? = some f → nm < f.name) : atF r nm = k := by
  have h1 : r.findIdx? (fun f => f.name == nm) = none := by
    unfold hasF at hh
    rw [List.any_eq_false] at hh
    rw [List.findIdx?_eq_none_iff]; intro f hf; simpa using hh f hf
  unfold atF
  rw [h1]
  refine findIdx_of hk (fun i x hi hx => ?_) (fun hl => ?_)
  · have : x ∈ r.take k := List.mem_iff_getElem?.2 ⟨i, by rw [List.getElem?_take_of_lt hi]; exact hx⟩
    simpa using hb x this
  · exact ⟨r[k], List.getElem?_eq_getElem hl, by simpa using ha _ (List.getElem?_eq_getElem hl)⟩

theorem one_fdn (W : World) (f : Fld) : FdN (W.alloc (.cells (fv f) 33)) (some ⟨W.heap.size, 0, none⟩) 1 [f] := by
  have fb := FBox.new W f
  obtain ⟨x0, x1, x2, x3, _⟩ := fb.cells
  refine ⟨⟨_, _, rfl, by simp, by omega, fun _ => ⟨W.heap.size, 0, rfl, fb.lt, fun i hi => ?_⟩⟩, fun _ => ⟨_, _, rfl⟩⟩
  have : i = 0 := by simp at hi; omega
  subst this
  simp only [Nat.zero_mul, Nat.add_zero, Nat.zero_add, List.getElem_cons_zero]
  exact ⟨x0, x1, x2, x3⟩

set_option maxHeartbeats 4000000 in
theorem rSet_has (a : Option Addr) (c : Nat) (fs : List Fld) (f : Fld) (w : World) (hv : FdN w a c fs) (hlen : (fs.length + 1) * 48 ≤ 140737488355328) (hh : hasF fs f.name = true) :
    Calls Tryz.prog 23 #[.slice a fs.length c, .agg (fv f)] w fun e w' => ∃ v, e = .returned v ∧ FOwn w' w.heap.size v (setF fs f) ∧ Below w.heap.size w w' := by
  have HSet := hide (set_has hh)
  obtain ⟨fn, ft, fi, fss⟩ := f
  simp only at hh HSet
  have hcl := fdn_len hv
  obtain ⟨hql, _⟩ := at_get hh
  have hfa : findA fs fn = (atF fs fn : Int) := by unfold findA; rw [hh]; rfl
  have HPl : Hid (∀ W, Below w.heap.size w W → Calls Tryz.prog 43 #[.slice a fs.length c, sv fn] W fun e w' => e = .returned (.int .i64 (findA fs fn)) ∧ W = w') := hide (fun W hW => rfind_any a fs.length c fs fn W (hv.1.below hW (Nat.le_refl _)))
  rw [hfa] at HPl
  obtain ⟨q, hq⟩ : ∃ q, q = atF fs fn := ⟨_, rfl⟩
  rw [← hq] at HPl hql HSet
  have hb1 : Below w.heap.size w (w.alloc (.cells (fv ⟨fn, ft, fi, fss⟩) 33)) := (Below.refl _ _).alloc (Nat.le_refl _) _
  have hf1 := FBox.new w ⟨fn, ft, fi, fss⟩
  obtain ⟨w1, hw1⟩ : ∃ w1, w1 = w.alloc (.cells (fv ⟨fn, ft, fi, fss⟩) 33) := ⟨_, rfl⟩
  have HW1 := hide hw1
  rw [← hw1] at hb1 hf1
  have HBW := hide hb1
  have HB0 := hide ((Below.refl w1.heap.size w1).alloc (Nat.le_refl _) (.cells #[] 33))
  have HV0 := hide ((hv.below hb1 (Nat.le_refl _)).below (unhide HB0) (Nat.le_refl _))
  have HO0 := hide (fown_empty w1)
  have HBox := hide hf1
  have hq0 : (0 : Int) ≤ (q : Int) := by omega
  have hqn : ¬ (q : Int) < 0 := by omega
  obtain ⟨x0, x1, x2, x3, xf⟩ := hf1.cells
  simp only at x0 x1 x2 x3
  clear hv hh hfa hq hw1 hb1 hf1
  go_enter Tryz.func23, Tryz.ntmps23
  go_upto_region 1 with fail
  rw [← unhide HW1]
  obtain ⟨B, hB⟩ : ∃ B, B = w.heap.size := ⟨_, rfl⟩
  rw [← hB] at x0 x1 x2 x3 xf HBox ⊢
  have HBB := hide hB
  clear hB HW1
  go_upto_region 4 with (first | (go_at_call 43; refine (unhide HPl _ (unhide HBW)).mono ?_; rintro e w2 ⟨rfl, rfl⟩) | (at_builtin; refine wpList_append_flds rfl (.tmp 14) (.tmp 15) rfl w1.heap.size _ [] rfl (unhide HO0) a c fs rfl (unhide HV0) (by simp; omega) (unhide HB0).size ?_; intro v' w5 own5 b5; have HO5 : Hid (FOwn w5 w1.heap.size v' fs) := hide (by simpa using own5); have HB5 := hide ((unhide HB0).trans b5); clear own5 b5))
  have hown := unhide HO5
  rcases hown.2 with ⟨_, h0⟩ | ⟨g, cap, cur, rfl, hgb, hg, hn, hm, hs, hta⟩
  · omega
  · obtain ⟨⟨y0, y1, y2, y3⟩, yf⟩ := hown.slots q hql
    have HP := hide (hown.put q hql ⟨fn, ft, fi, fss⟩)
    have HBP := hide (below_fput (unhide HB5) hgb q ⟨fn, ft, fi, fss⟩)
    clear x0 x1 x2 x3 xf
    obtain ⟨x0, x1, x2, x3, xf⟩ := ((unhide HBox).below (unhide HB5) (Nat.le_refl _)).cells
    simp only at x0 x1 x2 x3
    have hqN : (q : Int) < (fs.length : Int) := by omega
    have hBg : B ≠ g := by have := (unhide HBox).lt; omega
    clear hg hn hm hs hta hown
    go_wp2_with fail
    go_ret
    exact ⟨_, rfl, (by rw [unhide HSet]; exact (unhide HP).mono (unhide HBW).size), (unhide HBW).trans ((unhide HBP).mono (unhide HBW).size)⟩
end Go.Proofs.YtkgepklmhdjjnaaGreatDoor
