/-
  DERIVED. The document's find and Get.
-/
import Derived.Test.YtkgepklmhdjjnaaGreatDoorShst
namespace Go.Proofs.YtkgepklmhdjjnaaGreatDoor
open Go.RowKit
set_option linter.unusedVariables false

theorem found_no {r : List Fld} {nm : List UInt8} {k : Nat} (h : ∀ f ∈ r.take k, f.name ≠ nm) {f : Fld} (hf : r[k]? = some f) (he : f.name = nm) : atF r nm = k ∧ hasF r nm = true := by
  have hk := (List.getElem?_eq_some_iff.1 hf).1
  have h1 : r.findIdx? (fun f => f.name == nm) = some k := by
    rw [List.findIdx?_eq_some_iff_getElem]
    refine ⟨hk, ?_, ?_⟩
    · have : r[k] = f := (List.getElem?_eq_some_iff.1 hf).2
      rw [this]; simpa using he
    · intro j hj
      have hm : r[j] ∈ r.take k := by
        rw [List.mem_iff_getElem?]
        exact ⟨j, by rw [List.getElem?_take_of_lt hj, List.getElem?_eq_getElem (by omega)]⟩
      simpa using h _ hm
  refine ⟨by unfold atF; rw [h1], ?_⟩
  unfold hasF
  rw [List.any_eq_true]
  exact ⟨f, List.mem_of_getElem? hf, by simpa using he⟩
theorem has_none {r : List Fld} {nm : List UInt8} (h : ∀ f ∈ r, f.name ≠ nm) : hasF r nm = false := by
  unfold hasF
  rw [List.any_eq_false]; intro f hf; simpa using h f hf

/-- What find answers. -/
def findA (r : List Fld) (nm : List UInt8) : Int := if hasF r nm then (atF r nm : Int) else -1

set_option maxHeartbeats 4000000 in
theorem rfind_any (a : Option Addr) (n c : Nat) (fs : List Fld) (nm : List UInt8) (w : World) (hv : FdL w (.slice a n c) fs) :
    Calls Tryz.prog 43 #[.slice a n c, sv nm] w fun e w' => e = .returned (.int .i64 (findA fs nm)) ∧ w = w' := by
  obtain ⟨a', c', e, hac, hc63, hcells⟩ := fdl_cells hv
  cases e
  obtain ⟨N, hN⟩ : ∃ N, N = fs.length := ⟨_, rfl⟩
  have HN := hide hN
  have HCe := hide hcells
  rw [← hN] at hac ⊢
  clear hN hv hcells
  go_enter Tryz.func43, Tryz.ntmps43
  go_wp2_with fail
  go_loopw [5] (fun i wr => ∃ (k : Nat), k ≤ N ∧ i = .int .i64 k ∧ Hid (∀ f ∈ fs.take k, f.name ≠ nm) ∧ Hid (wr = w)) (fun i _ => N - (intOf i).toNat)
  case atStart => exact ⟨0, by omega, rfl, hide (fun f hf => by simp at hf), hide rfl⟩
  case round =>
    obtain ⟨k, hk, rfl, HNo, HW⟩ := hrel
    by_cases hlt : k < N
    · obtain ⟨⟨fn, ft, fi, fss⟩, hf⟩ : ∃ f, fs[k]? = some f := ⟨_, List.getElem?_eq_getElem (by have := unhide HN; omega)⟩
      obtain ⟨b, off, rfl, _, x0, _, _, _⟩ := unhide HCe k _ hf
      simp only at x0
      have y0 : wr.cell? ⟨b, off + k * 4, none⟩ = some (sv fn) := by rw [unhide HW]; exact x0
      clear x0
      by_cases he : fn = nm
      · obtain ⟨e1, e2⟩ := found_no (unhide HNo) hf he
        have HR : Hid (findA fs nm = (k : Int)) := hide (by unfold findA; rw [e2, e1]; rfl)
        have hbq : (fn == nm) = true := beq_iff_eq.2 he
        clear he hf e1 e2
        go_wp2_with fail
        go_ret
        rw [unhide HR]
        exact ⟨rfl, (unhide HW).symm⟩
      · have hbq : (fn == nm) = false := beq_eq_false_iff_ne.2 he
        have HNo2 : Hid (∀ f ∈ fs.take (k + 1), f.name ≠ nm) := hide (fun g hg => by
          rw [List.take_add_one, hf] at hg
          rcases List.mem_append.1 hg with hg | hg
          · exact unhide HNo g hg
          · simp at hg; rw [hg]; exact he)
        clear he hf
        go_wp2_with fail
        go_roundw
        case rel => exact ⟨k + 1, by omega, by go_num, HNo2, HW⟩
        case measure => simp [intOf]; omega
    · have HR : Hid (findA fs nm = -1) := hide (by
        unfold findA
        rw [has_none (fun f hf => unhide HNo f (by rw [List.take_of_length_le (by have := unhide HN; omega)]; exact hf))]
        rfl)
      go_wp2_with fail
      go_ret
      rw [unhide HR]
      exact ⟨rfl, (unhide HW).symm⟩

set_option maxHeartbeats 2000000 in
theorem rGet_any (a : Option Addr) (n c : Nat) (fs : List Fld) (nm : List UInt8) (w : World) (hv : FdL w (.slice a n c) fs) :
    Calls Tryz.prog 20 #[.slice a n c, sv nm] w fun e w' => e = .returned (.tuple #[.agg (fv (getA fs nm)), .bool (hasF fs nm)]) ∧ Below w.heap.size w w' := by
  have HPl : Hid (∀ W, Below w.heap.size w W → Calls Tryz.prog 43 #[.slice a n c, sv nm] W fun e w' => e = .returned (.int .i64 (findA fs nm)) ∧ W = w') := hide (fun W hW => rfind_any a n c fs nm W (hv.below hW (Nat.le_refl _)))
  obtain ⟨a', c', e, hac, hc63, hcells⟩ := fdl_cells hv
  cases e
  cases hh : hasF fs nm with
  | false =>
    have HG := hide (get_none hh)
    have hfa : findA fs nm = -1 := by unfold findA; rw [hh]; rfl
    rw [hfa] at HPl
    clear hv hcells hh hfa
    go_enter Tryz.func20, Tryz.ntmps20
    go_upto_region 1 with fail
    have hb1 : Below w.heap.size w (w.alloc (.cells (fv fld0) 33)) := (Below.refl _ _).alloc (Nat.le_refl _) _
    have hf1 := FBox.new w fld0
    obtain ⟨w1, hw1⟩ : ∃ w1, w1 = w.alloc (.cells (fv fld0) 33) := ⟨_, rfl⟩
    rw [← hw1] at hb1 hf1
    rw [show w.alloc (.cells #[Value.string ⟨#[]⟩, .bool false, .int .i64 0, Value.string ⟨#[]⟩] 33) = w1 from hw1.symm]
    have HB1 := hide hb1
    have HF1 := hide hf1
    clear hw1 hb1 hf1
    obtain ⟨c0, c1, c2, c3, cf⟩ := (unhide HF1).cells
    have HE := hide ((unhide HF1).put [] false 0 [])
    have BE := hide (below_put (unhide HB1) (Nat.le_refl _) [] false 0 [])
    go_wp2_with (go_at_call 43; refine (unhide HPl _ (unhide HB1)).mono ?_; rintro e w2 ⟨rfl, rfl⟩)
    exact bodyPost_ret (results_ct rfl _ _ w.heap.size 33 (fv fld0) (0, 0) _ (.bool false) rfl rfl (unhide HE) Tryz.underlying33 rfl sizeField) rfl ⟨by rw [unhide HG], unhide BE⟩
  | true =>
    obtain ⟨hql, hqf⟩ := at_get hh
    have hfa : findA fs nm = (atF fs nm : Int) := by unfold findA; rw [hh]; rfl
    rw [hfa] at HPl
    obtain ⟨q, hq⟩ : ∃ q, q = atF fs nm := ⟨_, rfl⟩
    rw [← hq] at HPl hql hqf
    obtain ⟨⟨gn, gt, gi, gs⟩, hg⟩ : ∃ g, g = getA fs nm := ⟨_, rfl⟩
    rw [← hg] at hqf ⊢
    obtain ⟨b, off, rfl, hb, x0, x1, x2, x3⟩ := hcells q _ hqf
    have HCell : Hid (∀ W, Below w.heap.size w W → W.cell? ⟨b, off + q * 4, none⟩ = some (sv gn) ∧ W.cell? ⟨b, off + q * 4 + 1, none⟩ = some (.bool gt) ∧ W.cell? ⟨b, off + q * 4 + 2, none⟩ = some (.int .i64 gi) ∧ W.cell? ⟨b, off + q * 4 + 3, none⟩ = some (sv gs)) := hide (fun W hW => ⟨(hW.cell (p := ⟨b, off + q * 4, none⟩) hb).trans x0, (hW.cell (p := ⟨b, off + q * 4 + 1, none⟩) hb).trans x1, (hW.cell (p := ⟨b, off + q * 4 + 2, none⟩) hb).trans x2, (hW.cell (p := ⟨b, off + q * 4 + 3, none⟩) hb).trans x3⟩)
    have hqi : ¬ (q : Int) < 0 := by omega
    have hqN : (q : Int) < (fs.length : Int) := by omega
    clear hv hcells hh hq hqf hg x0 x1 x2 x3 hfa
    go_enter Tryz.func20, Tryz.ntmps20
    go_upto_region 1 with fail
    have hb1 : Below w.heap.size w (w.alloc (.cells (fv fld0) 33)) := (Below.refl _ _).alloc (Nat.le_refl _) _
    have hf1 := FBox.new w fld0
    obtain ⟨w1, hw1⟩ : ∃ w1, w1 = w.alloc (.cells (fv fld0) 33) := ⟨_, rfl⟩
    rw [← hw1] at hb1 hf1
    rw [show w.alloc (.cells #[Value.string ⟨#[]⟩, .bool false, .int .i64 0, Value.string ⟨#[]⟩] 33) = w1 from hw1.symm]
    have HB1 := hide hb1
    have HF1 := hide hf1
    clear hw1 hb1 hf1
    obtain ⟨c0, c1, c2, c3, cf⟩ := (unhide HF1).cells
    obtain ⟨y0, y1, y2, y3⟩ := unhide HCell w1 (unhide HB1)
    have HE := hide ((unhide HF1).put gn gt gi gs)
    have BE := hide (below_put (unhide HB1) (Nat.le_refl _) gn gt gi gs)
    go_wp2_with (go_at_call 43; refine (unhide HPl _ (unhide HB1)).mono ?_; rintro e w2 ⟨rfl, rfl⟩)
    exact bodyPost_ret (results_ct rfl _ _ w.heap.size 33 (fv ⟨gn, gt, gi, gs⟩) (0, 0) _ (.bool true) rfl rfl (unhide HE) Tryz.underlying33 rfl sizeField) rfl ⟨rfl, unhide BE⟩
end Go.Proofs.YtkgepklmhdjjnaaGreatDoor
