/-
  DERIVED. The document's find and Get.
-/
import Derived.Test.YtclllkbljaomoaaGreatDoorShst
namespace Go.Proofs.YtclllkbljaomoaaGreatDoor
open Go.RowKit
set_option linter.unusedVariables false

theorem found_no {r : List Fld} {nm : List UInt8} {k : Nat} (h : ∀ f ∈ r.take k, f.name ≠ nm) {f : Fld} (hf : r[k]? = some f) (he : f.name = nm) : atF r nm = k ∧ hasF r nm = true := by
  have hk := (List.getElem?_eq_some_iff.1 hf).1
  have h1 : r.findIdx? (fun f => f.name == nm) = some k := by
    rw [List.findIdx?_eq_some_iff_getElem]
    refine ⟨hk, ?_, ?_⟩
    · have : r[k] = f := (List.getElem?_eq_some_iff.1 hf).2
      rw [this]; simpa using he
    · intro j hj
      have hm : r[j] ∈ r.take k := by
        rw [List.mem_iff_getElem?]
        exact ⟨j, by rw [List.getElem?_take_of_lt hj, List.getElem?_eq_getElem (by omega)]⟩
      simpa using h _ hm
  refine ⟨by unfold atF; rw [h1], ?_⟩
  unfold hasF
  rw [List.any_eq_true]
  exact ⟨f, List.mem_of_getElem? hf, by simpa using he⟩
theorem has_none {r : List Fld} {nm : List UInt8} (h : ∀ f ∈ r, f.name ≠ nm) : hasF r nm = false := by
  unfold hasF
  rw [List.any_eq_false]; intro f hf; simpa using h f hf

/-- What find answers. -/
def findA (r : List Fld) (nm : List UInt8) : Int := if hasF r nm then (atF r nm : Int) else -1

set_option maxHeartbeats 4000000 in
theorem rfind_any (a : Option Addr) (n c : Nat) (fs : List Fld) (nm : List UInt8) (w : World) (hv : FdL w (.slice a n c) fs) :
    Calls Tryz.prog 99 #[.slice a n c, sv nm] w fun e w' => e = .returned (.int .i64 (findA fs nm)) ∧ w = w' := by
  obtain ⟨a', c', e, hac, hc63, hcells⟩ := fdl_cells hv
  cases e
  obtain ⟨N, hN⟩ : ∃ N, N = fs.length := ⟨_, rfl⟩
  have HN := hide hN
  have HCe := hide hcells
  rw [← hN] at hac ⊢
  clear hN hv hcells
  go_enter Tryz.func99, Tryz.ntmps99
  go_wp2_with fail
  go_loopw [5] (fun i wr => ∃ (k : Nat), k ≤ N ∧ i = .int .i64 k ∧ Hid (∀ f ∈ fs.take k, f.name ≠ nm) ∧ Hid (wr = w)) (fun i _ => N - (intOf i).toNat)
  case atStart => exact ⟨0, by omega, rfl, hide (fun f hf => by simp at hf), hide rfl⟩
  case round =>
    obtain ⟨k, hk, rfl, HNo, HW⟩ := hrel
    by_cases hlt : k < N
    · obtain ⟨⟨fn, ft, fi, fss⟩, hf⟩ : ∃ f, fs[k]? = some f := ⟨_, List.getElem?_eq_getElem (by have := unhide HN; omega)⟩
      obtain ⟨b, off, rfl, _, x0, _, _, _⟩ := unhide HCe k _ hf
      simp only at x0
      have y0 : wr.cell? ⟨b, off + k * 4, none⟩ = some (sv fn) := by rw [unhide HW]; exact x0
      clear x0
      by_cases he : fn = nm
      · obtain ⟨e1, e2⟩ := found_no (unhide HNo) hf he
        have HR : Hid (findA fs nm = (k : Int)) := hide (by unfold findA; rw [e2, e1]; rfl)
        have hbq : (fn == nm) = true := beq_iff_eq.2 he
        clear he hf e1 e2
        go_wp2_with fail
        go_ret
        rw [unhide HR]
        exact ⟨rfl, (unhide HW).symm⟩
      · have hbq : (fn == nm) = false := beq_eq_false_iff_ne.2 he
        have HNo2 : Hid (∀ f ∈ fs.take (k + 1), f.name ≠ nm) := hide (fun g hg => by
          rw [List.take_add_one, hf] at hg
          rcases List.mem_append.1 hg with hg | hg
          · exact unhide HNo g hg
          · simp at hg; rw [hg]; exact he)
        clear he hf
        go_wp2_with fail
        go_roundw
        case rel => exact ⟨k + 1, by omega, by go_num, HNo2, HW⟩
        case measure => simp [intOf]; omega
    · have HR : Hid (findA fs nm = -1) := hide (by
        unfold findA
        rw [has_none (fun f hf => unhide HNo f (by rw [List.take_of_length_le (by have := unhide HN; omega)]; exact hf))]
        rfl)
      go_wp2_with fail
      go_ret
      rw [unhide HR]
      exact ⟨rfl, (unhide HW).symm⟩

set_option maxHeartbeats 2000000 in
theorem rGet_any (a : Option Addr) (n c : Nat) (fs : List Fld) (nm : List UInt8) (w : World) (hv : FdL w (.slice a n c) fs) :
    Calls Tryz.prog 43 #[.slice a n c, sv nm] w fun e w' => e = .returned (.tuple #[.agg (fv (getA fs nm)), .bool (hasF fs nm)]) ∧ Below w.heap.size w w' := by
  have HPl : Hid (∀ W, Below w.heap.size w W → Calls Tryz.prog 99 #[.slice a n c, sv nm] W fun e w' => e = .returned (.int .i64 (findA fs nm)) ∧ W = w') := hide (fun W hW => rfind_any a n c fs nm W (hv.below hW (Nat.le_refl _)))
  obtain ⟨a', c', e, hac, hc63, hcells⟩ := fdl_cells hv
  cases e
  cases hh : hasF fs nm with
  | false =>
    have HG := hide (get_none hh)
    have hfa : findA fs nm = -1 := by unfold findA; rw [hh]; rfl
    rw [hfa] at HPl
    clear hv hcells hh hfa
    go_enter Tryz.func43, Tryz.ntmps43
    go_upto_region 1 with fail
    have hb1 : Below w.heap.size w (w.alloc (.cells (fv fld0) 37)) := (Below.refl _ _).alloc (Nat.le_refl _) _
    have hf1 := FBox.new w fld0
    obtain ⟨w1, hw1⟩ : ∃ w1, w1 = w.alloc (.cells (fv fld0) 37) := ⟨_, rfl⟩
    rw [← hw1] at hb1 hf1
    rw [show w.alloc (.cells #[Value.string ⟨#[]⟩, .bool false, .int .i64 0, Value.string ⟨#[]⟩] 37) = w1 from hw1.symm]
    have HB1 := hide hb1
    have HF1 := hide hf1
    clear hw1 hb1 hf1
    obtain ⟨c0, c1, c2, c3, cf⟩ := (unhide HF1).cells
    have HE := hide ((unhide HF1).put [] false 0 [])
    have BE := hide (below_put (unhide HB1) (Nat.le_refl _) [] false 0 [])
    go_wp2_with (go_at_call 99; refine (unhide HPl _ (unhide HB1)).mono ?_; rintro e w2 ⟨rfl, rfl⟩)
    exact bodyPost_ret (results_ct rfl _ _ w.heap.size 37 (fv fld0) (0, 0) _ (.bool false) rfl rfl (unhide HE) Tryz.underlying37 rfl sizeField) rfl ⟨by rw [unhide HG], unhide BE⟩
  | true =>
    obtain ⟨hql, hqf⟩ := at_get hh
    have hfa : findA fs nm = (atF fs nm : Int) := by unfold findA; rw [hh]; rfl
    rw [hfa] at HPl
    obtain ⟨q, hq⟩ : ∃ q, q = atF fs nm := ⟨_, rfl⟩
    rw [← hq] at HPl hql hqf
    obtain ⟨⟨gn, gt, gi, gs⟩, hg⟩ : ∃ g, g = getA fs nm := ⟨_, rfl⟩
    rw [← hg] at hqf ⊢
    obtain ⟨b, off, rfl, hb, x0, x1, x2, x3⟩ := hcells q _ hqf
    have HCell : Hid (∀ W, Below w.heap.size w W → W.cell? ⟨b, off + q * 4, none⟩ = some (sv gn) ∧ W.cell? ⟨b, off + q * 4 + 1, none⟩ = some (.bool gt) ∧ W.cell? ⟨b, off + q * 4 + 2, none⟩ = some (.int .i64 gi) ∧ W.cell? ⟨b, off + q * 4 + 3, none⟩ = some (sv gs)) := hide (fun W hW => ⟨(hW.cell (p := ⟨b, off + q * 4, none⟩) hb).trans x0, (hW.cell (p := ⟨b, off + q * 4 + 1, none⟩) hb).trans x1, (hW.cell (p := ⟨b, off + q * 4 + 2, none⟩) hb).trans x2, (hW.cell (p := ⟨b, off + q * 4 + 3, none⟩) hb).trans x3⟩)
    have hqi : ¬ (q : Int) < 0 := by omega
    have hqN : (q : Int) < (fs.length : Int) := by omega
    clear hv hcells hh hq hqf hg x0 x1 x2 x3 hfa
    go_enter Tryz.func43, Tryz.ntmps43
    go_upto_region 1 with fail
    have hb1 : Below w.heap.size w (w.alloc (.cells (fv fld0) 37)) := (Below.refl _ _).alloc (Nat.le_refl _) _
    have hf1 := FBox.new w fld0
    obtain ⟨w1, hw1⟩ : ∃ w1, w1 = w.alloc (.cells (fv fld0) 37) := ⟨_, rfl⟩
    rw [← hw1] at hb1 hf1
    rw [show w.alloc (.cells #[Value.string ⟨#[]⟩, .bool false, .int .i64 0, Value.string ⟨#[]⟩] 37) = w1 from hw1.symm]
    have HB1 := hide hb1
    have HF1 := hide hf1
    clear hw1 hb1 hf1
    obtain ⟨c0, c1, c2, c3, cf⟩ := (unhide HF1).cells
    obtain ⟨y0, y1, y2, y3⟩ := unhide HCell w1 (unhide HB1)
    have HE := hide ((unhide HF1).put gn gt gi gs)
    have BE := hide (below_put (unhide HB1) (Nat.le_refl _) gn gt gi gs)
    go_wp2_with (go_at_call 99; refine (unhide HPl _ (unhide HB1)).mono ?_; rintro e w2 ⟨rfl, rfl⟩)
    exact bodyPost_ret (results_ct rfl _ _ w.heap.size 37 (fv ⟨gn, gt, gi, gs⟩) (0, 0) _ (.bool true) rfl rfl (unhide HE) Tryz.underlying37 rfl sizeField) rfl ⟨rfl, unhide BE⟩
end Go.Proofs.YtclllkbljaomoaaGreatDoor

namespace Go.Proofs.YtclllkbljaomoaaGreatDoor
open Go.RowKit
set_option linter.unusedVariables false

/-- A new slice of no field. -/
theorem fown_empty (w : World) : FOwn (w.alloc (.cells #[] 37)) w.heap.size (.slice (some ⟨w.heap.size, 0, none⟩) 0 0) [] :=
  ⟨rfl, .inr ⟨w.heap.size, 0, #[], rfl, Nat.le_refl _, heap_alloc_new _ _, Nat.le_refl _, by unfold maxLen; omega, rfl, rfl⟩⟩

/-- append(v, y...), as a step of a region that draws. -/
theorem step_append_flds {ops : Array Oper} {o : Oper} {a : Act} {w : World} {K : Act → World → Prop} {Q : Exit → Act → World → Prop} {E : Prop}
    (hg : o.guard = none) (s x : Operand) (ho : o.op = .call { callee := .builtin .append, args := #[s, x], argTypes := #[35, 35] })
    (base : Nat) (v : Value) (R : List Fld) (hs : a.eval s = v) (hown : FOwn w base v R) (ya : Option Addr) (n yc : Nat) (m : List Fld) (hn : n = m.length) (hx : a.eval x = .slice ya n yc) (hy : FdN w ya yc m) (hlen : (R.length + m.length) * 48 ≤ 140737488355328) (hbase : base ≤ w.heap.size)
    (hK : ∀ v' w', FOwn w' base v' (R ++ m) → Below base w w' → K (a.put o.dst v') w') :
    if Region.wanted o (yielded ops a.tmps) = true then Oper.wp Tryz.prog o a w K Q else E := by
  subst hn
  have hw : Region.wanted o (yielded ops a.tmps) = true := by simp [Region.wanted, hg]
  rw [if_pos hw]
  obtain ⟨i0, hi, hh⟩ := Option.map_eq_some_iff.1 Tryz.infoField
  simp only [Prod.mk.injEq] at hh
  obtain ⟨hf, hnil⟩ := hy
  obtain ⟨ao, cap, e, h1, h2, h4⟩ := hf
  cases e
  cases ya with
  | none =>
    obtain rfl : yc = 0 := by
      by_cases hz : yc = 0
      · exact hz
      · obtain ⟨_, _, e⟩ := hnil hz; cases e
    have hm : m = [] := List.eq_nil_of_length_eq_zero (by omega)
    subst hm
    have hrun := run_append_owned_none (P := Tryz.prog) (w := w) base 35 o.type 37 i0 4 Tryz.underlying35 hi v R.length (fcs R) hown
    unfold Oper.wp
    simp [execOp, ho, resolve, invoke, builtin, hs, hx, hrun, Result.andThen]
    exact hK v w (by simpa using hown) (Below.refl _ _)
  | some ad =>
    obtain ⟨v', w', hrun, r1, r2, _⟩ := run_append_own (P := Tryz.prog) w base 35 o.type 37 i0 (.agg (fv fld0)) 4 48 Tryz.underlying35 hi hh.1 hh.2.1 hh.2.2 rfl (by decide) v R.length (fcs R) hown ad m.length yc (fcs m) (by rw [fcs_len]) (fun j u hj => by
      have hl := (List.getElem?_eq_some_iff.1 hj).1
      rw [fcs_len] at hl
      obtain ⟨b, off, e, _, hc⟩ := h4 (by omega)
      cases e
      exact fcs_at hc j u hj) (fcs_one m) (by unfold maxLen; omega) (by omega) hbase
    unfold Oper.wp
    simp [execOp, ho, resolve, invoke, builtin, hs, hx, hrun, Result.andThen]
    refine hK v' w' (by unfold FOwn; rw [fcs_append, List.length_append]; exact r1) ((Below.refl _ _).grown r2 hbase ?_)
    intro k hk
    rcases hown.2 with ⟨rfl, _⟩ | ⟨g, cap', cur, rfl, hb, _⟩
    · cases hk
    · simp only [Value.ownBlock, Option.some.injEq] at hk; omega

theorem fcs_set : ∀ (R : List Fld) (q : Nat) (f : Fld), q < R.length → ((((fcs R).set (q * 4) (sv f.name)).set (q * 4 + 1) (.bool f.text)).set (q * 4 + 2) (.int .i64 f.n)).set (q * 4 + 3) (sv f.s) = fcs (R.set q f)
  | [], q, f, h => by simp at h
  | a :: r, 0, f, _ => by simp [fcs_cons]
  | a :: r, q + 1, f, h => by
    have ih := fcs_set r q f (by simpa using h)
    have e0 : (q + 1) * 4 = q * 4 + 1 + 1 + 1 + 1 := by omega
    have e1 : (q + 1) * 4 + 1 = (q * 4 + 1) + 1 + 1 + 1 + 1 := by omega
    have e2 : (q + 1) * 4 + 2 = (q * 4 + 2) + 1 + 1 + 1 + 1 := by omega
    have e3 : (q + 1) * 4 + 3 = (q * 4 + 3) + 1 + 1 + 1 + 1 := by omega
    rw [e1, e2, e3, e0, fcs_cons]
    simp only [List.set_cons_succ]
    rw [ih]
    rfl

/-- A row of fields of one's own that has memory. -/
def FRow (w : World) (base g n cap : Nat) (R : List Fld) : Prop := n = R.length ∧ FOwn w base (.slice (some ⟨g, 0, none⟩) n cap) R

/-- A field is written over. -/
theorem FOwn.put {w : World} {base g cap : Nat} {R : List Fld} (h : FOwn w base (.slice (some ⟨g, 0, none⟩) R.length cap) R) (q : Nat) (hq : q < R.length) (f : Fld) :
    FOwn ((((w.setCell ⟨g, q * 4, none⟩ (sv f.name)).setCell ⟨g, q * 4 + 1, none⟩ (.bool f.text)).setCell ⟨g, q * 4 + 2, none⟩ (.int .i64 f.n)).setCell ⟨g, q * 4 + 3, none⟩ (sv f.s)) base (.slice (some ⟨g, 0, none⟩) R.length cap) (R.set q f) := by
  obtain ⟨h1, h2⟩ := h
  rcases h2 with ⟨e, _⟩ | ⟨g', cap', cur, e, hb, hg, hn, hm, hs, ht⟩
  · cases e
  · cases e
    refine ⟨by rw [fcs_len, List.length_set], .inr ⟨g, cap, _, by rw [List.length_set], hb, heap_setCell_same _ g _ _ _ _ (heap_setCell_same _ g _ _ _ _ (heap_setCell_same _ g _ _ _ _ (heap_setCell_same w g _ _ _ _ hg))), by rw [List.length_set]; exact hn, hm, ?_, ?_⟩⟩
    · simpa using hs
    · rw [List.length_set, ← fcs_set R q f hq, ← ht]
      simp only [Array.toList_setIfInBounds, List.take_set]
theorem FOwn.slots {w : World} {base g n cap : Nat} {R : List Fld} (h : FOwn w base (.slice (some ⟨g, 0, none⟩) n cap) R) (q : Nat) (hq : q < R.length) : (w.cell? ⟨g, q * 4, none⟩ = some (sv R[q].name) ∧ w.cell? ⟨g, q * 4 + 1, none⟩ = some (.bool R[q].text) ∧ w.cell? ⟨g, q * 4 + 2, none⟩ = some (.int .i64 R[q].n) ∧ w.cell? ⟨g, q * 4 + 3, none⟩ = some (sv R[q].s)) ∧ ∀ i, w.frozen? ⟨g, i, none⟩ = false := by
  obtain ⟨ao, c', e, _, _, h4⟩ := h.fdl
  cases e
  obtain ⟨b, off, e, _, hc⟩ := h4 (by omega)
  cases e
  refine ⟨by have := hc q hq; simpa using this, fun i => ?_⟩
  rcases h.2 with ⟨e, _⟩ | ⟨g', cap', cur, e, hb, hg, _⟩
  · cases e
  · cases e; simp [World.frozen?, hg]
theorem below_fput {B : Nat} {a w : World} (h : Below B a w) {g : Nat} (hg : B ≤ g) (q : Nat) (f : Fld) : Below B a ((((w.setCell ⟨g, q * 4, none⟩ (sv f.name)).setCell ⟨g, q * 4 + 1, none⟩ (.bool f.text)).setCell ⟨g, q * 4 + 2, none⟩ (.int .i64 f.n)).setCell ⟨g, q * 4 + 3, none⟩ (sv f.s)) :=
  (((h.setCell (p := ⟨g, q * 4, none⟩) hg _).setCell (p := ⟨g, q * 4 + 1, none⟩) hg _).setCell (p := ⟨g, q * 4 + 2, none⟩) hg _).setCell (p := ⟨g, q * 4 + 3, none⟩) hg _
end Go.Proofs.YtclllkbljaomoaaGreatDoor

namespace Go.Proofs.YtclllkbljaomoaaGreatDoor
open Go.RowKit
set_option linter.unusedVariables false

theorem drop_same {r : List Fld} {nm : List UInt8} (h : hasF r nm = false) : dropF r nm = r := by
  unfold dropF behF
  rw [h]
  simp
theorem fdn_len {w : World} {a : Option Addr} {c : Nat} {fs : List Fld} (h : FdN w a c fs) : fs.length ≤ c ∧ c ≤ 9223372036854775807 := by obtain ⟨_, _, e, h1, h2, _⟩ := h.1; cases e; exact ⟨h1, h2⟩

set_option maxHeartbeats 4000000 in
theorem rDrop_any (a : Option Addr) (c : Nat) (fs : List Fld) (nm : List UInt8) (w : World) (hv : FdN w a c fs) (hlen : fs.length * 48 ≤ 140737488355328) :
    Calls Tryz.prog 58 #[.slice a fs.length c, sv nm] w fun e w' => ∃ v, e = .returned v ∧ FOwn w' w.heap.size v (dropF fs nm) ∧ Below w.heap.size w w' := by
  have HPl := hide (rfind_any a fs.length c fs nm w hv.1)
  have hcl := fdn_len hv
  have hb0 : Below w.heap.size w (w.alloc (.cells #[] 37)) := (Below.refl _ _).alloc (Nat.le_refl _) _
  have HB0 := hide hb0
  have HV0 := hide (hv.below hb0 (Nat.le_refl _))
  have HO0 := hide (fown_empty w)
  cases hh : hasF fs nm with
  | false =>
    have hfa : findA fs nm = -1 := by unfold findA; rw [hh]; rfl
    have HD := hide (drop_same hh)
    rw [hfa] at HPl
    clear hv hh hfa hb0
    go_enter Tryz.func58, Tryz.ntmps58
    go_wp2_with (first | (go_at_call 99; refine (unhide HPl).mono ?_; rintro e w2 ⟨rfl, rfl⟩) | (at_builtin; refine wpList_append_flds rfl (.tmp 11) (.tmp 12) rfl w.heap.size _ [] rfl (unhide HO0) a c fs rfl (unhide HV0) (by simp; omega) (unhide HB0).size ?_; intro v' w5 own5 b5; have HO5 := hide own5; have HB5 := hide ((unhide HB0).trans b5); clear own5 b5))
    go_ret
    exact ⟨_, rfl, by rw [unhide HD]; simpa using unhide HO5, unhide HB5⟩
  | true =>
    obtain ⟨hql, _⟩ := at_get hh
    have hfa : findA fs nm = (atF fs nm : Int) := by unfold findA; rw [hh]; rfl
    have hbe : behF fs nm = atF fs nm + 1 := by unfold behF; rw [hh]; rfl
    have HD : Hid (dropF fs nm = fs.take (atF fs nm) ++ fs.drop (behF fs nm)) := hide rfl
    rw [hfa] at HPl
    obtain ⟨q, hq⟩ : ∃ q, q = atF fs nm := ⟨_, rfl⟩
    obtain ⟨p, hp⟩ : ∃ p, p = behF fs nm := ⟨_, rfl⟩
    rw [← hq] at HPl hql hbe
    rw [← hp] at hbe
    rw [← hq, ← hp] at HD
    obtain ⟨b, off, rfl⟩ := hv.2 (by omega)
    have hwp : IntKind.i64.wrap ((q : Int) + 1) = (p : Int) := by rw [IntKind.wrap_i64]; omega
    have hpl : p ≤ fs.length := by omega
    have hqp : q ≤ p := by omega
    have hq0 : ¬ (q : Int) < 0 := by omega
    have i1 : (0 : Int) ≤ (q : Int) := by omega
    have i2 : (q : Int) ≤ (c : Int) := by omega
    have i3 : (p : Int) ≤ (fs.length : Int) := by omega
    have i4 : (0 : Int) ≤ (p : Int) := by omega
    have i5 : (fs.length : Int) ≤ (c : Int) := by omega
    have HT := hide ((unhide HV0).take q (by omega))
    have HTl : Hid ((fs.take q).length = q) := hide (by simp; omega)
    by_cases hcp : c = p
    · have HE : Hid (fs.drop p = []) := hide (List.drop_of_length_le (by omega))
      have HR : Hid (∀ W, Below w.heap.size w W → FdN W (some ⟨b, off, none⟩) 0 (fs.drop p)) := hide (fun W hW => by rw [unhide HE]; exact FdN.empty (fun h => absurd rfl h) (by omega))
      have HDl : Hid ((fs.drop p).length = 0) := hide (by rw [unhide HE]; rfl)
      subst hcp
      clear hv hh hfa hb0 hbe hq hp
      go_enter Tryz.func58, Tryz.ntmps58
      go_upto_region 4 with (go_at_call 99; refine (unhide HPl).mono ?_; rintro e w2 ⟨rfl, rfl⟩)
      go_region_law (first | (refine step_append_flds rfl (.tmp 14) (.tmp 17) rfl w.heap.size _ [] rfl ?own (some ⟨b, off, none⟩) q c (fs.take q) (unhide HTl).symm rfl ?fd ?hl ?hb ?_; (case own => exact (unhide HO0).below ((Below.refl _ _).drew) (Nat.le_refl _)); (case fd => exact (unhide HT).below ((Below.refl _ _).drew) (Nat.le_refl _)); (case hl => simp; omega); (case hb => simp); intro v4 w4 own4 b4; have HO4 : Hid (FOwn w4 w.heap.size v4 (fs.take q)) := hide (by simpa using own4); have HB4 := hide (((unhide HB0).drew).trans b4); clear own4 b4) | (refine step_append_flds rfl (.tmp 18) (.tmp 22) rfl w.heap.size _ (fs.take q) rfl ?own2 (some ⟨b, off, none⟩) 0 0 (fs.drop c) (unhide HDl).symm rfl ?fd2 ?hl2 ?hb2 ?_; (case own2 => exact unhide HO4); (case fd2 => exact unhide HR _ (unhide HB4)); (case hl2 => simp; omega); (case hb2 => exact (unhide HB4).size); intro v5 w5 own5 b5; have HO5 := hide own5; have HB5 := hide ((unhide HB4).trans b5); clear own5 b5))
      all_goals
        go_wp2
        go_ret
        exact ⟨_, rfl, by rw [unhide HD]; exact unhide HO5, unhide HB5⟩
    · have HR := hide (fun W (hW : Below w.heap.size w W) => ((hv.below hW (Nat.le_refl _)).drop p hpl))
      have HDl : Hid ((fs.drop p).length = fs.length - p) := hide (by simp)
      clear hv hh hfa hb0 hbe hq hp
      go_enter Tryz.func58, Tryz.ntmps58
      go_upto_region 4 with (go_at_call 99; refine (unhide HPl).mono ?_; rintro e w2 ⟨rfl, rfl⟩)
      go_region_law (first | (refine step_append_flds rfl (.tmp 14) (.tmp 17) rfl w.heap.size _ [] rfl ?own (some ⟨b, off, none⟩) q c (fs.take q) (unhide HTl).symm rfl ?fd ?hl ?hb ?_; (case own => exact (unhide HO0).below ((Below.refl _ _).drew) (Nat.le_refl _)); (case fd => exact (unhide HT).below ((Below.refl _ _).drew) (Nat.le_refl _)); (case hl => simp; omega); (case hb => simp); intro v4 w4 own4 b4; have HO4 : Hid (FOwn w4 w.heap.size v4 (fs.take q)) := hide (by simpa using own4); have HB4 := hide (((unhide HB0).drew).trans b4); clear own4 b4) | (refine step_append_flds rfl (.tmp 18) (.tmp 22) rfl w.heap.size _ (fs.take q) rfl ?own2 (some ⟨b, off + p * 4, none⟩) (fs.length - p) (c - p) (fs.drop p) (unhide HDl).symm rfl ?fd2 ?hl2 ?hb2 ?_; (case own2 => exact unhide HO4); (case fd2 => exact unhide HR _ (unhide HB4)); (case hl2 => simp; omega); (case hb2 => exact (unhide HB4).size); intro v5 w5 own5 b5; have HO5 := hide own5; have HB5 := hide ((unhide HB4).trans b5); clear own5 b5))
      all_goals
        go_wp2
        go_ret
        exact ⟨_, rfl, by rw [unhide HD]; exact unhide HO5, unhide HB5⟩

theorem set_has {r : List Fld} {f : Fld} (h : hasF r f.name = true) : setF r f = r.set (atF r f.name) f := by
  unfold setF behF
  rw [h]
  have := (at_get h).1
  simp only [if_true]
  rw [List.set_eq_take_append_cons_drop, if_pos this]
  simp

theorem at_none {r : List Fld} {nm : List UInt8} {k : Nat} (hh : hasF r nm = false) (hk : k ≤ r.length) (hb : ∀ f ∈ r.take k, ¬ nm < f.name) (ha : ∀ f, r[k]? = some f → nm < f.name) : atF r nm = k := by
  have h1 : r.findIdx? (fun f => f.name == nm) = none := by
    unfold hasF at hh
    rw [List.any_eq_false] at hh
    rw [List.findIdx?_eq_none_iff]; intro f hf; simpa using hh f hf
  unfold atF
  rw [h1]
  refine findIdx_of hk (fun i x hi hx => ?_) (fun hl => ?_)
  · have : x ∈ r.take k := List.mem_iff_getElem?.2 ⟨i, by rw [List.getElem?_take_of_lt hi]; exact hx⟩
    simpa using hb x this
  · exact ⟨r[k], List.getElem?_eq_getElem hl, by simpa using ha _ (List.getElem?_eq_getElem hl)⟩

theorem one_fdn (W : World) (f : Fld) : FdN (W.alloc (.cells (fv f) 37)) (some ⟨W.heap.size, 0, none⟩) 1 [f] := by
  have fb := FBox.new W f
  obtain ⟨x0, x1, x2, x3, _⟩ := fb.cells
  refine ⟨⟨_, _, rfl, by simp, by omega, fun _ => ⟨W.heap.size, 0, rfl, fb.lt, fun i hi => ?_⟩⟩, fun _ => ⟨_, _, rfl⟩⟩
  have : i = 0 := by simp at hi; omega
  subst this
  simp only [Nat.zero_mul, Nat.add_zero, Nat.zero_add, List.getElem_cons_zero]
  exact ⟨x0, x1, x2, x3⟩

set_option maxHeartbeats 4000000 in
theorem rSet_has (a : Option Addr) (c : Nat) (fs : List Fld) (f : Fld) (w : World) (hv : FdN w a c fs) (hlen : (fs.length + 1) * 48 ≤ 140737488355328) (hh : hasF fs f.name = true) :
    Calls Tryz.prog 57 #[.slice a fs.length c, .agg (fv f)] w fun e w' => ∃ v, e = .returned v ∧ FOwn w' w.heap.size v (setF fs f) ∧ Below w.heap.size w w' := by
  have HSet := hide (set_has hh)
  obtain ⟨fn, ft, fi, fss⟩ := f
  simp only at hh HSet
  have hcl := fdn_len hv
  obtain ⟨hql, _⟩ := at_get hh
  have hfa : findA fs fn = (atF fs fn : Int) := by unfold findA; rw [hh]; rfl
  have HPl : Hid (∀ W, Below w.heap.size w W → Calls Tryz.prog 99 #[.slice a fs.length c, sv fn] W fun e w' => e = .returned (.int .i64 (findA fs fn)) ∧ W = w') := hide (fun W hW => rfind_any a fs.length c fs fn W (hv.1.below hW (Nat.le_refl _)))
  rw [hfa] at HPl
  obtain ⟨q, hq⟩ : ∃ q, q = atF fs fn := ⟨_, rfl⟩
  rw [← hq] at HPl hql HSet
  have hb1 : Below w.heap.size w (w.alloc (.cells (fv ⟨fn, ft, fi, fss⟩) 37)) := (Below.refl _ _).alloc (Nat.le_refl _) _
  have hf1 := FBox.new w ⟨fn, ft, fi, fss⟩
  obtain ⟨w1, hw1⟩ : ∃ w1, w1 = w.alloc (.cells (fv ⟨fn, ft, fi, fss⟩) 37) := ⟨_, rfl⟩
  have HW1 := hide hw1
  rw [← hw1] at hb1 hf1
  have HBW := hide hb1
  have HB0 := hide ((Below.refl w1.heap.size w1).alloc (Nat.le_refl _) (.cells #[] 37))
  have HV0 := hide ((hv.below hb1 (Nat.le_refl _)).below (unhide HB0) (Nat.le_refl _))
  have HO0 := hide (fown_empty w1)
  have HBox := hide hf1
  have hq0 : (0 : Int) ≤ (q : Int) := by omega
  have hqn : ¬ (q : Int) < 0 := by omega
  obtain ⟨x0, x1, x2, x3, xf⟩ := hf1.cells
  simp only at x0 x1 x2 x3
  clear hv hh hfa hq hw1 hb1 hf1
  go_enter Tryz.func57, Tryz.ntmps57
  go_upto_region 1 with fail
  rw [← unhide HW1]
  obtain ⟨B, hB⟩ : ∃ B, B = w.heap.size := ⟨_, rfl⟩
  rw [← hB] at x0 x1 x2 x3 xf HBox ⊢
  have HBB := hide hB
  clear hB HW1
  go_upto_region 4 with (first | (go_at_call 99; refine (unhide HPl _ (unhide HBW)).mono ?_; rintro e w2 ⟨rfl, rfl⟩) | (at_builtin; refine wpList_append_flds rfl (.tmp 14) (.tmp 15) rfl w1.heap.size _ [] rfl (unhide HO0) a c fs rfl (unhide HV0) (by simp; omega) (unhide HB0).size ?_; intro v' w5 own5 b5; have HO5 : Hid (FOwn w5 w1.heap.size v' fs) := hide (by simpa using own5); have HB5 := hide ((unhide HB0).trans b5); clear own5 b5))
  have hown := unhide HO5
  rcases hown.2 with ⟨_, h0⟩ | ⟨g, cap, cur, rfl, hgb, hg, hn, hm, hs, hta⟩
  · omega
  · obtain ⟨⟨y0, y1, y2, y3⟩, yf⟩ := hown.slots q hql
    have HP := hide (hown.put q hql ⟨fn, ft, fi, fss⟩)
    have HBP := hide (below_fput (unhide HB5) hgb q ⟨fn, ft, fi, fss⟩)
    clear x0 x1 x2 x3 xf
    obtain ⟨x0, x1, x2, x3, xf⟩ := ((unhide HBox).below (unhide HB5) (Nat.le_refl _)).cells
    simp only at x0 x1 x2 x3
    have hqN : (q : Int) < (fs.length : Int) := by omega
    have hBg : B ≠ g := by have := (unhide HBox).lt; omega
    clear hg hn hm hs hta hown
    go_wp2_with fail
    go_ret
    exact ⟨_, rfl, (by rw [unhide HSet]; exact (unhide HP).mono (unhide HBW).size), (unhide HBW).trans ((unhide HBP).mono (unhide HBW).size)⟩
end Go.Proofs.YtclllkbljaomoaaGreatDoor
