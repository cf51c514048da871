/-
  DERIVED. The document's find and Get.
-/
import Derived.Test.YtingpmgpjmlioaaGreatDoorShst
namespace Go.Proofs.YtingpmgpjmlioaaGreatDoor
open Go.RowKit
set_option linter.unusedVariables false

theorem found_no {r : List Fld} {nm : List UInt8} {k : Nat} (h : ∀ f ∈ r.take k, f.name ≠ nm) {f : Fld} (hf : r[k]? = some f) (he : f.name = nm) : atF r nm = k ∧ hasF r nm = true := by
  have hk := (List.getElem?_eq_some_iff.1 hf).1
  have h1 : r.findIdx? (fun f => f.name == nm) = some k := by
    rw [List.findIdx?_eq_some_iff_getElem]
    refine ⟨hk, ?_, ?_⟩
    · have : r[k] = f := (List.getElem?_eq_some_iff.1 hf).2
      rw [this]; simpa using he
    · intro j hj
      have hm : r[j] ∈ r.take k := by
        rw [List.mem_iff_getElem?]
        exact ⟨j, by rw [List.getElem?_take_of_lt hj, List.getElem?_eq_getElem (by omega)]⟩
      simpa using h _ hm
  refine ⟨by unfold atF; rw [h1], ?_⟩
  unfold hasF
  rw [List.any_eq_true]
  exact ⟨f, List.mem_of_getElem? hf, by simpa using he⟩
theorem has_none {r : List Fld} {nm : List UInt8} (h : ∀ f ∈ r, f.name ≠ nm) : hasF r nm = false := by
  unfold hasF
  rw [List.any_eq_false]; intro f hf; simpa using h f hf

/-- What find answers. -/
def findA (r : List Fld) (nm : List UInt8) : Int := if hasF r nm then (atF r nm : Int) else -1

end Go.Proofs.YtingpmgpjmlioaaGreatDoor

namespace Go.Proofs.YtingpmgpjmlioaaGreatDoor
open Go.RowKit
set_option linter.unusedVariables false

/-- A new slice of no field. -/
theorem fown_empty (w : World) : FOwn (w.alloc (.cells #[] 48)) w.heap.size (.slice (some ⟨w.heap.size, 0, none⟩) 0 0) [] :=
  ⟨rfl, .inr ⟨w.heap.size, 0, #[], rfl, Nat.le_refl _, heap_alloc_new _ _, Nat.le_refl _, by unfold maxLen; omega, rfl, rfl⟩⟩

/-- append(v, y...), as a step of a region that draws. -/
theorem step_append_flds {ops : Array Oper} {o : Oper} {a : Act} {w : World} {K : Act → World → Prop} {Q : Exit → Act → World → Prop} {E : Prop}
    (hg : o.guard = none) (s x : Operand) (ho : o.op = .call { callee := .builtin .append, args := #[s, x], argTypes := #[30, 30] })
    (base : Nat) (v : Value) (R : List Fld) (hs : a.eval s = v) (hown : FOwn w base v R) (ya : Option Addr) (n yc : Nat) (m : List Fld) (hn : n = m.length) (hx : a.eval x = .slice ya n yc) (hy : FdN w ya yc m) (hlen : (R.length + m.length) * 48 ≤ 140737488355328) (hbase : base ≤ w.heap.size)
    (hK : ∀ v' w', FOwn w' base v' (R ++ m) → Below base w w' → K (a.put o.dst v') w') :
    if Region.wanted o (yielded ops a.tmps) = true then Oper.wp Tryz.prog o a w K Q else E := by
  subst hn
  have hw : Region.wanted o (yielded ops a.tmps) = true := by simp [Region.wanted, hg]
  rw [if_pos hw]
  obtain ⟨i0, hi, hh⟩ := Option.map_eq_some_iff.1 Tryz.infoField
  simp only [Prod.mk.injEq] at hh
  obtain ⟨hf, hnil⟩ := hy
  obtain ⟨ao, cap, e, h1, h2, h4⟩ := hf
  cases e
  cases ya with
  | none =>
    obtain rfl : yc = 0 := by
      by_cases hz : yc = 0
      · exact hz
      · obtain ⟨_, _, e⟩ := hnil hz; cases e
    have hm : m = [] := List.eq_nil_of_length_eq_zero (by omega)
    subst hm
    have hrun := run_append_owned_none (P := Tryz.prog) (w := w) base 30 o.type 48 i0 4 Tryz.underlying30 hi v R.length (fcs R) hown
    unfold Oper.wp
    simp [execOp, ho, resolve, invoke, builtin, hs, hx, hrun, Result.andThen]
    exact hK v w (by simpa using hown) (Below.refl _ _)
  | some ad =>
    obtain ⟨v', w', hrun, r1, r2, _⟩ := run_append_own (P := Tryz.prog) w base 30 o.type 48 i0 (.agg (fv fld0)) 4 48 Tryz.underlying30 hi hh.1 hh.2.1 hh.2.2 rfl (by decide) v R.length (fcs R) hown ad m.length yc (fcs m) (by rw [fcs_len]) (fun j u hj => by
      have hl := (List.getElem?_eq_some_iff.1 hj).1
      rw [fcs_len] at hl
      obtain ⟨b, off, e, _, hc⟩ := h4 (by omega)
      cases e
      exact fcs_at hc j u hj) (fcs_one m) (by unfold maxLen; omega) (by omega) hbase
    unfold Oper.wp
    simp [execOp, ho, resolve, invoke, builtin, hs, hx, hrun, Result.andThen]
    refine hK v' w' (by unfold FOwn; rw [fcs_append, List.length_append]; exact r1) ((Below.refl _ _).grown r2 hbase ?_)
    intro k hk
    rcases hown.2 with ⟨rfl, _⟩ | ⟨g, cap', cur, rfl, hb, _⟩
    · cases hk
    · simp only [Value.ownBlock, Option.some.injEq] at hk; omega

theorem fcs_set : ∀ (R : List Fld) (q : Nat) (f : Fld), q < R.length → ((((fcs R).set (q * 4) (sv f.name)).set (q * 4 + 1) (.bool f.text)).set (q * 4 + 2) (.int .i64 f.n)).set (q * 4 + 3) (sv f.s) = fcs (R.set q f)
  | [], q, f, h => by simp at h
  | a :: r, 0, f, _ => by simp [fcs_cons]
  | a :: r, q + 1, f, h => by
    have ih := fcs_set r q f (by simpa using h)
    have e0 : (q + 1) * 4 = q * 4 + 1 + 1 + 1 + 1 := by omega
    have e1 : (q + 1) * 4 + 1 = (q * 4 + 1) + 1 + 1 + 1 + 1 := by omega
    have e2 : (q + 1) * 4 + 2 = (q * 4 + 2) + 1 + 1 + 1 + 1 := by omega
    have e3 : (q + 1) * 4 + 3 = (q * 4 + 3) + 1 + 1 + 1 + 1 := by omega
    rw [e1, e2, e3, e0, fcs_cons]
    simp only [List.set_cons_succ]
    rw [ih]
    rfl

/-- A row of fields of one's own that has memory. -/
def FRow (w : World) (base g n cap : Nat) (R : List Fld) : Prop := n = R.length ∧ FOwn w base (.slice (some ⟨g, 0, none⟩) n cap) R

/-- A field is written over. -/
theorem FOwn.put {w : World} {base g cap : Nat} {R : List Fld} (h : FOwn w base (.slice (some ⟨g, 0, none⟩) R.length cap) R) (q : Nat) (hq : q < R.length) (f : Fld) :
    FOwn ((((w.setCell ⟨g, q * 4, none⟩ (sv f.name)).setCell ⟨g, q * 4 + 1, none⟩ (.bool f.text)).setCell ⟨g, q * 4 + 2, none⟩ (.int .i64 f.n)).setCell ⟨g, q * 4 + 3, none⟩ (sv f.s)) base (.slice (some ⟨g, 0, none⟩) R.length cap) (R.set q f) := by
  obtain ⟨h1, h2⟩ := h
  rcases h2 with ⟨e, _⟩ | ⟨g', cap', cur, e, hb, hg, hn, hm, hs, ht⟩
  · cases e
  · cases e
    refine ⟨by rw [fcs_len, List.length_set], .inr ⟨g, cap, _, by rw [List.length_set], hb, heap_setCell_same _ g _ _ _ _ (heap_setCell_same _ g _ _ _ _ (heap_setCell_same _ g _ _ _ _ (heap_setCell_same w g _ _ _ _ hg))), by rw [List.length_set]; exact hn, hm, ?_, ?_⟩⟩
    · simpa using hs
    · rw [List.length_set, ← fcs_set R q f hq, ← ht]
      simp only [Array.toList_setIfInBounds, List.take_set]
theorem FOwn.slots {w : World} {base g n cap : Nat} {R : List Fld} (h : FOwn w base (.slice (some ⟨g, 0, none⟩) n cap) R) (q : Nat) (hq : q < R.length) : (w.cell? ⟨g, q * 4, none⟩ = some (sv R[q].name) ∧ w.cell? ⟨g, q * 4 + 1, none⟩ = some (.bool R[q].text) ∧ w.cell? ⟨g, q * 4 + 2, none⟩ = some (.int .i64 R[q].n) ∧ w.cell? ⟨g, q * 4 + 3, none⟩ = some (sv R[q].s)) ∧ ∀ i, w.frozen? ⟨g, i, none⟩ = false := by
  obtain ⟨ao, c', e, _, _, h4⟩ := h.fdl
  cases e
  obtain ⟨b, off, e, _, hc⟩ := h4 (by omega)
  cases e
  refine ⟨by have := hc q hq; simpa using this, fun i => ?_⟩
  rcases h.2 with ⟨e, _⟩ | ⟨g', cap', cur, e, hb, hg, _⟩
  · cases e
  · cases e; simp [World.frozen?, hg]
theorem below_fput {B : Nat} {a w : World} (h : Below B a w) {g : Nat} (hg : B ≤ g) (q : Nat) (f : Fld) : Below B a ((((w.setCell ⟨g, q * 4, none⟩ (sv f.name)).setCell ⟨g, q * 4 + 1, none⟩ (.bool f.text)).setCell ⟨g, q * 4 + 2, none⟩ (.int .i64 f.n)).setCell ⟨g, q * 4 + 3, none⟩ (sv f.s)) :=
  (((h.setCell (p := ⟨g, q * 4, none⟩) hg _).setCell (p := ⟨g, q * 4 + 1, none⟩) hg _).setCell (p := ⟨g, q * 4 + 2, none⟩) hg _).setCell (p := ⟨g, q * 4 + 3, none⟩) hg _
end Go.Proofs.YtingpmgpjmlioaaGreatDoor

namespace Go.Proofs.YtingpmgpjmlioaaGreatDoor
open Go.RowKit
set_option linter.unusedVariables false

theorem drop_same {r : List Fld} {nm : List UInt8} (h : hasF r nm = false) : dropF r nm = r := by
  unfold dropF behF
  rw [h]
  simp
theorem fdn_len {w : World} {a : Option Addr} {c : Nat} {fs : List Fld} (h : FdN w a c fs) : fs.length ≤ c ∧ c ≤ 9223372036854775807 := by obtain ⟨_, _, e, h1, h2, _⟩ := h.1; cases e; exact ⟨h1, h2⟩

theorem set_has {r : List Fld} {f : Fld} (h : hasF r f.name = true) : setF r f = r.set (atF r f.name) f := by
  unfold setF behF
  rw [h]
  have := (at_get h).1
  simp only [if_true]
  rw [List.set_eq_take_append_cons_drop, if_pos this]
  simp

theorem at_none {r : List Fld} {nm : List UInt8} {k : Nat} (hh : hasF r nm = false) (hk : k ≤ r.length) (hb : ∀ f ∈ r.take k, ¬ nm < f.name) (ha : ∀ f, r[k]? = some f → nm < f.name) : atF r nm = k := by
  have h1 : r.findIdx? (fun f => f.name == nm) = none := by
    unfold hasF at hh
    rw [List.any_eq_false] at hh
    rw [List.findIdx?_eq_none_iff]; intro f hf; simpa using hh f hf
  unfold atF
  rw [h1]
  refine findIdx_of hk (fun i x hi hx => ?_) (fun hl => ?_)
  · have : x ∈ r.take k := List.mem_iff_getElem?.2 ⟨i, by rw [List.getElem?_take_of_lt hi]; exact hx⟩
    simpa using hb x this
  · exact ⟨r[k], List.getElem?_eq_getElem hl, by simpa using ha _ (List.getElem?_eq_getElem hl)⟩

theorem one_fdn (W : World) (f : Fld) : FdN (W.alloc (.cells (fv f) 48)) (some ⟨W.heap.size, 0, none⟩) 1 [f] := by
  have fb := FBox.new W f
  obtain ⟨x0, x1, x2, x3, _⟩ := fb.cells
  refine ⟨⟨_, _, rfl, by simp, by omega, fun _ => ⟨W.heap.size, 0, rfl, fb.lt, fun i hi => ?_⟩⟩, fun _ => ⟨_, _, rfl⟩⟩
  have : i = 0 := by simp at hi; omega
  subst this
  simp only [Nat.zero_mul, Nat.add_zero, Nat.zero_add, List.getElem_cons_zero]
  exact ⟨x0, x1, x2, x3⟩

end Go.Proofs.YtingpmgpjmlioaaGreatDoor
