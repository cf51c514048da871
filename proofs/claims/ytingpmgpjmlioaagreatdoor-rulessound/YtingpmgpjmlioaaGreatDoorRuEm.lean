/-
  DERIVED. The document's eval.
-/
import Derived.Test.YtingpmgpjmlioaaGreatDoorRuEi
import Derived.Test.YtingpmgpjmlioaaGreatDoorRuY
import Derived.Deep.RegionHeld3
import Derived.Test.YtingpmgpjmlioaaGreatDoorRuO
import Derived.Test.YtingpmgpjmlioaaGreatDoorShR7
namespace Go.Proofs.YtingpmgpjmlioaaGreatDoor
open Go.RowKit
set_option linter.unusedVariables false

/-- The document's place of an evaluation. -/
abbrev rsc (S : Sc) : Array Value := #[sv S.stream, .slice S.sa S.state.length S.sc, .slice S.ga S.given.length S.gc]
structure RSc (w : World) (S : Sc) : Prop where
  st : FdL w (.slice S.sa S.state.length S.sc) S.state
  gv : FdL w (.slice S.ga S.given.length S.gc) S.given
  len : S.stream.length ≤ 140737488355328
  ss : ∀ f ∈ S.state, small f
  gs : ∀ f ∈ S.given, small f
theorem RSc.grown {w w' : World} {S : Sc} (h : RSc w S) (hb : Below w.heap.size w w') : RSc w' S := ⟨h.st.below hb (Nat.le_refl _), h.gv.below hb (Nat.le_refl _), h.len, h.ss, h.gs⟩
theorem small_get {l : List Fld} {nm : List UInt8} (h : ∀ f ∈ l, small f) (hh : hasF l nm = true) : small (getA l nm) := h _ (List.mem_of_getElem? (at_get hh).2)

/-- The value, or none; the error, or 0. -/
def valO (R : Except Int Fld) : Fld := match R with | .ok f => f | .error _ => fld0
def errO (R : Except Int Fld) : Int := match R with | .ok _ => 0 | .error n => n
theorem small0 : small fld0 := ⟨by decide, by decide, by decide⟩
theorem caught_two {R : Except Int Fld} {e : Ending} (h : CaughtF R e) : e = .returned (.tuple #[.agg (fv (valO R)), .int .i64 (errO R)]) ∧ small (valO R) := by
  cases R with
  | ok f => exact h
  | error n => exact ⟨h, small0⟩
theorem caught_of {R : Except Int Fld} {F : Fld} {N : Int} (hF : F = valO R) (hN : N = errO R) (h : small F) : CaughtF R (.returned (.tuple #[.agg (fv F), .int .i64 N])) := by
  subst hF hN
  cases R with
  | ok f => exact ⟨rfl, h⟩
  | error n => rfl

/-- What the statement 'a, x := w.eval(..)' leaves. -/
def EvlR (w0 : World) (F : Fld) (N : Int) (t6 t7 : Value) (W : World) : Prop :=
  ∃ q, t6 = .pointer (some ⟨q, 0, none⟩) ∧ t7 = .int .i64 N ∧ FBox W q F ∧ Below w0.heap.size w0 W ∧ w0.heap.size ≤ q
theorem EvlR.new {w0 W : World} {F : Fld} {N : Int} (b : Below w0.heap.size w0 W) : EvlR w0 F N (.pointer (some ⟨W.heap.size, 0, none⟩)) (.int .i64 N) (W.alloc (.cells (fv F) 48)) :=
  ⟨_, rfl, rfl, FBox.new W F, b.alloc b.size _, b.size⟩
theorem EvlR.put {w0 W : World} {f0 F : Fld} {N : Int} {q : Nat} (b : Below w0.heap.size w0 W) (hq : w0.heap.size ≤ q) (h0 : FBox W q f0) : EvlR w0 F N (.pointer (some ⟨q, 0, none⟩)) (.int .i64 N) ((((W.setCell ⟨q, 0, none⟩ (sv F.name)).setCell ⟨q, 1, none⟩ (.bool F.text)).setCell ⟨q, 2, none⟩ (.int .i64 F.n)).setCell ⟨q, 3, none⟩ (sv F.s)) :=
  ⟨_, rfl, rfl, h0.put F.name F.text F.n F.s, below_put b hq F.name F.text F.n F.s, hq⟩

theorem evalL_none (S : Sc) : evalL S [] = .ok [] := by rw [evalL]
theorem evalX_args {S : Sc} {x : Ex} (h : x.args = []) : evalX S x = opX S x.kind x.n x.s [] := by rw [evalX_eq, h, evalL_none]
theorem evalX_one {S : Sc} {x y : Ex} (h : x.args = [y]) : evalX S x = match evalX S y with
    | .error e => .error e
    | .ok f => opX S x.kind x.n x.s [f] := by
  rw [evalX_eq, h, evalL_cons]
  cases evalX S y with
  | error e => rfl
  | ok f => simp only [evalL_none]
theorem evalX_two {S : Sc} {x y z : Ex} (h : x.args = [y, z]) : evalX S x = match evalX S y with
    | .error e => .error e
    | .ok f => match evalX S z with
      | .error e => .error e
      | .ok g => opX S x.kind x.n x.s [f, g] := by
  rw [evalX_eq, h, evalL_cons, evalL_cons]
  cases evalX S y with
  | error e => rfl
  | ok f =>
    cases evalX S z with
    | error e => rfl
    | ok g => simp only [evalL_none]
theorem opX_two (S : Sc) (k n : Int) (s : List UInt8) (f g : Fld) (hk : 6 ≤ k ∧ k ≤ 9) : opX S k n s [f, g] = twoP k f g := by
  unfold opX twoP
  rw [if_neg (by omega), if_neg (by omega), if_neg (by omega), if_neg (by omega)]
  simp only
  rw [if_neg (by omega), if_neg (by omega)]
theorem len_one {α : Type} : ∀ {l : List α}, l.length = 1 → ∃ a, l = [a]
  | [a], _ => ⟨a, rfl⟩
theorem frm_nz {S : Sc} {x : Ex} (h : frmX x = true) : errO (evalX S x) ≠ 0 ∨ ∃ f, evalX S x = .ok f := by
  cases he : evalX S x with
  | ok f => exact .inr ⟨f, rfl⟩
  | error n => exact .inl (evalX_err S _ x (Nat.le_refl _) ((frm_iff _ x (Nat.le_refl _)).1 h) n he)

end Go.Proofs.YtingpmgpjmlioaaGreatDoor

namespace Go.Proofs.YtingpmgpjmlioaaGreatDoor
open Go.RowKit
set_option linter.unusedVariables false

/-- The program's form is the document's. -/
theorem frm_all {e : Ex} (h : Formed e) : ∀ i, ∀ y ∈ bfsN e i, Formed y
  | 0 => fun y hy => by
    have : y = e := by simpa [bfsN] using hy
    rw [this]; exact h
  | i + 1 => fun y hy => by
    have ih := frm_all h i
    cases hx : (bfsN e i)[i]? with
    | none => rw [bfsN, hx] at hy; exact ih y hy
    | some x =>
      rw [bfs_some hx] at hy
      rcases List.mem_append.1 hy with hy | hy
      · exact ih y hy
      · obtain ⟨_, _, hr⟩ := ih x (List.mem_of_getElem? hx)
        exact hr y (List.mem_of_mem_take hy)
theorem formX_eq (x : Ex) : formX x = (!manyX x && frmX x) := by
  unfold manyX
  by_cases hl : (nodesX x).length ≤ 64
  · rw [decide_eq_false (by omega), Bool.not_false, Bool.true_and]
    rw [Bool.eq_iff_iff, frm_iff _ x (Nat.le_refl _)]
    constructor
    · exact formed_of
    · intro h
      unfold formX
      rw [Bool.and_eq_true, decide_eq_true_eq]
      refine ⟨List.all_eq_true.2 fun y hy => ?_, hl⟩
      obtain ⟨_, h1, _⟩ := frm_all h 65 y hy
      exact h1
  · rw [decide_eq_true (by omega), Bool.not_true, Bool.false_and]
    unfold formX
    rw [decide_eq_false hl, Bool.and_false]

end Go.Proofs.YtingpmgpjmlioaaGreatDoor

namespace Go.Proofs.YtingpmgpjmlioaaGreatDoor
open Go.RowKit
set_option linter.unusedVariables false

/-- Two values, or errors, held against each other by the document. -/
def tailP (k : Int) (ng : Bool) (XA XB : Except Int Fld) : Except Int Bool := match XA with
  | .error e => .error e
  | .ok f => match XB with
    | .error e => .error e
    | .ok g => if k = 1 then .ok (decide (f = g) != ng)
      else if f.text != g.text then .error 134
      else if k = 2 then .ok (lessP f g != ng)
      else .ok (lessP g f == ng)
/-- Whether a condition holds, by the document. -/
def holdsP (st : List UInt8) (l m : List Fld) (d : Cd) : Except Int Bool :=
  if hasP d = false then .error 132
  else if d.kind = 4 then .ok (hasF (if d.A.kind = 4 then m else l) d.A.s != d.neg)
  else tailP d.kind d.neg (evalE st l m d.A) (evalE st l m d.B)
theorem holdsP_eq (st : List UInt8) (l m : List Fld) (d : Cd) : holdsP st l m d = holdsE st l m d := by
  unfold holdsE holdsR isSoR holdsP hasP hasR nmsX
  by_cases h4 : d.kind = 4
  · simp only [h4, if_true]
    by_cases h3 : d.A.kind = 3
    · simp [h3, notR]
    · by_cases h5 : d.A.kind = 4
      · simp [h5, notR]
      · simp [h3, h5, notR]
  · simp only [h4, if_false]
    by_cases hk : d.kind = 1 ∨ d.kind = 2 ∨ d.kind = 3
    · have hd : (decide (d.kind = 1) || decide (d.kind = 2) || decide (d.kind = 3)) = true := by
        simp only [Bool.or_eq_true, decide_eq_true_eq]; omega
      rw [hd, if_neg (by simp), if_pos hk]
      rw [show evalA ⟨st, l, m, none, 0, none, 0, 0⟩ d.A = evalE st l m d.A from rfl, show evalA ⟨st, l, m, none, 0, none, 0, 0⟩ d.B = evalE st l m d.B from rfl]
      unfold tailP
      cases evalE st l m d.A with
      | error e => rfl
      | ok f =>
        cases evalE st l m d.B with
        | error e => rfl
        | ok g =>
          simp only
          by_cases h1 : d.kind = 1
          · rw [if_pos h1, h1]; rfl
          · rw [if_neg h1]
            by_cases ht : f.text = g.text
            · obtain ⟨c2, c3⟩ := lessP_cmp f g ht
              have hb : (f.text != g.text) = false := by simpa using ht
              rw [hb, if_neg (by simp)]
              rcases hk with h | h | h
              · exact absurd h h1
              · rw [if_pos h, h, c2]; rfl
              · rw [if_neg (by omega), h, c3]
                cases lessP g f <;> cases d.neg <;> rfl
            · have hb : (f.text != g.text) = true := by simpa using ht
              rw [hb, if_pos rfl]
              unfold cmpR
              rw [if_neg h1, hb]
              rfl
    · have hd : (decide (d.kind = 1) || decide (d.kind = 2) || decide (d.kind = 3)) = false := by
        rw [Bool.eq_false_iff]; intro h; simp only [Bool.or_eq_true, decide_eq_true_eq] at h; omega
      rw [hd, if_pos rfl, if_neg hk]
      rfl

/-- The answer, or false; the error, or 0. -/
def ansB (R : Except Int Bool) : Bool := match R with | .ok b => b | .error _ => false
def ansN (R : Except Int Bool) : Int := match R with | .ok _ => 0 | .error n => n
theorem caughtB_of (R : Except Int Bool) : CaughtB R (.returned (.tuple #[.bool (ansB R), .int .i64 (ansN R)])) := by
  cases R <;> rfl
theorem errO_ok {R : Except Int Fld} (h : errO R = 0) (hz : ∀ e, R = .error e → e ≠ 0) : R = .ok (valO R) := by
  cases R with
  | ok f => rfl
  | error n => exact absurd h (hz n rfl)
theorem errO_no {R : Except Int Fld} (h : errO R ≠ 0) : R = .error (errO R) := by
  cases R with
  | ok f => exact absurd rfl h
  | error n => rfl

end Go.Proofs.YtingpmgpjmlioaaGreatDoor

namespace Go.Proofs.YtingpmgpjmlioaaGreatDoor
open Go.RowKit
set_option linter.unusedVariables false

theorem FBox.fdn {W : World} {q : Nat} {f : Fld} (h : FBox W q f) : FdN W (some ⟨q, 0, none⟩) 1 [f] := by
  obtain ⟨x0, x1, x2, x3, _⟩ := h.cells
  refine ⟨⟨_, _, rfl, by simp, by omega, fun _ => ⟨q, 0, rfl, h.lt, fun i hi => ?_⟩⟩, fun _ => ⟨_, _, rfl⟩⟩
  have : i = 0 := by simp at hi; omega
  subst this
  simp only [Nat.zero_mul, Nat.add_zero, Nat.zero_add, List.getElem_cons_zero]
  exact ⟨x0, x1, x2, x3⟩

/-- append(v, y...) to a new slice of no field, as a step of a region that draws: every box but the slice's own stays. -/
theorem step_append_first {ops : Array Oper} {o : Oper} {a : Act} {w : World} {K : Act → World → Prop} {Q : Exit → Act → World → Prop} {E : Prop}
    (hg : o.guard = none) (s x : Operand) (ho : o.op = .call { callee := .builtin .append, args := #[s, x], argTypes := #[30, 30] })
    (base : Nat) (g : Nat) (hs : a.eval s = .slice (some ⟨g, 0, none⟩) 0 0) (hgb : base ≤ g) (hown : w.heap[g]? = some (.cells #[] 48)) (ya : Option Addr) (n yc : Nat) (m : List Fld) (hn : n = m.length) (hx : a.eval x = .slice ya n yc) (hy : FdN w ya yc m) (hlen : m.length * 48 ≤ 140737488355328) (hbase : base ≤ w.heap.size)
    (hK : ∀ v' w', FOwn w' base v' m → Below base w w' → (∀ q f, FBox w q f → FBox w' q f) → K (a.put o.dst v') w') :
    if Region.wanted o (yielded ops a.tmps) = true then Oper.wp Tryz.prog o a w K Q else E := by
  have hown : FOwn w base (.slice (some ⟨g, 0, none⟩) 0 0) [] := ⟨rfl, .inr ⟨g, 0, #[], rfl, hgb, hown, Nat.le_refl _, by unfold maxLen; omega, rfl, rfl⟩⟩
  have hgg := hown
  subst hn
  have hw : Region.wanted o (yielded ops a.tmps) = true := by simp [Region.wanted, hg]
  rw [if_pos hw]
  obtain ⟨i0, hi, hh⟩ := Option.map_eq_some_iff.1 Tryz.infoField
  simp only [Prod.mk.injEq] at hh
  obtain ⟨hf, hnil⟩ := hy
  obtain ⟨ao, cap, e, h1, h2, h4⟩ := hf
  cases e
  cases ya with
  | none =>
    obtain rfl : yc = 0 := by
      by_cases hz : yc = 0
      · exact hz
      · obtain ⟨_, _, e⟩ := hnil hz; cases e
    have hm : m = [] := List.eq_nil_of_length_eq_zero (by omega)
    subst hm
    have hrun := run_append_owned_none (P := Tryz.prog) (w := w) base 30 o.type 48 i0 4 Tryz.underlying30 hi _ 0 (fcs []) hown
    unfold Oper.wp
    simp [execOp, ho, resolve, invoke, builtin, hs, hx, hrun, Result.andThen]
    exact hK _ w hown (Below.refl _ _) (fun _ _ h => h)
  | some ad =>
    obtain ⟨v', w', hrun, r1, r2, _⟩ := run_append_own (P := Tryz.prog) w base 30 o.type 48 i0 (.agg (fv fld0)) 4 48 Tryz.underlying30 hi hh.1 hh.2.1 hh.2.2 rfl (by decide) _ 0 (fcs []) hown ad m.length yc (fcs m) (by rw [fcs_len]) (fun j u hj => by
      have hl := (List.getElem?_eq_some_iff.1 hj).1
      rw [fcs_len] at hl
      obtain ⟨b, off, e, _, hc⟩ := h4 (by omega)
      cases e
      exact fcs_at hc j u hj) (fcs_one m) (by unfold maxLen; omega) (by omega) hbase
    unfold Oper.wp
    simp [execOp, ho, resolve, invoke, builtin, hs, hx, hrun, Result.andThen]
    refine hK v' w' (by unfold FOwn; have e : (fcs [] ++ fcs m) = fcs m := rfl; rw [e, Nat.zero_add] at r1; exact r1) ((Below.refl _ _).grown r2 hbase ?_) ?_
    · intro k hk
      simp only [Value.ownBlock, Option.some.injEq] at hk; omega
    · intro q f hq
      refine hq.same (r2.block q hq.lt ?_)
      simp only [Value.ownBlock]
      intro e
      cases e
      obtain ⟨_, h2⟩ := hgg
      rcases h2 with ⟨e, _⟩ | ⟨g', cap', cur, e, hb, hg', hn, hm, hs', ht⟩
      · cases e
      · cases e
        unfold FBox at hq
        rw [hq] at hg'
        cases hg'
        simp at hs'

theorem push2_last (h : Array Obj) (x y : Obj) (n : Nat) (hn : n = h.size + 1) : ((h.push x).push y)[n]? = some y := by
  subst hn
  rw [show h.size + 1 = (h.push x).size by simp, Array.getElem?_push_size]
theorem push2_first (h : Array Obj) (x y : Obj) : ((h.push x).push y)[h.size]? = some x := by
  simp [Array.getElem?_push]


end Go.Proofs.YtingpmgpjmlioaaGreatDoor

namespace Go.Proofs.YtingpmgpjmlioaaGreatDoor
open Go.RowKit

end Go.Proofs.YtingpmgpjmlioaaGreatDoor

namespace Go.Proofs.YtingpmgpjmlioaaGreatDoor
open Go.RowKit
set_option linter.unusedVariables false

/-- A sum of an Assign: by the value and the error, plain. -/
theorem setR_two (st : List UInt8) (l m cur : List Fld) (nm : List UInt8) (x : Ex) : setR st l m cur ⟨nm, x⟩ = if errO (evalE st l m x) = 0 ∧ (setF cur ⟨nm, (valO (evalE st l m x)).text, (valO (evalE st l m x)).n, (valO (evalE st l m x)).s⟩).length ≤ 16 then setF cur ⟨nm, (valO (evalE st l m x)).text, (valO (evalE st l m x)).n, (valO (evalE st l m x)).s⟩ else cur := by
  cases h : evalE st l m x with
  | error n =>
    have hn := evalE_err h
    unfold setR
    simp only [h]
    rw [if_neg (fun q => hn q.1)]
  | ok f =>
    unfold setR
    simp only [h]
    by_cases h16 : (setF cur ⟨nm, f.text, f.n, f.s⟩).length ≤ 16
    · rw [if_pos h16, if_pos ⟨rfl, h16⟩]; rfl
    · rw [if_neg h16, if_neg (fun q => h16 q.2)]

theorem fold_none {vs : List Evo} {t : List UInt8} (h : ∀ v ∈ vs, v.type ≠ t) (st : List UInt8) (l m : List Fld) : foldR vs st l t m = l := by
  unfold foldR
  rw [List.find?_eq_none.2 (fun v hv => by simpa using h v hv)]
theorem fold_some {vs : List Evo} {t : List UInt8} {k : Nat} {v : Evo} (h : ∀ j, j < k → ∀ u, vs[j]? = some u → u.type ≠ t) (hk : vs[k]? = some v) (hv : v.type = t) (st : List UInt8) (l m : List Fld) : foldR vs st l t m = v.drops.foldl dropF (v.sets.foldl (setR st l m) l) := by
  obtain ⟨hl, rfl⟩ := List.getElem?_eq_some_iff.1 hk
  unfold foldR
  rw [List.find?_eq_some_iff_getElem.2 ⟨by simpa using hv, k, hl, rfl, fun j hj => by simpa using h j hj _ (List.getElem?_eq_getElem (by omega))⟩]

/-- What the statement 'f, e := Eval(..)' leaves. -/
theorem evlr_parts {w0 W : World} {F : Fld} {N : Int} {t6 t7 : Value} (h : EvlR w0 F N t6 t7 W) : ∃ q, t6 = .pointer (some ⟨q, 0, none⟩) ∧ t7 = .int .i64 N ∧ FBox W q F ∧ Below w0.heap.size w0 W ∧ w0.heap.size ≤ q := h

end Go.Proofs.YtingpmgpjmlioaaGreatDoor
