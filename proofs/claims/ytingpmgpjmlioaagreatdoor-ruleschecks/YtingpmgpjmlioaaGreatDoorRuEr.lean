/-
  DERIVED. The document's eval.
-/
import Derived.Test.YtingpmgpjmlioaaGreatDoorRuEi
import Derived.Test.YtingpmgpjmlioaaGreatDoorRuY
import Derived.Deep.RegionHeld3
import Derived.Test.YtingpmgpjmlioaaGreatDoorRuO
import Derived.Test.YtingpmgpjmlioaaGreatDoorShR7
import Derived.Test.YtingpmgpjmlioaaGreatDoorRuDg
import Derived.Test.YtingpmgpjmlioaaGreatDoorShpl
namespace Go.Proofs.YtingpmgpjmlioaaGreatDoor
open Go.RowKit
set_option linter.unusedVariables false

/-- The document's place of an evaluation. -/
abbrev rsc (S : Sc) : Array Value := #[sv S.stream, .slice S.sa S.state.length S.sc, .slice S.ga S.given.length S.gc]
structure RSc (w : World) (S : Sc) : Prop where
  st : FdL w (.slice S.sa S.state.length S.sc) S.state
  gv : FdL w (.slice S.ga S.given.length S.gc) S.given
  len : S.stream.length ≤ 140737488355328
  ss : ∀ f ∈ S.state, small f
  gs : ∀ f ∈ S.given, small f
theorem RSc.grown {w w' : World} {S : Sc} (h : RSc w S) (hb : Below w.heap.size w w') : RSc w' S := ⟨h.st.below hb (Nat.le_refl _), h.gv.below hb (Nat.le_refl _), h.len, h.ss, h.gs⟩
theorem small_get {l : List Fld} {nm : List UInt8} (h : ∀ f ∈ l, small f) (hh : hasF l nm = true) : small (getA l nm) := h _ (List.mem_of_getElem? (at_get hh).2)

/-- The value, or none; the error, or 0. -/
def valO (R : Except Int Fld) : Fld := match R with | .ok f => f | .error _ => fld0
def errO (R : Except Int Fld) : Int := match R with | .ok _ => 0 | .error n => n
theorem small0 : small fld0 := ⟨by decide, by decide, by decide⟩
theorem caught_two {R : Except Int Fld} {e : Ending} (h : CaughtF R e) : e = .returned (.tuple #[.agg (fv (valO R)), .int .i64 (errO R)]) ∧ small (valO R) := by
  cases R with
  | ok f => exact h
  | error n => exact ⟨h, small0⟩
theorem caught_of {R : Except Int Fld} {F : Fld} {N : Int} (hF : F = valO R) (hN : N = errO R) (h : small F) : CaughtF R (.returned (.tuple #[.agg (fv F), .int .i64 N])) := by
  subst hF hN
  cases R with
  | ok f => exact ⟨rfl, h⟩
  | error n => rfl

/-- What the statement 'a, x := w.eval(..)' leaves. -/
def EvlR (w0 : World) (F : Fld) (N : Int) (t6 t7 : Value) (W : World) : Prop :=
  ∃ q, t6 = .pointer (some ⟨q, 0, none⟩) ∧ t7 = .int .i64 N ∧ FBox W q F ∧ Below w0.heap.size w0 W ∧ w0.heap.size ≤ q
theorem EvlR.new {w0 W : World} {F : Fld} {N : Int} (b : Below w0.heap.size w0 W) : EvlR w0 F N (.pointer (some ⟨W.heap.size, 0, none⟩)) (.int .i64 N) (W.alloc (.cells (fv F) 48)) :=
  ⟨_, rfl, rfl, FBox.new W F, b.alloc b.size _, b.size⟩
theorem EvlR.put {w0 W : World} {f0 F : Fld} {N : Int} {q : Nat} (b : Below w0.heap.size w0 W) (hq : w0.heap.size ≤ q) (h0 : FBox W q f0) : EvlR w0 F N (.pointer (some ⟨q, 0, none⟩)) (.int .i64 N) ((((W.setCell ⟨q, 0, none⟩ (sv F.name)).setCell ⟨q, 1, none⟩ (.bool F.text)).setCell ⟨q, 2, none⟩ (.int .i64 F.n)).setCell ⟨q, 3, none⟩ (sv F.s)) :=
  ⟨_, rfl, rfl, h0.put F.name F.text F.n F.s, below_put b hq F.name F.text F.n F.s, hq⟩

theorem evalL_none (S : Sc) : evalL S [] = .ok [] := by rw [evalL]
theorem evalX_args {S : Sc} {x : Ex} (h : x.args = []) : evalX S x = opX S x.kind x.n x.s [] := by rw [evalX_eq, h, evalL_none]
theorem evalX_one {S : Sc} {x y : Ex} (h : x.args = [y]) : evalX S x = match evalX S y with
    | .error e => .error e
    | .ok f => opX S x.kind x.n x.s [f] := by
  rw [evalX_eq, h, evalL_cons]
  cases evalX S y with
  | error e => rfl
  | ok f => simp only [evalL_none]
theorem evalX_two {S : Sc} {x y z : Ex} (h : x.args = [y, z]) : evalX S x = match evalX S y with
    | .error e => .error e
    | .ok f => match evalX S z with
      | .error e => .error e
      | .ok g => opX S x.kind x.n x.s [f, g] := by
  rw [evalX_eq, h, evalL_cons, evalL_cons]
  cases evalX S y with
  | error e => rfl
  | ok f =>
    cases evalX S z with
    | error e => rfl
    | ok g => simp only [evalL_none]
theorem opX_two (S : Sc) (k n : Int) (s : List UInt8) (f g : Fld) (hk : 6 ≤ k ∧ k ≤ 9) : opX S k n s [f, g] = twoP k f g := by
  unfold opX twoP
  rw [if_neg (by omega), if_neg (by omega), if_neg (by omega), if_neg (by omega)]
  simp only
  rw [if_neg (by omega), if_neg (by omega)]
theorem len_one {α : Type} : ∀ {l : List α}, l.length = 1 → ∃ a, l = [a]
  | [a], _ => ⟨a, rfl⟩
theorem frm_nz {S : Sc} {x : Ex} (h : frmX x = true) : errO (evalX S x) ≠ 0 ∨ ∃ f, evalX S x = .ok f := by
  cases he : evalX S x with
  | ok f => exact .inr ⟨f, rfl⟩
  | error n => exact .inl (evalX_err S _ x (Nat.le_refl _) ((frm_iff _ x (Nat.le_refl _)).1 h) n he)

end Go.Proofs.YtingpmgpjmlioaaGreatDoor

namespace Go.Proofs.YtingpmgpjmlioaaGreatDoor
open Go.RowKit
set_option linter.unusedVariables false

/-- The program's form is the document's. -/
theorem frm_all {e : Ex} (h : Formed e) : ∀ i, ∀ y ∈ bfsN e i, Formed y
  | 0 => fun y hy => by
    have : y = e := by simpa [bfsN] using hy
    rw [this]; exact h
  | i + 1 => fun y hy => by
    have ih := frm_all h i
    cases hx : (bfsN e i)[i]? with
    | none => rw [bfsN, hx] at hy; exact ih y hy
    | some x =>
      rw [bfs_some hx] at hy
      rcases List.mem_append.1 hy with hy | hy
      · exact ih y hy
      · obtain ⟨_, _, hr⟩ := ih x (List.mem_of_getElem? hx)
        exact hr y (List.mem_of_mem_take hy)
theorem formX_eq (x : Ex) : formX x = (!manyX x && frmX x) := by
  unfold manyX
  by_cases hl : (nodesX x).length ≤ 64
  · rw [decide_eq_false (by omega), Bool.not_false, Bool.true_and]
    rw [Bool.eq_iff_iff, frm_iff _ x (Nat.le_refl _)]
    constructor
    · exact formed_of
    · intro h
      unfold formX
      rw [Bool.and_eq_true, decide_eq_true_eq]
      refine ⟨List.all_eq_true.2 fun y hy => ?_, hl⟩
      obtain ⟨_, h1, _⟩ := frm_all h 65 y hy
      exact h1
  · rw [decide_eq_true (by omega), Bool.not_true, Bool.false_and]
    unfold formX
    rw [decide_eq_false hl, Bool.and_false]

end Go.Proofs.YtingpmgpjmlioaaGreatDoor

namespace Go.Proofs.YtingpmgpjmlioaaGreatDoor
open Go.RowKit
set_option linter.unusedVariables false

/-- Two values, or errors, held against each other by the document. -/
def tailP (k : Int) (ng : Bool) (XA XB : Except Int Fld) : Except Int Bool := match XA with
  | .error e => .error e
  | .ok f => match XB with
    | .error e => .error e
    | .ok g => if k = 1 then .ok (decide (f = g) != ng)
      else if f.text != g.text then .error 134
      else if k = 2 then .ok (lessP f g != ng)
      else .ok (lessP g f == ng)
/-- Whether a condition holds, by the document. -/
def holdsP (st : List UInt8) (l m : List Fld) (d : Cd) : Except Int Bool :=
  if hasP d = false then .error 132
  else if d.kind = 4 then .ok (hasF (if d.A.kind = 4 then m else l) d.A.s != d.neg)
  else tailP d.kind d.neg (evalE st l m d.A) (evalE st l m d.B)
theorem holdsP_eq (st : List UInt8) (l m : List Fld) (d : Cd) : holdsP st l m d = holdsE st l m d := by
  unfold holdsE holdsR isSoR holdsP hasP hasR nmsX
  by_cases h4 : d.kind = 4
  · simp only [h4, if_true]
    by_cases h3 : d.A.kind = 3
    · simp [h3, notR]
    · by_cases h5 : d.A.kind = 4
      · simp [h5, notR]
      · simp [h3, h5, notR]
  · simp only [h4, if_false]
    by_cases hk : d.kind = 1 ∨ d.kind = 2 ∨ d.kind = 3
    · have hd : (decide (d.kind = 1) || decide (d.kind = 2) || decide (d.kind = 3)) = true := by
        simp only [Bool.or_eq_true, decide_eq_true_eq]; omega
      rw [hd, if_neg (by simp), if_pos hk]
      rw [show evalA ⟨st, l, m, none, 0, none, 0, 0⟩ d.A = evalE st l m d.A from rfl, show evalA ⟨st, l, m, none, 0, none, 0, 0⟩ d.B = evalE st l m d.B from rfl]
      unfold tailP
      cases evalE st l m d.A with
      | error e => rfl
      | ok f =>
        cases evalE st l m d.B with
        | error e => rfl
        | ok g =>
          simp only
          by_cases h1 : d.kind = 1
          · rw [if_pos h1, h1]; rfl
          · rw [if_neg h1]
            by_cases ht : f.text = g.text
            · obtain ⟨c2, c3⟩ := lessP_cmp f g ht
              have hb : (f.text != g.text) = false := by simpa using ht
              rw [hb, if_neg (by simp)]
              rcases hk with h | h | h
              · exact absurd h h1
              · rw [if_pos h, h, c2]; rfl
              · rw [if_neg (by omega), h, c3]
                cases lessP g f <;> cases d.neg <;> rfl
            · have hb : (f.text != g.text) = true := by simpa using ht
              rw [hb, if_pos rfl]
              unfold cmpR
              rw [if_neg h1, hb]
              rfl
    · have hd : (decide (d.kind = 1) || decide (d.kind = 2) || decide (d.kind = 3)) = false := by
        rw [Bool.eq_false_iff]; intro h; simp only [Bool.or_eq_true, decide_eq_true_eq] at h; omega
      rw [hd, if_pos rfl, if_neg hk]
      rfl

/-- The answer, or false; the error, or 0. -/
def ansB (R : Except Int Bool) : Bool := match R with | .ok b => b | .error _ => false
def ansN (R : Except Int Bool) : Int := match R with | .ok _ => 0 | .error n => n
theorem caughtB_of (R : Except Int Bool) : CaughtB R (.returned (.tuple #[.bool (ansB R), .int .i64 (ansN R)])) := by
  cases R <;> rfl
theorem errO_ok {R : Except Int Fld} (h : errO R = 0) (hz : ∀ e, R = .error e → e ≠ 0) : R = .ok (valO R) := by
  cases R with
  | ok f => rfl
  | error n => exact absurd h (hz n rfl)
theorem errO_no {R : Except Int Fld} (h : errO R ≠ 0) : R = .error (errO R) := by
  cases R with
  | ok f => exact absurd rfl h
  | error n => rfl

end Go.Proofs.YtingpmgpjmlioaaGreatDoor

namespace Go.Proofs.YtingpmgpjmlioaaGreatDoor
open Go.RowKit
set_option linter.unusedVariables false

theorem FBox.fdn {W : World} {q : Nat} {f : Fld} (h : FBox W q f) : FdN W (some ⟨q, 0, none⟩) 1 [f] := by
  obtain ⟨x0, x1, x2, x3, _⟩ := h.cells
  refine ⟨⟨_, _, rfl, by simp, by omega, fun _ => ⟨q, 0, rfl, h.lt, fun i hi => ?_⟩⟩, fun _ => ⟨_, _, rfl⟩⟩
  have : i = 0 := by simp at hi; omega
  subst this
  simp only [Nat.zero_mul, Nat.add_zero, Nat.zero_add, List.getElem_cons_zero]
  exact ⟨x0, x1, x2, x3⟩

/-- append(v, y...) to a new slice of no field, as a step of a region that draws: every box but the slice's own stays. -/
theorem step_append_first {ops : Array Oper} {o : Oper} {a : Act} {w : World} {K : Act → World → Prop} {Q : Exit → Act → World → Prop} {E : Prop}
    (hg : o.guard = none) (s x : Operand) (ho : o.op = .call { callee := .builtin .append, args := #[s, x], argTypes := #[30, 30] })
    (base : Nat) (g : Nat) (hs : a.eval s = .slice (some ⟨g, 0, none⟩) 0 0) (hgb : base ≤ g) (hown : w.heap[g]? = some (.cells #[] 48)) (ya : Option Addr) (n yc : Nat) (m : List Fld) (hn : n = m.length) (hx : a.eval x = .slice ya n yc) (hy : FdN w ya yc m) (hlen : m.length * 48 ≤ 140737488355328) (hbase : base ≤ w.heap.size)
    (hK : ∀ v' w', FOwn w' base v' m → Below base w w' → (∀ q f, FBox w q f → FBox w' q f) → K (a.put o.dst v') w') :
    if Region.wanted o (yielded ops a.tmps) = true then Oper.wp Tryz.prog o a w K Q else E := by
  have hown : FOwn w base (.slice (some ⟨g, 0, none⟩) 0 0) [] := ⟨rfl, .inr ⟨g, 0, #[], rfl, hgb, hown, Nat.le_refl _, by unfold maxLen; omega, rfl, rfl⟩⟩
  have hgg := hown
  subst hn
  have hw : Region.wanted o (yielded ops a.tmps) = true := by simp [Region.wanted, hg]
  rw [if_pos hw]
  obtain ⟨i0, hi, hh⟩ := Option.map_eq_some_iff.1 Tryz.infoField
  simp only [Prod.mk.injEq] at hh
  obtain ⟨hf, hnil⟩ := hy
  obtain ⟨ao, cap, e, h1, h2, h4⟩ := hf
  cases e
  cases ya with
  | none =>
    obtain rfl : yc = 0 := by
      by_cases hz : yc = 0
      · exact hz
      · obtain ⟨_, _, e⟩ := hnil hz; cases e
    have hm : m = [] := List.eq_nil_of_length_eq_zero (by omega)
    subst hm
    have hrun := run_append_owned_none (P := Tryz.prog) (w := w) base 30 o.type 48 i0 4 Tryz.underlying30 hi _ 0 (fcs []) hown
    unfold Oper.wp
    simp [execOp, ho, resolve, invoke, builtin, hs, hx, hrun, Result.andThen]
    exact hK _ w hown (Below.refl _ _) (fun _ _ h => h)
  | some ad =>
    obtain ⟨v', w', hrun, r1, r2, _⟩ := run_append_own (P := Tryz.prog) w base 30 o.type 48 i0 (.agg (fv fld0)) 4 48 Tryz.underlying30 hi hh.1 hh.2.1 hh.2.2 rfl (by decide) _ 0 (fcs []) hown ad m.length yc (fcs m) (by rw [fcs_len]) (fun j u hj => by
      have hl := (List.getElem?_eq_some_iff.1 hj).1
      rw [fcs_len] at hl
      obtain ⟨b, off, e, _, hc⟩ := h4 (by omega)
      cases e
      exact fcs_at hc j u hj) (fcs_one m) (by unfold maxLen; omega) (by omega) hbase
    unfold Oper.wp
    simp [execOp, ho, resolve, invoke, builtin, hs, hx, hrun, Result.andThen]
    refine hK v' w' (by unfold FOwn; have e : (fcs [] ++ fcs m) = fcs m := rfl; rw [e, Nat.zero_add] at r1; exact r1) ((Below.refl _ _).grown r2 hbase ?_) ?_
    · intro k hk
      simp only [Value.ownBlock, Option.some.injEq] at hk; omega
    · intro q f hq
      refine hq.same (r2.block q hq.lt ?_)
      simp only [Value.ownBlock]
      intro e
      cases e
      obtain ⟨_, h2⟩ := hgg
      rcases h2 with ⟨e, _⟩ | ⟨g', cap', cur, e, hb, hg', hn, hm, hs', ht⟩
      · cases e
      · cases e
        unfold FBox at hq
        rw [hq] at hg'
        cases hg'
        simp at hs'

theorem push2_last (h : Array Obj) (x y : Obj) (n : Nat) (hn : n = h.size + 1) : ((h.push x).push y)[n]? = some y := by
  subst hn
  rw [show h.size + 1 = (h.push x).size by simp, Array.getElem?_push_size]
theorem push2_first (h : Array Obj) (x y : Obj) : ((h.push x).push y)[h.size]? = some x := by
  simp [Array.getElem?_push]


end Go.Proofs.YtingpmgpjmlioaaGreatDoor

namespace Go.Proofs.YtingpmgpjmlioaaGreatDoor
open Go.RowKit

end Go.Proofs.YtingpmgpjmlioaaGreatDoor

namespace Go.Proofs.YtingpmgpjmlioaaGreatDoor
open Go.RowKit
set_option linter.unusedVariables false

/-- A sum of an Assign: by the value and the error, plain. -/
theorem setR_two (st : List UInt8) (l m cur : List Fld) (nm : List UInt8) (x : Ex) : setR st l m cur ⟨nm, x⟩ = if errO (evalE st l m x) = 0 ∧ (setF cur ⟨nm, (valO (evalE st l m x)).text, (valO (evalE st l m x)).n, (valO (evalE st l m x)).s⟩).length ≤ 16 then setF cur ⟨nm, (valO (evalE st l m x)).text, (valO (evalE st l m x)).n, (valO (evalE st l m x)).s⟩ else cur := by
  cases h : evalE st l m x with
  | error n =>
    have hn := evalE_err h
    unfold setR
    simp only [h]
    rw [if_neg (fun q => hn q.1)]
  | ok f =>
    unfold setR
    simp only [h]
    by_cases h16 : (setF cur ⟨nm, f.text, f.n, f.s⟩).length ≤ 16
    · rw [if_pos h16, if_pos ⟨rfl, h16⟩]; rfl
    · rw [if_neg h16, if_neg (fun q => h16 q.2)]

theorem fold_none {vs : List Evo} {t : List UInt8} (h : ∀ v ∈ vs, v.type ≠ t) (st : List UInt8) (l m : List Fld) : foldR vs st l t m = l := by
  unfold foldR
  rw [List.find?_eq_none.2 (fun v hv => by simpa using h v hv)]
theorem fold_some {vs : List Evo} {t : List UInt8} {k : Nat} {v : Evo} (h : ∀ j, j < k → ∀ u, vs[j]? = some u → u.type ≠ t) (hk : vs[k]? = some v) (hv : v.type = t) (st : List UInt8) (l m : List Fld) : foldR vs st l t m = v.drops.foldl dropF (v.sets.foldl (setR st l m) l) := by
  obtain ⟨hl, rfl⟩ := List.getElem?_eq_some_iff.1 hk
  unfold foldR
  rw [List.find?_eq_some_iff_getElem.2 ⟨by simpa using hv, k, hl, rfl, fun j hj => by simpa using h j hj _ (List.getElem?_eq_getElem (by omega))⟩]

/-- What the statement 'f, e := Eval(..)' leaves. -/
theorem evlr_parts {w0 W : World} {F : Fld} {N : Int} {t6 t7 : Value} (h : EvlR w0 F N t6 t7 W) : ∃ q, t6 = .pointer (some ⟨q, 0, none⟩) ∧ t7 = .int .i64 N ∧ FBox W q F ∧ Below w0.heap.size w0 W ∧ w0.heap.size ≤ q := h

end Go.Proofs.YtingpmgpjmlioaaGreatDoor

namespace Go.Proofs.YtingpmgpjmlioaaGreatDoor
open Go.RowKit
set_option linter.unusedVariables false

/-- Has a command the fields that it must have? -/
def needB (m : List Fld) (l : List Ne) : Bool := decide (l.length = m.length) && l.all (needOk m)
theorem needB_R (m : List Fld) (l : List Ne) : needR m l = if needB m l then .ok () else .error 137 := by
  unfold needR needB
  by_cases h : m.length = l.length
  · rw [if_neg (by omega), decide_eq_true h.symm, Bool.true_and]
  · rw [if_pos h, decide_eq_false (by omega), Bool.false_and]
    rfl

end Go.Proofs.YtingpmgpjmlioaaGreatDoor

namespace Go.Proofs.YtingpmgpjmlioaaGreatDoor
open Go.RowKit
set_option linter.unusedVariables false

/-- An event of a decision, by the document. -/
def madeP (st : List UInt8) (l m : List Fld) (x : Em) : Except Int EvM := match setsG (evalE st l m) [] x.sets with
  | .error e => .error e
  | .ok fs => .ok ⟨x.type, fs⟩
theorem madeP_R (st : List UInt8) (l m : List Fld) (x : Em) : madeP st l m x = eventR ⟨st, l, m, none, 0, none, 0, 0⟩ x := rfl

/-- What made comes to. -/
def MadeE (w : World) (r : Except Int EvM) (e : Ending) (w' : World) : Prop :=
  (match r with
    | .ok v => ∃ a c, e = .returned (.tuple #[.agg (emvV v.type (.slice a v.fields.length c)), .int .i64 0]) ∧ FOwn w' w.heap.size (.slice a v.fields.length c) v.fields
    | .error n => e = .returned (.tuple #[.agg ev00, .int .i64 n])) ∧ Below w.heap.size w w'

/-- Where made stands. -/
structure MdSt (w wr : World) (B : Nat) (em : Array Value) (tp : List UInt8) (v : Value) (cur : List Fld) (k : Nat) : Prop where
  bel : Below w.heap.size w wr
  eb : wr.heap[B]? = some (.cells em 94 (0, 0))
  rb : wr.heap[B + 1]? = some (.cells ev00 34 (0, 0))
  ob : wr.heap[B + 2]? = some (.cells (emvV tp v) 34 (0, 0))
  own : FOwn wr (B + 3) v cur
  len : cur.length ≤ k
  siz : B + 3 ≤ wr.heap.size
theorem MdSt.grown {w wr wr' : World} {B : Nat} {em : Array Value} {tp : List UInt8} {v : Value} {cur : List Fld} {k : Nat} (h : MdSt w wr B em tp v cur k) (hb : Below wr.heap.size wr wr') : MdSt w wr' B em tp v cur k :=
  have hs := h.siz
  ⟨h.bel.trans (hb.mono h.bel.size), (hb.block _ (by omega)).trans h.eb, (hb.block _ (by omega)).trans h.rb, (hb.block _ (by omega)).trans h.ob, h.own.below hb (Nat.le_refl _), h.len, by have := hb.size; omega⟩
theorem fown_set1 {w : World} {base q i : Nat} {v : Value} {L : List Fld} (h : FOwn w base v L) (hq : q < base) (x : Value) : FOwn (w.setCell ⟨q, i, none⟩ x) base v L := by
  obtain ⟨h1, h2⟩ := h
  refine ⟨h1, ?_⟩
  rcases h2 with h | ⟨g, cap, cu, a1, b1, c1, r1⟩
  · exact .inl h
  · exact .inr ⟨g, cap, cu, a1, b1, (heap_setCell_other _ ⟨q, i, none⟩ _ _ (show g ≠ q by omega)).trans c1, r1⟩
theorem MdSt.put {w wr wr' : World} {B : Nat} {em : Array Value} {tp : List UInt8} {v v' : Value} {cur cur' : List Fld} {k : Nat} (h : MdSt w wr B em tp v cur k) (hB : B = w.heap.size) (hb : Below wr.heap.size wr wr') (ho : FOwn wr' wr.heap.size v' cur') (hl : cur'.length ≤ k + 1) : MdSt w (wr'.setCell ⟨B + 2, 2, none⟩ v') B em tp v' cur' (k + 1) := by
  have g := h.grown hb
  have hs := h.siz
  refine ⟨g.bel.setCell (show w.heap.size ≤ B + 2 by omega) _, (heap_setCell_other _ ⟨B + 2, 2, none⟩ _ _ (show B ≠ B + 2 by omega)).trans g.eb, (heap_setCell_other _ ⟨B + 2, 2, none⟩ _ _ (show B + 1 ≠ B + 2 by omega)).trans g.rb, ?_, fown_set1 (ho.mono hs) (by omega) _, hl, by rw [show (wr'.setCell ⟨B + 2, 2, none⟩ v').heap.size = wr'.heap.size by simp [World.setCell]]; exact g.siz⟩
  rw [heap_setCell_same _ (B + 2) 2 _ _ _ g.ob]
  rfl

end Go.Proofs.YtingpmgpjmlioaaGreatDoor

namespace Go.Proofs.YtingpmgpjmlioaaGreatDoor
open Go.RowKit
set_option linter.unusedVariables false

def allG (Hd : Cd → Except Int Bool) : List Cd → Except Int Bool
  | [] => .ok true
  | d :: r => match Hd d with
    | .error e => .error e
    | .ok false => .ok false
    | .ok true => allG Hd r
theorem allG_eq (S : Sc) : ∀ l, allR S l = allG (holdsR S) l
  | [] => rfl
  | d :: r => by
    rw [allR, allG, allG_eq S r]
    generalize holdsR S d = q
    cases q with
    | error e => rfl
    | ok b => cases b <;> rfl
theorem allG_err {Hd : Cd → Except Int Bool} {l : List Cd} {k : Nat} {d : Cd} {n : Int} (hk : l[k]? = some d) (h : Hd d = .error n) : allG Hd (l.drop k) = .error n := by
  rw [drop_consT hk, allG, h]
theorem allG_no {Hd : Cd → Except Int Bool} {l : List Cd} {k : Nat} {d : Cd} (hk : l[k]? = some d) (h : Hd d = .ok false) : allG Hd (l.drop k) = .ok false := by
  rw [drop_consT hk, allG, h]
theorem allG_yes {Hd : Cd → Except Int Bool} {l : List Cd} {k : Nat} {d : Cd} (hk : l[k]? = some d) (h : Hd d = .ok true) : allG Hd (l.drop k) = allG Hd (l.drop (k + 1)) := by
  rw [drop_consT hk, allG, h]
def outG (mv : Em → Except Int EvM) (c : Cs) : Except Int Dc := if c.emits = [] then .ok ⟨true, c.refuse, []⟩ else match eventsG mv c.emits with
  | .error e => .error e
  | .ok vs => .ok ⟨false, [], vs⟩
theorem outG_eq (S : Sc) (c : Cs) : outcomeR S c = outG (eventR S) c := by
  unfold outcomeR outG
  rw [eventsR_eq]
  generalize eventsG (eventR S) c.emits = q
  cases q <;> rfl

theorem holdsE_err {st : List UInt8} {l m : List Fld} {d : Cd} {n : Int} (h : holdsE st l m d = .error n) : n ≠ 0 := by
  rw [← holdsP_eq] at h
  unfold holdsP tailP at h
  split at h
  · cases h; decide
  · split at h
    · cases h
    · split at h
      · rename_i e he
        cases h
        exact evalE_err he
      · split at h
        · rename_i e he
          cases h
          exact evalE_err he
        · split at h
          · cases h
          · split at h
            · cases h; decide
            · split at h <;> cases h
theorem setsG_errz {ev : Ex → Except Int Fld} (hz : ∀ x n, ev x = .error n → n ≠ 0) : ∀ (l : List As) (acc : List Fld) (n : Int), setsG ev acc l = .error n → n ≠ 0
  | [], acc, n, h => by rw [setsG] at h; cases h
  | a :: r, acc, n, h => by
    rw [setsG] at h
    cases hx : ev a.e with
    | error e => rw [hx] at h; cases h; exact hz _ _ hx
    | ok f => rw [hx] at h; exact setsG_errz hz r _ n h
theorem madeP_err {st : List UInt8} {l m : List Fld} {x : Em} {n : Int} (h : madeP st l m x = .error n) : n ≠ 0 := by
  unfold madeP at h
  cases hs : setsG (evalE st l m) [] x.sets with
  | error e => rw [hs] at h; cases h; exact setsG_errz (fun x n q => evalE_err q) _ _ _ hs
  | ok fs => rw [hs] at h; cases h
/-- What a loop over conditions knows: A is what all come to. -/
def alSt (Hd : Cd → Except Int Bool) (A : Except Int Bool) (l : List Cd) (k : Nat) (t : Bool) : Prop := if t then A = allG Hd (l.drop k) else A = .ok false

theorem evown_set1 {w : World} {base q i : Nat} {v : Value} {L : List EvM} (h : EvOwn w base v L) (hq : q < base) (x : Value) : EvOwn (w.setCell ⟨q, i, none⟩ x) base v L := by
  have hk : ∀ g, base ≤ g → (w.setCell ⟨q, i, none⟩ x).heap[g]? = w.heap[g]? := fun g hg => heap_setCell_other _ ⟨q, i, none⟩ _ _ (show g ≠ q by omega)
  obtain ⟨R, ⟨h1, h2⟩, h3, h4⟩ := h
  refine ⟨R, ⟨h1, ?_⟩, h3, fun i e r hi hr => ?_⟩
  · rcases h2 with h | ⟨g, cap, cur, a, b, c, r⟩
    · exact .inl h
    · exact .inr ⟨g, cap, cur, a, b, (hk g b).trans c, r⟩
  · obtain ⟨a, b, c1, c2⟩ := h4 i e r hi hr
    refine ⟨a, b, c1, ?_⟩
    rcases c2 with h | ⟨g, cap, cur, a, b, c, r⟩
    · exact .inl h
    · exact .inr ⟨g, cap, cur, a, b, (hk g b).trans c, r⟩

/-- Where the making of events stands: the decision's box at D. -/
structure CsSt (w wr : World) (D : Nat) (v : Value) (acc : List EvM) (k : Nat) : Prop where
  bel : Below w.heap.size w wr
  ob : wr.heap[D]? = some (.cells #[.bool false, .string ⟨#[]⟩, v] 37 (0, 0))
  own : EvOwn wr (D + 1) v acc
  len : acc.length = k
  siz : D + 1 ≤ wr.heap.size
  lt : w.heap.size ≤ D
theorem CsSt.grown {w wr wr' : World} {D : Nat} {v : Value} {acc : List EvM} {k : Nat} (h : CsSt w wr D v acc k) (hb : Below wr.heap.size wr wr') : CsSt w wr' D v acc k :=
  have hs := h.siz
  ⟨h.bel.trans (hb.mono h.bel.size), (hb.block _ (by omega)).trans h.ob, h.own.below hb (Nat.le_refl _), h.len, by have := hb.size; omega, h.lt⟩
theorem CsSt.put {w w5 wr' : World} {D : Nat} {v v' : Value} {acc acc' : List EvM} {k : Nat} (g : CsSt w w5 D v acc k) (hb : Below (D + 1) w5 wr') (ho : EvOwn wr' (D + 1) v' acc') (hl : acc'.length = k + 1) : CsSt w (wr'.setCell ⟨D, 2, none⟩ v') D v' acc' (k + 1) := by
  have hs := g.siz
  have ht := g.lt
  refine ⟨(g.bel.trans (hb.mono (by omega))).setCell (show w.heap.size ≤ D by omega) _, ?_, evown_set1 ho (by omega) _, hl, by rw [show (wr'.setCell ⟨D, 2, none⟩ v').heap.size = wr'.heap.size by simp [World.setCell]]; have := hb.size; omega, ht⟩
  rw [heap_setCell_same _ D 2 _ _ _ ((hb.block _ (by omega)).trans g.ob)]
  rfl
theorem cs_next {w w5 wr' : World} {D : Nat} {v v' : Value} {acc : List EvM} {e : EvM} {k : Nat} (g : CsSt w w5 D v acc k) (hb : Below (D + 1) w5 wr') (ho : EvOwn wr' (D + 1) v' (acc ++ [e])) : ∃ a n c, v' = .slice a n c ∧ wr'.heap[D]? = some (.cells #[.bool false, .string ⟨#[]⟩, v] 37 (0, 0)) ∧ CsSt w (wr'.setCell ⟨D, 2, none⟩ (.slice a n c)) D (.slice a n c) (acc ++ [e]) (k + 1) := by
  obtain ⟨a, c, rfl⟩ := ho.slice
  exact ⟨a, _, c, rfl, (hb.block _ (by omega)).trans g.ob, g.put hb ho (by rw [List.length_append, g.len]; rfl)⟩

end Go.Proofs.YtingpmgpjmlioaaGreatDoor

namespace Go.Proofs.YtingpmgpjmlioaaGreatDoor
open Go.RowKit
set_option linter.unusedVariables false

/-- A slice of events reads as these. -/
def EvRd (w : World) (v : Value) (L : List EvM) : Prop := ∃ a c, v = .slice a L.length c ∧ L.length ≤ c ∧ c ≤ 9223372036854775807 ∧
  ∀ (k : Nat) (e : EvM), L[k]? = some e → ∃ b off fa fc, a = some ⟨b, off, none⟩ ∧ b < w.heap.size ∧ w.cell? ⟨b, off + k * 3, none⟩ = some (sv e.type) ∧ w.cell? ⟨b, off + k * 3 + 1, none⟩ = some (.int .i64 0) ∧ w.cell? ⟨b, off + k * 3 + 2, none⟩ = some (.slice fa e.fields.length fc) ∧ FdL w (.slice fa e.fields.length fc) e.fields
theorem EvRd.below {B : Nat} {w w' : World} {v : Value} {L : List EvM} (h : EvRd w v L) (hb : Below B w w') (hB : w.heap.size ≤ B) : EvRd w' v L := by
  obtain ⟨a, c, rfl, h1, h2, h3⟩ := h
  refine ⟨a, c, rfl, h1, h2, fun k e hk => ?_⟩
  obtain ⟨b, off, fa, fc, e1, hlt, c0, c1, c2, hf⟩ := h3 k e hk
  exact ⟨b, off, fa, fc, e1, Nat.lt_of_lt_of_le hlt hb.size, cell_kept hb hB c0, cell_kept hb hB c1, cell_kept hb hB c2, hf.below hb hB⟩
theorem EvOwn.rd {w : World} {base : Nat} {v : Value} {L : List EvM} (h : EvOwn w base v L) : EvRd w v L := by
  obtain ⟨R, ⟨h1, h2⟩, h3, h4⟩ := h
  rcases h2 with ⟨rfl, e⟩ | ⟨g, cap, cur, rfl, hb, hg, hn, hm, hs, ht⟩
  · have : L = [] := List.eq_nil_of_length_eq_zero (by omega)
    subst this
    exact ⟨none, 0, rfl, by simp, by omega, fun k e hk => by simp at hk⟩
  · refine ⟨some ⟨g, 0, none⟩, cap, by rw [h3], by omega, by unfold maxLen at hm; omega, fun k e hk => ?_⟩
    have hkl := (List.getElem?_eq_some_iff.1 hk).1
    obtain ⟨r, hr⟩ : ∃ r, R[k]? = some r := ⟨_, List.getElem?_eq_getElem (by omega)⟩
    obtain ⟨e0, e1, e2⟩ := h4 k e r hk hr
    obtain ⟨q0, q1, q2⟩ := ecs_get R k r hr
    have at' : ∀ j u, (ecs R)[j]? = some u → w.cell? ⟨g, j, none⟩ = some u := by
      intro j u hu
      have hj := (List.getElem?_eq_some_iff.1 hu).1
      have e : (cur.toList.take (R.length * 3))[j]? = (ecs R)[j]? := by rw [ht]
      rw [List.getElem?_take_of_lt (by omega), hu] at e
      simp only [World.cell?, hg]
      simpa using e
    refine ⟨g, 0, r.a, r.c, rfl, lt_of_block hg, ?_, ?_, ?_, ?_⟩
    · rw [← e0, Nat.zero_add]; exact at' _ _ q0
    · rw [Nat.zero_add]; exact at' _ _ q1
    · rw [← e1, Nat.zero_add]; exact at' _ _ q2
    · rw [← e1]; exact e2.fdl

end Go.Proofs.YtingpmgpjmlioaaGreatDoor

namespace Go.Proofs.YtingpmgpjmlioaaGreatDoor
open Go.RowKit
set_option linter.unusedVariables false

theorem dec_none {st : List UInt8} {l m : List Fld} {hs : List Ha} {cmd : List UInt8} (h : ∀ x ∈ hs, x.cmd ≠ cmd) : decE st l m hs cmd = .error 136 := by
  unfold decE decR handR
  rw [List.find?_eq_none.2 (fun x hx => by simpa using h x hx)]
theorem dec_some {st : List UInt8} {l m : List Fld} {hs : List Ha} {cmd : List UInt8} {k : Nat} {x : Ha} (h : ∀ j, j < k → ∀ u, hs[j]? = some u → u.cmd ≠ cmd) (hk : hs[k]? = some x) (hx : x.cmd = cmd) : decE st l m hs cmd = if needB m x.needs then decideG (allG (holdsE st l m)) (outG (madeP st l m)) x.cases else .error 137 := by
  obtain ⟨hl, rfl⟩ := List.getElem?_eq_some_iff.1 hk
  unfold decE decR handR
  rw [List.find?_eq_some_iff_getElem.2 ⟨by simpa using hx, k, hl, rfl, fun j hj => by simpa using h j hj _ (List.getElem?_eq_getElem (by omega))⟩]
  simp only
  rw [needB_R]
  cases needB m hs[k].needs with
  | false => rfl
  | true =>
    simp only [if_true]
    rw [decideR_eq]
    have e1 : allR ⟨st, l, m, none, 0, none, 0, 0⟩ = allG (holdsE st l m) := by funext d; rw [allG_eq]; rfl
    have e2 : outcomeR ⟨st, l, m, none, 0, none, 0, 0⟩ = outG (madeP st l m) := by funext c; rw [outG_eq]; rfl
    rw [e1, e2]

end Go.Proofs.YtingpmgpjmlioaaGreatDoor
