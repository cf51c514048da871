/-
  DERIVED. The document's Eval.
-/
import Derived.Test.YtclllkbljaomoaaGreatDoorRuEj
import Derived.Test.YtclllkbljaomoaaGreatDoorRuO
import Derived.Test.YtclllkbljaomoaaGreatDoorRuY
import Derived.Test.YtclllkbljaomoaaGreatDoorShR9
import Derived.Test.YtclllkbljaomoaaGreatDoorShR7
namespace Go.Proofs.YtclllkbljaomoaaGreatDoor
open Go.RowKit
set_option linter.unusedVariables false

/-- The program's form is the document's. -/
theorem frm_all {e : Ex} (h : Formed e) : ∀ i, ∀ y ∈ bfsN e i, Formed y
  | 0 => fun y hy => by
    have : y = e := by simpa [bfsN] using hy
    rw [this]; exact h
  | i + 1 => fun y hy => by
    have ih := frm_all h i
    cases hx : (bfsN e i)[i]? with
    | none => rw [bfsN, hx] at hy; exact ih y hy
    | some x =>
      rw [bfs_some hx] at hy
      rcases List.mem_append.1 hy with hy | hy
      · exact ih y hy
      · obtain ⟨_, _, hr⟩ := ih x (List.mem_of_getElem? hx)
        exact hr y (List.mem_of_mem_take hy)
theorem formX_eq (x : Ex) : formX x = (!manyX x && frmX x) := by
  unfold manyX
  by_cases hl : (nodesX x).length ≤ 64
  · rw [decide_eq_false (by omega), Bool.not_false, Bool.true_and]
    rw [Bool.eq_iff_iff, frm_iff _ x (Nat.le_refl _)]
    constructor
    · exact formed_of
    · intro h
      unfold formX
      rw [Bool.and_eq_true, decide_eq_true_eq]
      refine ⟨List.all_eq_true.2 fun y hy => ?_, hl⟩
      obtain ⟨_, h1, _⟩ := frm_all h 65 y hy
      exact h1
  · rw [decide_eq_true (by omega), Bool.not_true, Bool.false_and]
    unfold formX
    rw [decide_eq_false hl, Bool.and_false]

set_option maxRecDepth 20000 in
set_option maxHeartbeats 4000000 in
theorem rEval_any (st : List UInt8) (l m : List Fld) (la : Option Addr) (lc : Nat) (ma : Option Addr) (mc : Nat) (x : Ex) (a : Option Addr) (c : Nat) (w : World) (hat : ExAt w x a c) (hl : FdL w (.slice la l.length lc) l) (hm : FdL w (.slice ma m.length mc) m) (hst : st.length ≤ 140737488355328) (hfs : ∀ f ∈ l, small f) (hfg : ∀ f ∈ m, small f) (hva : Vars w) :
    Calls Tryz.prog 13 #[.agg (exV x a c), sv st, .slice la l.length lc, .slice ma m.length mc] w fun e w' => CaughtF (evalE st l m x) e ∧ Below w.heap.size w w' := by
  have hb2 : Below w.heap.size w ((w.alloc (.cells (exV x a c) 32)).alloc (.cells (fv fld0) 37)) := ((Below.refl _ _).alloc (Nat.le_refl _) _).alloc (by simp) _
  have hx2 : XBox ((w.alloc (.cells (exV x a c) 32)).alloc (.cells (fv fld0) 37)) w.heap.size x a c := by
    have : XBox (w.alloc (.cells (exV x a c) 32)) w.heap.size x a c := heap_alloc_new _ _
    exact this.below ((Below.refl _ _).alloc (Nat.le_refl _) _) (Nat.le_refl _)
  have hf2 : FBox ((w.alloc (.cells (exV x a c) 32)).alloc (.cells (fv fld0) 37)) (w.heap.size + 1) fld0 := by
    have := FBox.new (w.alloc (.cells (exV x a c) 32)) fld0
    rwa [World.size_alloc] at this
  obtain ⟨w2, hw2⟩ : ∃ w2, w2 = (w.alloc (.cells (exV x a c) 32)).alloc (.cells (fv fld0) 37) := ⟨_, rfl⟩
  rw [← hw2] at hb2 hx2 hf2
  have HW := hide hw2
  have HB2 := hide hb2
  have HX2 := hide hx2
  have HF2 := hide hf2
  have hat2 := hat.grown hb2
  have HAT := hide hat2
  have HMa := hide (rmany_any ⟨x, a, c⟩ w2 hat2)
  rw [show decide (64 < cntX (⟨x, a, c⟩ : Nd).x 0) = manyX x from many_cnt x] at HMa
  have HFo := hide (fun W hW => rFormed_any hat2 W hW)
  have HEv : Hid (frmX x = true → ∀ W, Below w2.heap.size w2 W → Calls Tryz.prog 39 #[.agg #[sv st, .slice la l.length lc, .slice ma m.length mc], .agg (exV x a c)] W fun e w' => CaughtF (evalX ⟨st, l, m, la, lc, ma, mc, 0⟩ x) e ∧ Below W.heap.size W w') := hide (reval_any (S := ⟨st, l, m, la, lc, ma, mc, 0⟩) ⟨hl.below hb2 (Nat.le_refl _), hm.below hb2 (Nat.le_refl _), hst, hfs, hfg⟩ (hva.below hb2 (Nat.le_refl _)) hat2)
  have HR1 : Hid (manyX x = true → evalE st l m x = .error 132) := hide (fun h => by unfold evalE evalA; rw [formX_eq, h]; rfl)
  have HR2 : Hid (frmX x = false → evalE st l m x = .error 132) := hide (fun h => by unfold evalE evalA; rw [formX_eq, h, Bool.and_false]; rfl)
  have HR3 : Hid (manyX x = false → frmX x = true → evalE st l m x = evalX ⟨st, l, m, la, lc, ma, mc, 0⟩ x) := hide (fun h1 h2 => by
    rw [← evalA_same st l m la lc ma mc 0 x]
    unfold evalA
    rw [formX_eq, h1, h2]
    rfl)
  obtain ⟨R, hR⟩ : ∃ R, R = evalE st l m x := ⟨_, rfl⟩
  rw [← hR] at HR1 HR2 HR3 ⊢
  obtain ⟨X, hX⟩ : ∃ X, X = evalX ⟨st, l, m, la, lc, ma, mc, 0⟩ x := ⟨_, rfl⟩
  rw [← hX] at HR3 HEv
  obtain ⟨MX, hMX⟩ : ∃ MX, MX = manyX x := ⟨_, rfl⟩
  rw [← hMX] at HMa HR1 HR3
  obtain ⟨FX, hFX⟩ : ∃ FX, FX = frmX x := ⟨_, rfl⟩
  rw [← hFX] at HFo HEv HR2 HR3
  have HRC : Hid (∀ W, Below w2.heap.size w2 W → (W.cell? ⟨w.heap.size + 1, 0, none⟩ = some (sv []) ∧ W.cell? ⟨w.heap.size + 1, 1, none⟩ = some (.bool false) ∧ W.cell? ⟨w.heap.size + 1, 2, none⟩ = some (.int .i64 0) ∧ W.cell? ⟨w.heap.size + 1, 3, none⟩ = some (sv [])) ∧ (∀ i, W.frozen? ⟨w.heap.size + 1, i, none⟩ = false) ∧ W.cell? ⟨w.heap.size, 0, none⟩ = some (.int .i64 x.kind) ∧ W.cell? ⟨w.heap.size, 1, none⟩ = some (.int .i64 x.n) ∧ W.cell? ⟨w.heap.size, 2, none⟩ = some (sv x.s) ∧ W.cell? ⟨w.heap.size, 3, none⟩ = some (.slice a x.args.length c)) := hide (fun W hW => by
    obtain ⟨a0, a1, a2, a3, af⟩ := (hf2.below hW (Nat.le_refl _)).cells
    obtain ⟨b0, b1, b2, b3, -⟩ := (hx2.below hW (Nat.le_refl _)).cells
    exact ⟨⟨a0, a1, a2, a3⟩, af, b0, b1, b2, b3⟩)
  have HRB : Hid (∀ (W : World) (F : Fld) (N : Int), Below w2.heap.size w2 W → F = valO R → N = errO R → small F → FBox ((((W.setCell ⟨w.heap.size + 1, 0, none⟩ (sv F.name)).setCell ⟨w.heap.size + 1, 1, none⟩ (.bool F.text)).setCell ⟨w.heap.size + 1, 2, none⟩ (.int .i64 F.n)).setCell ⟨w.heap.size + 1, 3, none⟩ (sv F.s)) (w.heap.size + 1) F ∧ Below w.heap.size w ((((W.setCell ⟨w.heap.size + 1, 0, none⟩ (sv F.name)).setCell ⟨w.heap.size + 1, 1, none⟩ (.bool F.text)).setCell ⟨w.heap.size + 1, 2, none⟩ (.int .i64 F.n)).setCell ⟨w.heap.size + 1, 3, none⟩ (sv F.s)) ∧ CaughtF R (.returned (.tuple #[.agg (fv F), .int .i64 N]))) := hide (fun W F N hW hF hN hs =>
    ⟨(hf2.below hW (Nat.le_refl _)).put F.name F.text F.n F.s, below_put (hb2.trans (hW.mono hb2.size)) (by omega) F.name F.text F.n F.s, caught_of hF hN hs⟩)
  clear hw2 hb2 hx2 hf2 hat hat2 hl hm hva hst hfs hfg hR hX hMX hFX
  obtain ⟨-, -, x0, x1, x2, x3⟩ := unhide HRC w2 (Below.refl _ _)
  simp only [ndv] at HMa
  go_enter Tryz.func13, Tryz.ntmps13
  go_upto_region 1 with fail
  rw [show (w.alloc (.cells #[Value.int IntKind.i64 x.kind, .int .i64 x.n, sv x.s, .slice a x.args.length c] 32)).alloc (.cells #[Value.string ⟨#[]⟩, .bool false, .int .i64 0, Value.string ⟨#[]⟩] 37) = w2 from (unhide HW).symm]
  cases MX with
  | true =>
    have HRe := hide (unhide HR1 rfl)
    go_wp2_with (go_at_call 38; refine (unhide HMa).mono ?_; rintro e w3 ⟨rfl, b3⟩; obtain ⟨⟨r0, r1, r2, r3⟩, rf, -⟩ := unhide HRC w3 b3; have HB3 := hide (unhide HRB w3 fld0 132 b3 (by rw [unhide HRe]; rfl) (by rw [unhide HRe]; rfl) small0); clear b3)
    exact bodyPost_ret (results_ct rfl _ _ (w.heap.size + 1) 37 (fv fld0) (0, 0) _ (.int .i64 132) rfl rfl (unhide HB3).1 Tryz.underlying37 rfl sizeField) rfl ⟨(unhide HB3).2.2, (unhide HB3).2.1⟩
  | false =>
    go_upto_region 3 with (go_at_call 38; refine (unhide HMa).mono ?_; rintro e w3 ⟨rfl, b3⟩; have HB3 := hide b3; clear b3)
    obtain ⟨-, -, y0, y1, y2, y3⟩ := unhide HRC w3 (unhide HB3)
    have HF3 := hide (unhide HFo w3 (unhide HB3))
    clear x0 x1 x2 x3
    cases FX with
    | false =>
      have HRe := hide (unhide HR2 rfl)
      go_wp2_with (go_at_call 31; refine (unhide HF3).mono ?_; rintro e w4 ⟨rfl, b4⟩; have b24 := (unhide HB3).trans (b4.mono (unhide HB3).size); obtain ⟨⟨r0, r1, r2, r3⟩, rf, -⟩ := unhide HRC w4 b24; have HB4 := hide (unhide HRB w4 fld0 132 b24 (by rw [unhide HRe]; rfl) (by rw [unhide HRe]; rfl) small0); clear b4 b24)
      exact bodyPost_ret (results_ct rfl _ _ (w.heap.size + 1) 37 (fv fld0) (0, 0) _ (.int .i64 132) rfl rfl (unhide HB4).1 Tryz.underlying37 rfl sizeField) rfl ⟨(unhide HB4).2.2, (unhide HB4).2.1⟩
    | true =>
      have HRe : Hid (R = X) := hide (unhide HR3 (by simp) (by simp))
      go_upto_region 6 with (go_at_call 31; refine (unhide HF3).mono ?_; rintro e w4 ⟨rfl, b4⟩; have HB4 := hide ((unhide HB3).trans (b4.mono (unhide HB3).size)); clear b4)
      clear y0 y1 y2 y3
      obtain ⟨-, -, y0, y1, y2, y3⟩ := unhide HRC w4 (unhide HB4)
      have HT := hide (unhide HEv (by simp) w4 (unhide HB4))
      rw [← unhide HRe] at HT
      obtain ⟨F, hF⟩ : ∃ F, F = valO R := ⟨_, rfl⟩
      obtain ⟨N, hN⟩ : ∃ N, N = errO R := ⟨_, rfl⟩
      have HT2 : Hid (Calls Tryz.prog 39 #[.agg #[sv st, .slice la l.length lc, .slice ma m.length mc], .agg (exV x a c)] w4 fun e w' => (e = .returned (.tuple #[.agg (fv F), .int .i64 N]) ∧ small F) ∧ Below w4.heap.size w4 w') := hide ((unhide HT).mono fun e w' h => ⟨by rw [hF, hN]; exact caught_two h.1, h.2⟩)
      have HB5 : Hid (∀ W, Below w4.heap.size w4 W → small F → _) := hide (fun W hW hs => unhide HRB W F N ((unhide HB4).trans (hW.mono (unhide HB4).size)) hF hN hs)
      clear hF hN HT HRB
      obtain ⟨fn, ft, fi, fz⟩ := F
      go_wp2_with (go_at_call 39; refine (unhide HT2).mono ?_; rintro e w5 ⟨⟨rfl, hsm⟩, b5⟩; obtain ⟨⟨r0, r1, r2, r3⟩, rf, -⟩ := unhide HRC w5 ((unhide HB4).trans (b5.mono (unhide HB4).size)); have HB6 := hide (unhide HB5 w5 b5 hsm); clear b5 hsm)
      exact bodyPost_ret (results_ct rfl _ _ (w.heap.size + 1) 37 (fv ⟨fn, ft, fi, fz⟩) (0, 0) _ (.int .i64 N) rfl rfl (unhide HB6).1 Tryz.underlying37 rfl sizeField) rfl ⟨(unhide HB6).2.2, (unhide HB6).2.1⟩
end Go.Proofs.YtclllkbljaomoaaGreatDoor

namespace Go.Proofs.YtclllkbljaomoaaGreatDoor
open Go.RowKit
set_option linter.unusedVariables false

/-- Two values, or errors, held against each other by the document. -/
def tailP (k : Int) (ng : Bool) (XA XB : Except Int Fld) : Except Int Bool := match XA with
  | .error e => .error e
  | .ok f => match XB with
    | .error e => .error e
    | .ok g => if k = 1 then .ok (decide (f = g) != ng)
      else if f.text != g.text then .error 134
      else if k = 2 then .ok (lessP f g != ng)
      else .ok (lessP g f == ng)
/-- Whether a condition holds, by the document. -/
def holdsP (st : List UInt8) (l m : List Fld) (d : Cd) : Except Int Bool :=
  if hasP d = false then .error 132
  else if d.kind = 4 then .ok (hasF (if d.A.kind = 4 then m else l) d.A.s != d.neg)
  else tailP d.kind d.neg (evalE st l m d.A) (evalE st l m d.B)
theorem holdsP_eq (st : List UInt8) (l m : List Fld) (d : Cd) : holdsP st l m d = holdsE st l m d := by
  unfold holdsE holdsR isSoR holdsP hasP hasR nmsX
  by_cases h4 : d.kind = 4
  · simp only [h4, if_true]
    by_cases h3 : d.A.kind = 3
    · simp [h3, notR]
    · by_cases h5 : d.A.kind = 4
      · simp [h5, notR]
      · simp [h3, h5, notR]
  · simp only [h4, if_false]
    by_cases hk : d.kind = 1 ∨ d.kind = 2 ∨ d.kind = 3
    · have hd : (decide (d.kind = 1) || decide (d.kind = 2) || decide (d.kind = 3)) = true := by
        simp only [Bool.or_eq_true, decide_eq_true_eq]; omega
      rw [hd, if_neg (by simp), if_pos hk]
      rw [show evalA ⟨st, l, m, none, 0, none, 0, 0⟩ d.A = evalE st l m d.A from rfl, show evalA ⟨st, l, m, none, 0, none, 0, 0⟩ d.B = evalE st l m d.B from rfl]
      unfold tailP
      cases evalE st l m d.A with
      | error e => rfl
      | ok f =>
        cases evalE st l m d.B with
        | error e => rfl
        | ok g =>
          simp only
          by_cases h1 : d.kind = 1
          · rw [if_pos h1, h1]; rfl
          · rw [if_neg h1]
            by_cases ht : f.text = g.text
            · obtain ⟨c2, c3⟩ := lessP_cmp f g ht
              have hb : (f.text != g.text) = false := by simpa using ht
              rw [hb, if_neg (by simp)]
              rcases hk with h | h | h
              · exact absurd h h1
              · rw [if_pos h, h, c2]; rfl
              · rw [if_neg (by omega), h, c3]
                cases lessP g f <;> cases d.neg <;> rfl
            · have hb : (f.text != g.text) = true := by simpa using ht
              rw [hb, if_pos rfl]
              unfold cmpR
              rw [if_neg h1, hb]
              rfl
    · have hd : (decide (d.kind = 1) || decide (d.kind = 2) || decide (d.kind = 3)) = false := by
        rw [Bool.eq_false_iff]; intro h; simp only [Bool.or_eq_true, decide_eq_true_eq] at h; omega
      rw [hd, if_pos rfl, if_neg hk]
      rfl

/-- The answer, or false; the error, or 0. -/
def ansB (R : Except Int Bool) : Bool := match R with | .ok b => b | .error _ => false
def ansN (R : Except Int Bool) : Int := match R with | .ok _ => 0 | .error n => n
theorem caughtB_of (R : Except Int Bool) : CaughtB R (.returned (.tuple #[.bool (ansB R), .int .i64 (ansN R)])) := by
  cases R <;> rfl
theorem errO_ok {R : Except Int Fld} (h : errO R = 0) (hz : ∀ e, R = .error e → e ≠ 0) : R = .ok (valO R) := by
  cases R with
  | ok f => rfl
  | error n => exact absurd h (hz n rfl)
theorem errO_no {R : Except Int Fld} (h : errO R ≠ 0) : R = .error (errO R) := by
  cases R with
  | ok f => exact absurd rfl h
  | error n => rfl

set_option maxRecDepth 20000 in
set_option maxHeartbeats 8000000 in
theorem rHolds_any (st : List UInt8) (l m : List Fld) (la : Option Addr) (lc : Nat) (ma : Option Addr) (mc : Nat) (d : Cd) (a : Option Addr) (c : Nat) (a' : Option Addr) (c' : Nat) (w : World) (hA : ExAt w d.A a c) (hB : ExAt w d.B a' c') (hl : FdL w (.slice la l.length lc) l) (hm : FdL w (.slice ma m.length mc) m) (hst : st.length ≤ 140737488355328) (hfs : ∀ f ∈ l, small f) (hfg : ∀ f ∈ m, small f) (hva : Vars w) :
    Calls Tryz.prog 15 #[.agg (cdV d a c a' c'), sv st, .slice la l.length lc, .slice ma m.length mc] w fun e w' => CaughtB (holdsE st l m d) e ∧ Below w.heap.size w w' := by
  rw [← holdsP_eq]
  have hb1 : Below w.heap.size w (w.alloc (.cells (cdV d a c a' c') 34)) := (Below.refl _ _).alloc (Nat.le_refl _) _
  have hx1 : CBox (w.alloc (.cells (cdV d a c a' c') 34)) w.heap.size d a c a' c' := heap_alloc_new _ _
  obtain ⟨w1, hw1⟩ : ∃ w1, w1 = w.alloc (.cells (cdV d a c a' c') 34) := ⟨_, rfl⟩
  rw [← hw1] at hb1 hx1
  have HW := hide hw1
  have HB1 := hide hb1
  have HHas := hide (rhas_any d a c a' c' w1)
  have HEA : Hid (∀ W, Below w1.heap.size w1 W → Calls Tryz.prog 13 #[.agg (exV d.A a c), sv st, .slice la l.length lc, .slice ma m.length mc] W fun e w' => CaughtF (evalE st l m d.A) e ∧ Below W.heap.size W w') := hide (fun W hW => by
    have h := hb1.trans (hW.mono hb1.size)
    exact rEval_any st l m la lc ma mc d.A a c W (hA.grown h) (hl.below h (Nat.le_refl _)) (hm.below h (Nat.le_refl _)) hst hfs hfg (hva.below h (Nat.le_refl _)))
  have HEB : Hid (∀ W, Below w1.heap.size w1 W → Calls Tryz.prog 13 #[.agg (exV d.B a' c'), sv st, .slice la l.length lc, .slice ma m.length mc] W fun e w' => CaughtF (evalE st l m d.B) e ∧ Below W.heap.size W w') := hide (fun W hW => by
    have h := hb1.trans (hW.mono hb1.size)
    exact rEval_any st l m la lc ma mc d.B a' c' W (hB.grown h) (hl.below h (Nat.le_refl _)) (hm.below h (Nat.le_refl _)) hst hfs hfg (hva.below h (Nat.le_refl _)))
  have HGl : Hid (∀ W, Below w1.heap.size w1 W → Calls Tryz.prog 43 #[.slice la l.length lc, sv d.A.s] W fun e w' => e = .returned (.tuple #[.agg (fv (getA l d.A.s)), .bool (hasF l d.A.s)]) ∧ Below W.heap.size W w') := hide (fun W hW => rGet_any la l.length lc l d.A.s W (hl.below (hb1.trans (hW.mono hb1.size)) (Nat.le_refl _)))
  have HGm : Hid (∀ W, Below w1.heap.size w1 W → Calls Tryz.prog 43 #[.slice ma m.length mc, sv d.A.s] W fun e w' => e = .returned (.tuple #[.agg (fv (getA m d.A.s)), .bool (hasF m d.A.s)]) ∧ Below W.heap.size W w') := hide (fun W hW => rGet_any ma m.length mc m d.A.s W (hm.below (hb1.trans (hW.mono hb1.size)) (Nat.le_refl _)))
  have HCe : Hid (∀ W, Below w1.heap.size w1 W → (W.cell? ⟨w.heap.size, 0, none⟩ = some (.int .i64 d.kind) ∧ W.cell? ⟨w.heap.size, 1, none⟩ = some (.bool d.neg)) ∧ (W.cell? ⟨w.heap.size, 2, none⟩ = some (.int .i64 d.A.kind) ∧ W.cell? ⟨w.heap.size, 3, none⟩ = some (.int .i64 d.A.n) ∧ W.cell? ⟨w.heap.size, 4, none⟩ = some (sv d.A.s) ∧ W.cell? ⟨w.heap.size, 5, none⟩ = some (.slice a d.A.args.length c)) ∧ (W.cell? ⟨w.heap.size, 6, none⟩ = some (.int .i64 d.B.kind) ∧ W.cell? ⟨w.heap.size, 7, none⟩ = some (.int .i64 d.B.n) ∧ W.cell? ⟨w.heap.size, 8, none⟩ = some (sv d.B.s) ∧ W.cell? ⟨w.heap.size, 9, none⟩ = some (.slice a' d.B.args.length c'))) := hide (fun W hW => (hx1.below hW (Nat.le_refl _)).cells)
  have HZA : Hid (∀ e, evalE st l m d.A = .error e → e ≠ 0) := hide (fun e h => evalE_err h)
  have HZB : Hid (∀ e, evalE st l m d.B = .error e → e ≠ 0) := hide (fun e h => evalE_err h)
  obtain ⟨R, hR⟩ : ∃ R, R = holdsP st l m d := ⟨_, rfl⟩
  rw [← hR]
  have HR := hide hR
  obtain ⟨XA, hXA⟩ : ∃ XA, XA = evalE st l m d.A := ⟨_, rfl⟩
  obtain ⟨XB, hXB⟩ : ∃ XB, XB = evalE st l m d.B := ⟨_, rfl⟩
  have HX := hide (And.intro hXA hXB)
  rw [← hXA] at HEA HZA
  rw [← hXB] at HEB HZB
  clear hR hw1 hb1 hx1 hA hB hl hm hva hst hfs hfg hXA hXB
  obtain ⟨⟨k0, k1⟩, ⟨x0, x1, x2, x3⟩, y0, y1, y2, y3⟩ := unhide HCe w1 (Below.refl _ _)
  obtain ⟨P, hP⟩ : ∃ P, P = hasP d := ⟨_, rfl⟩
  have HP := hide hP
  rw [← hP] at HHas
  clear hP
  have hargs : cdV d a c a' c' = #[.int .i64 d.kind, .bool d.neg, .int .i64 d.A.kind, .int .i64 d.A.n, sv d.A.s, .slice a d.A.args.length c, .int .i64 d.B.kind, .int .i64 d.B.n, sv d.B.s, .slice a' d.B.args.length c'] := rfl
  rw [hargs] at HHas ⊢
  clear hargs
  obtain ⟨p, hp⟩ : ∃ p, p = w.heap.size := ⟨_, rfl⟩
  have HPw := hide hp
  rw [← hp] at k0 k1 x0 x1 x2 x3 y0 y1 y2 y3 HCe
  clear hp
  go_enter Tryz.func15, Tryz.ntmps15
  go_upto_region 1 with fail
  rw [show w.alloc (.cells #[Value.int IntKind.i64 d.kind, .bool d.neg, .int .i64 d.A.kind, .int .i64 d.A.n, sv d.A.s, .slice a d.A.args.length c, .int .i64 d.B.kind, .int .i64 d.B.n, sv d.B.s, .slice a' d.B.args.length c'] 34) = w1 from (unhide HW).symm]
  rw [← unhide HPw]
  cases P with
  | false =>
    have HRe : Hid (R = .error 132) := hide (by rw [unhide HR]; unfold holdsP; rw [if_pos (unhide HP).symm])
    go_wp2_with (go_at_call 33; refine (unhide HHas).mono ?_; rintro e w2 ⟨rfl, b2⟩; have HB2 := hide ((unhide HB1).trans (b2.mono (unhide HB1).size)); clear b2)
    go_ret2
    exact ⟨by rw [unhide HRe]; rfl, unhide HB2⟩
  | true =>
    go_upto_region 4 with (go_at_call 33; refine (unhide HHas).mono ?_; rintro e w2 ⟨rfl, b2⟩; have HB2 := hide b2; clear b2)
    clear k0 k1 x0 x1 x2 x3 y0 y1 y2 y3
    obtain ⟨⟨k0, k1⟩, ⟨x0, x1, x2, x3⟩, y0, y1, y2, y3⟩ := unhide HCe w2 (unhide HB2)
    have HPt : Hid (¬ hasP d = false) := hide (by rw [← unhide HP]; simp)
    by_cases h4 : d.kind = 4
    · have HA34 : d.A.kind = 3 ∨ d.A.kind = 4 := by
        have := unhide HP
        unfold hasP at this
        rw [if_pos h4] at this
        have := this.symm
        simpa using this
      have HRe : Hid (R = .ok (hasF (if d.A.kind = 4 then m else l) d.A.s != d.neg)) := hide (by rw [unhide HR]; unfold holdsP; rw [if_neg (unhide HPt), if_pos h4])
      rw [h4] at k0
      have HGl2 := hide (unhide HGl w2 (unhide HB2))
      have HGm2 := hide (unhide HGm w2 (unhide HB2))
      rcases HA34 with hA | hA
      · have HRe2 : Hid (R = .ok (hasF l d.A.s != d.neg)) := hide (by rw [unhide HRe, if_neg (by omega)])
        rw [hA] at x0
        obtain ⟨T, hT⟩ : ∃ T, T = hasF l d.A.s := ⟨_, rfl⟩
        obtain ⟨⟨fn, ft, fi, fz⟩, hG⟩ : ∃ G, G = getA l d.A.s := ⟨_, rfl⟩
        rw [← hT] at HRe2
        rw [← hT, ← hG] at HGl2
        clear hA hG hT h4 HGm2
        go_upto_region 9 with (go_at_call 43; refine (unhide HGl2).mono ?_; rintro e w3 ⟨rfl, b3⟩; have HB3 := hide ((unhide HB2).trans (b3.mono (unhide HB2).size)); clear b3)
        have hb4 : Below w1.heap.size w1 (w3.alloc (.cells (fv ⟨fn, ft, fi, fz⟩) 37)) := (unhide HB3).alloc (unhide HB3).size _
        have kk1 := (unhide HCe _ hb4).1.2
        have HE := hide ((unhide HB1).trans (hb4.mono (unhide HB1).size))
        clear k0 k1 x0 x1 x2 x3 y0 y1 y2 y3 hb4
        go_wp2_with fail
        go_ret2
        exact ⟨by rw [unhide HRe2]; rfl, unhide HE⟩
      · have HRe2 : Hid (R = .ok (hasF m d.A.s != d.neg)) := hide (by rw [unhide HRe, if_pos hA])
        rw [hA] at x0
        obtain ⟨T, hT⟩ : ∃ T, T = hasF m d.A.s := ⟨_, rfl⟩
        obtain ⟨⟨fn, ft, fi, fz⟩, hG⟩ : ∃ G, G = getA m d.A.s := ⟨_, rfl⟩
        rw [← hT] at HRe2
        rw [← hT, ← hG] at HGm2
        clear hA hG hT h4 HGl2
        go_upto_region 9 with (go_at_call 43; refine (unhide HGm2).mono ?_; rintro e w3 ⟨rfl, b3⟩; have HB3 := hide ((unhide HB2).trans (b3.mono (unhide HB2).size)); clear b3)
        have hb4 : Below w1.heap.size w1 (w3.alloc (.cells (fv ⟨fn, ft, fi, fz⟩) 37)) := (unhide HB3).alloc (unhide HB3).size _
        have kk1 := (unhide HCe _ hb4).1.2
        have HE := hide ((unhide HB1).trans (hb4.mono (unhide HB1).size))
        clear k0 k1 x0 x1 x2 x3 y0 y1 y2 y3 hb4
        go_wp2_with fail
        go_ret2
        exact ⟨by rw [unhide HRe2]; rfl, unhide HE⟩
    · have hkk : d.kind = 1 ∨ d.kind = 2 ∨ d.kind = 3 := by
        have := unhide HP
        unfold hasP at this
        rw [if_neg h4] at this
        have := this.symm
        simp only [Bool.or_eq_true, decide_eq_true_eq] at this
        omega
      have HRe : Hid (R = tailP d.kind d.neg XA XB) := hide (by rw [unhide HR]; unfold holdsP; rw [if_neg (unhide HPt), if_neg h4, (unhide HX).1, (unhide HX).2])
      obtain ⟨K, hK⟩ : ∃ K, K = d.kind := ⟨_, rfl⟩
      rw [← hK] at HRe k0 HCe hkk
      have k4 : (K == 4) = false := beq_eq_false_iff_ne.2 (by omega)
      clear hK h4
      obtain ⟨F, hF⟩ : ∃ F, F = valO XA := ⟨_, rfl⟩
      obtain ⟨N, hN⟩ : ∃ N, N = errO XA := ⟨_, rfl⟩
      have HFN := hide (And.intro hF hN)
      have HCA : Hid (Calls Tryz.prog 13 #[.agg (exV d.A a c), sv st, .slice la l.length lc, .slice ma m.length mc] w2 fun e w' => (e = .returned (.tuple #[.agg (fv F), .int .i64 N]) ∧ small F) ∧ Below w2.heap.size w2 w') := hide ((unhide HEA w2 (unhide HB2)).mono fun e w' h => ⟨by rw [hF, hN]; exact caught_two h.1, h.2⟩)
      clear hF hN HEA
      obtain ⟨fn, ft, fi, fz⟩ := F
      go_upto_region 11 with (go_at_call 13; refine (unhide HCA).mono ?_; rintro e w3 ⟨⟨rfl, hsm⟩, b3⟩; have HB3 := hide ((unhide HB2).trans (b3.mono (unhide HB2).size)); clear b3 hsm)
      have hb4 : Below w1.heap.size w1 (w3.alloc (.cells (fv ⟨fn, ft, fi, fz⟩) 37)) := (unhide HB3).alloc (unhide HB3).size _
      have hf4 := FBox.new w3 ⟨fn, ft, fi, fz⟩
      obtain ⟨w4, hw4⟩ : ∃ w4, w4 = w3.alloc (.cells (fv ⟨fn, ft, fi, fz⟩) 37) := ⟨_, rfl⟩
      rw [show w3.alloc (.cells #[Value.string ⟨fn.toArray⟩, .bool ft, .int .i64 fi, .string ⟨fz.toArray⟩] 37) = w4 from hw4.symm]
      rw [← hw4] at hb4 hf4
      obtain ⟨q, hq⟩ : ∃ q, q = w3.heap.size := ⟨_, rfl⟩
      rw [← hq] at hf4 ⊢
      have HB4 := hide hb4
      have HF4 := hide hf4
      clear k0 k1 x0 x1 x2 x3 y0 y1 y2 y3 hb4 hf4 hw4 hq HCA
      by_cases hNz : N = 0
      · subst hNz
        have hXA : XA = .ok ⟨fn, ft, fi, fz⟩ := by
          have := errO_ok (unhide HFN).2.symm (unhide HZA)
          rw [this, ← (unhide HFN).1]
        obtain ⟨G, hG⟩ : ∃ G, G = valO XB := ⟨_, rfl⟩
        obtain ⟨M, hM⟩ : ∃ M, M = errO XB := ⟨_, rfl⟩
        have HGM := hide (And.intro hG hM)
        have HCB : Hid (Calls Tryz.prog 13 #[.agg (exV d.B a' c'), sv st, .slice la l.length lc, .slice ma m.length mc] w4 fun e w' => (e = .returned (.tuple #[.agg (fv G), .int .i64 M]) ∧ small G) ∧ Below w4.heap.size w4 w') := hide ((unhide HEB w4 (unhide HB4)).mono fun e w' h => ⟨by rw [hG, hM]; exact caught_two h.1, h.2⟩)
        have HXA := hide hXA
        clear hG hM hXA HEB
        obtain ⟨gn, gt, gi, gz⟩ := G
        obtain ⟨⟨k0, k1⟩, -, y0, y1, y2, y3⟩ := unhide HCe w4 (unhide HB4)
        go_upto_region 14 with (go_at_call 13; refine (unhide HCB).mono ?_; rintro e w5 ⟨⟨rfl, hsm⟩, b5⟩; have HB5 := hide ((unhide HB4).trans (b5.mono (unhide HB4).size)); have HF5 := hide ((unhide HF4).below b5 (Nat.le_refl _)); clear b5 hsm)
        have hb6 : Below w1.heap.size w1 (w5.alloc (.cells (fv ⟨gn, gt, gi, gz⟩) 37)) := (unhide HB5).alloc (unhide HB5).size _
        have hg6 := FBox.new w5 ⟨gn, gt, gi, gz⟩
        have hf6 := (unhide HF5).below (show Below w5.heap.size w5 (w5.alloc (.cells (fv ⟨gn, gt, gi, gz⟩) 37)) from (Below.refl _ _).alloc (Nat.le_refl _) _) (Nat.le_refl _)
        obtain ⟨w6, hw6⟩ : ∃ w6, w6 = w5.alloc (.cells (fv ⟨gn, gt, gi, gz⟩) 37) := ⟨_, rfl⟩
        rw [show w5.alloc (.cells #[Value.string ⟨gn.toArray⟩, .bool gt, .int .i64 gi, .string ⟨gz.toArray⟩] 37) = w6 from hw6.symm]
        rw [← hw6] at hb6 hg6 hf6
        obtain ⟨q2, hq2⟩ : ∃ q2, q2 = w5.heap.size := ⟨_, rfl⟩
        rw [← hq2] at hg6 ⊢
        have HB6 := hide hb6
        have HE6 := hide ((unhide HB1).trans (hb6.mono (unhide HB1).size))
        clear k0 k1 y0 y1 y2 y3 hw6 hq2 HCB
        by_cases hMz : M = 0
        · subst hMz
          have hXB : XB = .ok ⟨gn, gt, gi, gz⟩ := by
            have := errO_ok (unhide HGM).2.symm (unhide HZB)
            rw [this, ← (unhide HGM).1]
          have HR3 := unhide HRe
          rw [unhide HXA, hXB] at HR3
          simp only [tailP] at HR3
          have HR4 := hide HR3
          clear HR3 HRe hXB
          obtain ⟨⟨k0, k1⟩, -, -⟩ := unhide HCe w6 hb6
          obtain ⟨f0, f1, f2, f3, -⟩ := hf6.cells
          obtain ⟨g0, g1, g2, g3, -⟩ := hg6.cells
          simp only at f0 f1 f2 f3 g0 g1 g2 g3
          by_cases h1 : K = 1
          · subst h1
            have HRk : Hid (R = .ok (decide ((⟨fn, ft, fi, fz⟩ : Fld) = ⟨gn, gt, gi, gz⟩) != d.neg)) := hide (by rw [unhide HR4, if_pos rfl])
            clear hf6 hg6 hb6
            have HBq := hide (fun n => below_drewN (unhide HE6) n)
            have k1n : ∀ n, (w6.drewN n).cell? ⟨p, 1, none⟩ = some (.bool d.neg) := fun _ => k1
            have f0n : ∀ n, (w6.drewN n).cell? ⟨q, 0, none⟩ = some (sv fn) := fun _ => f0
            have f1n : ∀ n, (w6.drewN n).cell? ⟨q, 1, none⟩ = some (.bool ft) := fun _ => f1
            have f2n : ∀ n, (w6.drewN n).cell? ⟨q, 2, none⟩ = some (.int .i64 fi) := fun _ => f2
            have f3n : ∀ n, (w6.drewN n).cell? ⟨q, 3, none⟩ = some (sv fz) := fun _ => f3
            have g0n : ∀ n, (w6.drewN n).cell? ⟨q2, 0, none⟩ = some (sv gn) := fun _ => g0
            have g1n : ∀ n, (w6.drewN n).cell? ⟨q2, 1, none⟩ = some (.bool gt) := fun _ => g1
            have g2n : ∀ n, (w6.drewN n).cell? ⟨q2, 2, none⟩ = some (.int .i64 gi) := fun _ => g2
            have g3n : ∀ n, (w6.drewN n).cell? ⟨q2, 3, none⟩ = some (sv gz) := fun _ => g3
            clear k1 f0 f1 f2 f3 g0 g1 g2 g3 HCe HR4
            go_upto_region 17 with fail
            by_cases e0 : fn = gn
            · subst e0
              by_cases e1 : ft = gt
              · subst e1
                by_cases e2 : fi = gi
                · subst e2
                  by_cases e3 : fz = gz
                  · subst e3
                    have HRz : Hid (R = .ok (!d.neg)) := hide (by rw [unhide HRk]; cases d.neg <;> simp)
                    go_quiet (fail)
                    go_wp2_with fail
                    go_ret2
                    exact ⟨by rw [unhide HRz]; rfl, unhide HBq _⟩
                  · have HRz : Hid (R = .ok d.neg) := hide (by rw [unhide HRk]; cases d.neg <;> simp [e3])
                    go_quiet (fail)
                    go_wp2_with fail
                    go_ret2
                    exact ⟨by rw [unhide HRz]; rfl, unhide HBq _⟩
                · have HRz : Hid (R = .ok d.neg) := hide (by rw [unhide HRk]; cases d.neg <;> simp [e2])
                  go_quiet (fail)
                  go_wp2_with fail
                  go_ret2
                  exact ⟨by rw [unhide HRz]; rfl, unhide HBq _⟩
              · have HRz : Hid (R = .ok d.neg) := hide (by rw [unhide HRk]; cases d.neg <;> simp [e1])
                go_quiet (fail)
                go_wp2_with fail
                go_ret2
                exact ⟨by rw [unhide HRz]; rfl, unhide HBq _⟩
            · have HRz : Hid (R = .ok d.neg) := hide (by rw [unhide HRk]; cases d.neg <;> simp [e0])
              go_quiet (fail)
              go_wp2_with fail
              go_ret2
              exact ⟨by rw [unhide HRz]; rfl, unhide HBq _⟩
          · have k1' : (K == 1) = false := beq_eq_false_iff_ne.2 h1
            by_cases ht : ft = gt
            · subst ht
              by_cases h2 : K = 2
              · subst h2
                have HRk : Hid (R = .ok (lessP ⟨fn, ft, fi, fz⟩ ⟨gn, ft, gi, gz⟩ != d.neg)) := hide (by rw [unhide HR4, if_neg (by decide), if_neg (by simp), if_pos rfl])
                go_upto_region 21 with fail
                have HT := hide (fun W => rless_any ⟨fn, ft, fi, fz⟩ ⟨gn, ft, gi, gz⟩ W)
                obtain ⟨LL, hLL⟩ : ∃ LL, LL = lessP ⟨fn, ft, fi, fz⟩ ⟨gn, ft, gi, gz⟩ := ⟨_, rfl⟩
                rw [← hLL] at HT HRk
                have HSV : Hid (∀ V, Below w6.heap.size w6 V → V.cell? ⟨p, 1, none⟩ = some (.bool d.neg) ∧ V.cell? ⟨q, 0, none⟩ = some (sv fn) ∧ V.cell? ⟨q, 1, none⟩ = some (.bool ft) ∧ V.cell? ⟨q, 2, none⟩ = some (.int .i64 fi) ∧ V.cell? ⟨q, 3, none⟩ = some (sv fz) ∧ V.cell? ⟨q2, 0, none⟩ = some (sv gn) ∧ V.cell? ⟨q2, 1, none⟩ = some (.bool ft) ∧ V.cell? ⟨q2, 2, none⟩ = some (.int .i64 gi) ∧ V.cell? ⟨q2, 3, none⟩ = some (sv gz)) := hide (fun V hV => ⟨kept hV k1, kept hV f0, kept hV f1, kept hV f2, kept hV f3, kept hV g0, kept hV g1, kept hV g2, kept hV g3⟩)
                have bD : Below w6.heap.size w6 w6.drew := (Below.refl _ _).drew
                have S0 := hide (unhide HSV _ (Below.refl _ _))
                have SD := hide (unhide HSV _ bD)
                have BD := hide bD
                have HTD := hide (unhide HT w6.drew)
                clear k1 f0 f1 f2 f3 g0 g1 g2 g3 HCe HR4 hLL HT bD hf6 hg6 hb6
                go_region_held3 (fun V => V.cell? ⟨p, 1, none⟩ = some (.bool d.neg) ∧ V.cell? ⟨q, 0, none⟩ = some (sv fn) ∧ V.cell? ⟨q, 1, none⟩ = some (.bool ft) ∧ V.cell? ⟨q, 2, none⟩ = some (.int .i64 fi) ∧ V.cell? ⟨q, 3, none⟩ = some (sv fz) ∧ V.cell? ⟨q2, 0, none⟩ = some (sv gn) ∧ V.cell? ⟨q2, 1, none⟩ = some (.bool ft) ∧ V.cell? ⟨q2, 2, none⟩ = some (.int .i64 gi) ∧ V.cell? ⟨q2, 3, none⟩ = some (sv gz))
                  (first | with_reducible exact unhide S0 | with_reducible exact unhide SD | with_reducible exact unhide S7)
                  ((go_at_call 44; refine (unhide HTD).mono ?_; rintro e w7 ⟨rfl, b7⟩; have b67 := (unhide BD).trans (b7.mono (unhide BD).size); have S7 := hide (unhide HSV w7 b67); have HE7 := hide ((unhide HE6).trans (b67.mono (unhide HE6).size)); clear b7 b67))
                all_goals
                  go_wp2_with fail
                  go_ret2
                  exact ⟨by rw [unhide HRk]; rfl, unhide HE7⟩
              · have k2' : (K == 2) = false := beq_eq_false_iff_ne.2 h2
                have HRk : Hid (R = .ok (lessP ⟨gn, ft, gi, gz⟩ ⟨fn, ft, fi, fz⟩ == d.neg)) := hide (by rw [unhide HR4, if_neg h1, if_neg (by simp), if_neg h2])
                clear h1 h2 hkk
                go_upto_region 22 with fail
                have HT := hide (fun W => rless_any ⟨gn, ft, gi, gz⟩ ⟨fn, ft, fi, fz⟩ W)
                obtain ⟨LL, hLL⟩ : ∃ LL, LL = lessP ⟨gn, ft, gi, gz⟩ ⟨fn, ft, fi, fz⟩ := ⟨_, rfl⟩
                rw [← hLL] at HT HRk
                have HSV : Hid (∀ V, Below w6.heap.size w6 V → V.cell? ⟨p, 1, none⟩ = some (.bool d.neg) ∧ V.cell? ⟨q, 0, none⟩ = some (sv fn) ∧ V.cell? ⟨q, 1, none⟩ = some (.bool ft) ∧ V.cell? ⟨q, 2, none⟩ = some (.int .i64 fi) ∧ V.cell? ⟨q, 3, none⟩ = some (sv fz) ∧ V.cell? ⟨q2, 0, none⟩ = some (sv gn) ∧ V.cell? ⟨q2, 1, none⟩ = some (.bool ft) ∧ V.cell? ⟨q2, 2, none⟩ = some (.int .i64 gi) ∧ V.cell? ⟨q2, 3, none⟩ = some (sv gz)) := hide (fun V hV => ⟨kept hV k1, kept hV f0, kept hV f1, kept hV f2, kept hV f3, kept hV g0, kept hV g1, kept hV g2, kept hV g3⟩)
                have bD : Below w6.heap.size w6 w6.drew := (Below.refl _ _).drew
                have S0 := hide (unhide HSV _ (Below.refl _ _))
                have SD := hide (unhide HSV _ bD)
                have BD := hide bD
                have HTD := hide (unhide HT w6.drew)
                clear k1 f0 f1 f2 f3 g0 g1 g2 g3 HCe HR4 hLL HT bD hf6 hg6 hb6
                go_region_held3 (fun V => V.cell? ⟨p, 1, none⟩ = some (.bool d.neg) ∧ V.cell? ⟨q, 0, none⟩ = some (sv fn) ∧ V.cell? ⟨q, 1, none⟩ = some (.bool ft) ∧ V.cell? ⟨q, 2, none⟩ = some (.int .i64 fi) ∧ V.cell? ⟨q, 3, none⟩ = some (sv fz) ∧ V.cell? ⟨q2, 0, none⟩ = some (sv gn) ∧ V.cell? ⟨q2, 1, none⟩ = some (.bool ft) ∧ V.cell? ⟨q2, 2, none⟩ = some (.int .i64 gi) ∧ V.cell? ⟨q2, 3, none⟩ = some (sv gz))
                  (first | with_reducible exact unhide S0 | with_reducible exact unhide SD | with_reducible exact unhide S7)
                  ((go_at_call 44; refine (unhide HTD).mono ?_; rintro e w7 ⟨rfl, b7⟩; have b67 := (unhide BD).trans (b7.mono (unhide BD).size); have S7 := hide (unhide HSV w7 b67); have HE7 := hide ((unhide HE6).trans (b67.mono (unhide HE6).size)); clear b7 b67))
                all_goals
                  go_wp2_with fail
                  go_ret2
                  exact ⟨by rw [unhide HRk]; rfl, unhide HE7⟩
            · have HRk : Hid (R = .error 134) := hide (by rw [unhide HR4, if_neg h1]; simp [ht])
              clear h1 hf6 hg6 hb6 HR4 HCe
              cases ft <;> cases gt
              · exact absurd rfl ht
              · clear ht
                go_wp2_with fail
                go_ret2
                exact ⟨by rw [unhide HRk]; rfl, unhide HE6⟩
              · clear ht
                go_wp2_with fail
                go_ret2
                exact ⟨by rw [unhide HRk]; rfl, unhide HE6⟩
              · exact absurd rfl ht
        · have hMb : (M != 0) = true := by simpa using hMz
          have HRk : Hid (R = .error M) := hide (by
            have h := errO_no (R := XB) (by rw [← (unhide HGM).2]; exact hMz)
            rw [unhide HRe, unhide HXA, h, ← (unhide HGM).2]; rfl)
          clear hMz hf6 hg6 hb6
          go_wp2_with fail
          go_ret2
          exact ⟨by rw [unhide HRk]; rfl, unhide HE6⟩
      · have hNb : (N != 0) = true := by simpa using hNz
        have HRk : Hid (R = .error N) := hide (by
          have h := errO_no (R := XA) (by rw [← (unhide HFN).2]; exact hNz)
          rw [unhide HRe, h, ← (unhide HFN).2]; rfl)
        have HE4 := hide ((unhide HB1).trans ((unhide HB4).mono (unhide HB1).size))
        clear hNz
        go_wp2_with fail
        go_ret2
        exact ⟨by rw [unhide HRk]; rfl, unhide HE4⟩
end Go.Proofs.YtclllkbljaomoaaGreatDoor

namespace Go.Proofs.YtclllkbljaomoaaGreatDoor
open Go.RowKit
set_option linter.unusedVariables false

/-- A sum of an Assign: by the value and the error, plain. -/
theorem setR_two (st : List UInt8) (l m cur : List Fld) (nm : List UInt8) (x : Ex) : setR st l m cur ⟨nm, x⟩ = if errO (evalE st l m x) = 0 ∧ (setF cur ⟨nm, (valO (evalE st l m x)).text, (valO (evalE st l m x)).n, (valO (evalE st l m x)).s⟩).length ≤ 16 then setF cur ⟨nm, (valO (evalE st l m x)).text, (valO (evalE st l m x)).n, (valO (evalE st l m x)).s⟩ else cur := by
  cases h : evalE st l m x with
  | error n =>
    have hn := evalE_err h
    unfold setR
    simp only [h]
    rw [if_neg (fun q => hn q.1)]
  | ok f =>
    unfold setR
    simp only [h]
    by_cases h16 : (setF cur ⟨nm, f.text, f.n, f.s⟩).length ≤ 16
    · rw [if_pos h16, if_pos ⟨rfl, h16⟩]; rfl
    · rw [if_neg h16, if_neg (fun q => h16 q.2)]

theorem fold_none {vs : List Evo} {t : List UInt8} (h : ∀ v ∈ vs, v.type ≠ t) (st : List UInt8) (l m : List Fld) : foldR vs st l t m = l := by
  unfold foldR
  rw [List.find?_eq_none.2 (fun v hv => by simpa using h v hv)]
theorem fold_some {vs : List Evo} {t : List UInt8} {k : Nat} {v : Evo} (h : ∀ j, j < k → ∀ u, vs[j]? = some u → u.type ≠ t) (hk : vs[k]? = some v) (hv : v.type = t) (st : List UInt8) (l m : List Fld) : foldR vs st l t m = v.drops.foldl dropF (v.sets.foldl (setR st l m) l) := by
  obtain ⟨hl, rfl⟩ := List.getElem?_eq_some_iff.1 hk
  unfold foldR
  rw [List.find?_eq_some_iff_getElem.2 ⟨by simpa using hv, k, hl, rfl, fun j hj => by simpa using h j hj _ (List.getElem?_eq_getElem (by omega))⟩]

/-- What the statement 'f, e := Eval(..)' leaves. -/
theorem evlr_parts {w0 W : World} {F : Fld} {N : Int} {t6 t7 : Value} (h : EvlR w0 F N t6 t7 W) : ∃ q, t6 = .pointer (some ⟨q, 0, none⟩) ∧ t7 = .int .i64 N ∧ FBox W q F ∧ Below w0.heap.size w0 W ∧ w0.heap.size ≤ q := h

set_option maxRecDepth 20000 in
set_option maxHeartbeats 16000000 in
theorem rFold_any (ha : Option Addr) (hn hc : Nat) (va : Option Addr) (vn vc : Nat) (vs : List Evo) (st : List UInt8) (la : Option Addr) (lc : Nat) (l : List Fld) (t : List UInt8) (ver : Int) (ma : Option Addr) (mc : Nat) (m : List Fld) (w : World)
    (hv : SlOf 3 EvoAt w (.slice va vn vc) vs) (hl : FdN w la lc l) (hl16 : (l.length + 1) * 48 ≤ 140737488355328) (hm : FdL w (.slice ma m.length mc) m) (hst : st.length ≤ 140737488355328) (hfs : ∀ f ∈ l, small f) (hfg : ∀ f ∈ m, small f) (hva : Vars w) :
    Calls Tryz.prog 21 #[.agg (rulV ha hn hc va vn vc), sv st, .slice la l.length lc, .agg (evtV t ver ma m.length mc)] w fun e w' => ∃ v, e = .returned v ∧ FOwn w' w.heap.size v (foldR vs st l t m) ∧ Below w.heap.size w w' := by
  obtain ⟨rfl, hl1, hl2⟩ := hv.len
  have hb1 : Below w.heap.size w (w.alloc (.cells (rulV ha hn hc va vs.length vc) 26)) := (Below.refl _ _).alloc (Nat.le_refl _) _
  have hb2 : Below w.heap.size w ((w.alloc (.cells (rulV ha hn hc va vs.length vc) 26)).alloc (.cells (evtV t ver ma m.length mc) 50)) := hb1.alloc hb1.size _
  have hR2 : ((w.alloc (.cells (rulV ha hn hc va vs.length vc) 26)).alloc (.cells (evtV t ver ma m.length mc) 50)).heap[w.heap.size]? = some (.cells (rulV ha hn hc va vs.length vc) 26 (0, 0)) := by
    have h1 : (w.alloc (.cells (rulV ha hn hc va vs.length vc) 26)).heap[w.heap.size]? = some (.cells (rulV ha hn hc va vs.length vc) 26 (0, 0)) := heap_alloc_new _ _
    have h2 : Below (w.alloc (.cells (rulV ha hn hc va vs.length vc) 26)).heap.size (w.alloc (.cells (rulV ha hn hc va vs.length vc) 26)) ((w.alloc (.cells (rulV ha hn hc va vs.length vc) 26)).alloc (.cells (evtV t ver ma m.length mc) 50)) := (Below.refl _ _).alloc (Nat.le_refl _) _
    exact (h2.block _ (lt_of_block h1)).trans h1
  have hE2 : ((w.alloc (.cells (rulV ha hn hc va vs.length vc) 26)).alloc (.cells (evtV t ver ma m.length mc) 50)).heap[w.heap.size + 1]? = some (.cells (evtV t ver ma m.length mc) 50 (0, 0)) := by
    have := heap_alloc_new (w.alloc (.cells (rulV ha hn hc va vs.length vc) 26)) (.cells (evtV t ver ma m.length mc) 50 (0, 0))
    rw [show (w.alloc (.cells (rulV ha hn hc va vs.length vc) 26)).heap.size = w.heap.size + 1 by simp] at this
    exact this
  obtain ⟨w2, hw2⟩ : ∃ w2, w2 = (w.alloc (.cells (rulV ha hn hc va vs.length vc) 26)).alloc (.cells (evtV t ver ma m.length mc) 50) := ⟨_, rfl⟩
  rw [← hw2] at hb2 hR2 hE2
  have HW := hide hw2
  have HB2 := hide hb2
  obtain ⟨B, hB⟩ : ∃ B, B = w.heap.size := ⟨_, rfl⟩
  rw [← hB] at hR2 hE2
  have HBe := hide hB
  have HR : Hid (∀ W, Below w2.heap.size w2 W → W.cell? ⟨B, 1, none⟩ = some (.slice va vs.length vc)) := hide (fun W hW => kept hW ((cell_of_row _ _ _ _ _ _ hR2).trans rfl))
  have HE : Hid (∀ W, Below w2.heap.size w2 W → W.cell? ⟨B + 1, 0, none⟩ = some (sv t) ∧ W.cell? ⟨B + 1, 2, none⟩ = some (.slice ma m.length mc)) := hide (fun W hW => ⟨kept hW ((cell_of_row _ _ _ _ _ _ hE2).trans rfl), kept hW ((cell_of_row _ _ _ _ _ _ hE2).trans rfl)⟩)
  have HVk : Hid (∀ (k : Nat) (v : Evo), vs[k]? = some v → ∃ b off, va = some ⟨b, off, none⟩ ∧ ∀ W, Below w2.heap.size w2 W → EvoAt W b (off + k * 3) v) := hide (fun k v hk => by
    obtain ⟨b, off, e, _, hat⟩ := hv.at hk
    exact ⟨b, off, e, fun W hW => hat.grown (hb2.trans (hW.mono hb2.size))⟩)
  have HL2 := hide (fun W (hW : Below w2.heap.size w2 W) => hl.below (hb2.trans (hW.mono hb2.size)) (Nat.le_refl _))
  have HEv : Hid (∀ (W : World) (x : Ex) (a : Option Addr) (c : Nat), Below w2.heap.size w2 W → ExAt W x a c → Calls Tryz.prog 13 #[.agg (exV x a c), sv st, .slice la l.length lc, .slice ma m.length mc] W fun e w' => CaughtF (evalE st l m x) e ∧ Below W.heap.size W w') := hide (fun W x a c hW hx =>
    have h0 := hb2.trans (hW.mono hb2.size)
    rEval_any st l m la lc ma mc x a c W hx (hl.1.below h0 (Nat.le_refl _)) (hm.below h0 (Nat.le_refl _)) hst hfs hfg (hva.below h0 (Nat.le_refl _)))
  obtain ⟨Lm, hLm1, hLm2, hLm3⟩ : ∃ Lm, l.length ≤ Lm ∧ 16 ≤ Lm ∧ (Lm + 1) * 48 ≤ 140737488355328 := ⟨max l.length 16, by omega, by omega, by omega⟩
  have HL16 := hide hLm1
  have HLm := hide (And.intro hLm2 hLm3)
  clear hLm1 hLm2 hLm3
  obtain ⟨NM, hNM⟩ : ∃ NM, NM = m.length := ⟨_, rfl⟩
  obtain ⟨NV, hNV⟩ : ∃ NV, NV = vs.length := ⟨_, rfl⟩
  rw [← hNM] at HEv HE ⊢
  rw [← hNV] at HR hl1 ⊢
  rw [← hNM, ← hNV] at HW
  have HNV := hide hNV
  clear hb1 hb2 hR2 hE2 hw2 hB hv hl hl16 hm hst hfs hfg hva hNM hNV
  obtain ⟨X, hX⟩ : ∃ X, X = foldR vs st l t m := ⟨_, rfl⟩
  rw [← hX]
  have HX := hide hX
  clear hX
  go_enter Tryz.func21, Tryz.ntmps21
  go_upto_region 1 with fail
  rw [show (w.alloc (.cells #[Value.slice ha hn hc, .slice va NV vc] 26)).alloc (.cells #[Value.string ⟨t.toArray⟩, .int .i64 ver, .slice ma NM mc] 50) = w2 from (unhide HW).symm]
  rw [← unhide HBe]
  have hb3 : Below w2.heap.size w2 (w2.alloc (.cells #[] 37)) := (Below.refl _ _).alloc (Nat.le_refl _) _
  have HO0 := hide (fown_empty w2)
  have HV0 := hide (unhide HL2 _ hb3)
  have HB3 := hide hb3
  clear hb3
  go_upto_region 2 with (at_builtin; refine wpList_append_flds rfl (.tmp 17) (.tmp 18) rfl w2.heap.size _ [] rfl (unhide HO0) la lc l rfl (unhide HV0) (by have := unhide HL16; have := unhide HLm; simp; omega) (unhide HB3).size ?_; intro v3 w3 own3 b3; have HF3 : Hid (FoSt Lm w2 w3 v3 l) := hide ⟨(unhide HB3).trans b3, by simpa using own3, unhide HL16⟩; clear own3 b3)
  obtain ⟨va3, vc3, rfl, -⟩ := (unhide HF3).own.fdn
  clear HO0 HV0 HB3
  go_wp2_with fail
  go_loopw [9, 10, 11, 12, 13, 14, 15, 16] (fun v9 i _ _ _ _ _ _ wr => ∃ (k : Nat), k ≤ NV ∧ i = .int .i64 k ∧ Hid (∀ j, j < k → ∀ u, vs[j]? = some u → u.type ≠ t) ∧ Hid (FoSt Lm w2 wr v9 l)) (fun _ i _ _ _ _ _ _ _ => NV - (intOf i).toNat)
  case atStart => exact ⟨0, by omega, rfl, hide (fun j hj => absurd hj (by omega)), HF3⟩
  case round =>
    clear HF3
    obtain ⟨k, hk, rfl, HNo, HF⟩ := hrel
    obtain ⟨ca1, cc1, rfl, -⟩ := (unhide HF).own.fdn
    have r1 := unhide HR wr (unhide HF).bel
    have r1n : ∀ n, (wr.drewN n).cell? ⟨B, 1, none⟩ = some (.slice va NV vc) := fun n => unhide HR _ (below_drewN (unhide HF).bel n)
    have q0n : ∀ n, (wr.drewN n).cell? ⟨B + 1, 0, none⟩ = some (sv t) := fun n => (unhide HE _ (below_drewN (unhide HF).bel n)).1
    by_cases hlt : k < NV
    · obtain ⟨⟨tp, sets, drops⟩, hv⟩ : ∃ v, vs[k]? = some v := ⟨_, List.getElem?_eq_getElem (by have := unhide HNV; omega)⟩
      obtain ⟨b, off, rfl, hat⟩ := unhide HVk k _ hv
      have HAt := hide hat
      have d0n : ∀ n, (wr.drewN n).cell? ⟨b, off + k * 3, none⟩ = some (sv tp) := fun n => (hat _ (below_drewN (unhide HF).bel n)).1
      have hki : (k : Int) < (NV : Int) := by omega
      have hk0 : ¬ (k : Int) < 0 := by omega
      clear hat
      by_cases htp : tp = t
      · subst htp
        have HXe := hide ((unhide HX).trans (fold_some (unhide HNo) hv rfl st l m))
        simp only at HXe
        clear hv HNo
        obtain ⟨-, ⟨sa, sc, d1w, hs⟩, da, dc, d2w, hd⟩ := unhide HAt w2 (Below.refl _ _)
        simp only at d1w d2w hs hd
        have d1 := kept (unhide HF).bel d1w
        have HS := hide hs
        have HD := hide hd
        have hsl := hs.len.2
        have hdl := hd.len.2
        obtain ⟨M, hM⟩ : ∃ M, M = sets.length := ⟨_, rfl⟩
        obtain ⟨Q, hQ⟩ : ∃ Q, Q = drops.length := ⟨_, rfl⟩
        rw [← hM] at d1 hsl HS
        rw [← hQ] at d2w hdl HD
        have HM := hide hM
        have HQ := hide hQ
        have HD2 := hide d2w
        clear hs hd hM hQ d1w d2w
        go_upto_region 5 with fail
        go_quiet (fail)
        have HFd := hide (fun n => (unhide HF).grown (below_drewN (Below.refl _ _) n))
        clear q0n d0n
        go_wp2_with fail
        clear r1 r1n d1
        go_loopw [9, 12, 13, 14, 15] (fun v9 i _ _ _ wq => ∃ (j : Nat) (cur : List Fld), j ≤ M ∧ i = .int .i64 j ∧ Hid (cur = (sets.take j).foldl (setR st l m) l) ∧ Hid (FoSt Lm w2 wq v9 cur)) (fun _ i _ _ _ _ => M - (intOf i).toNat)
        case atStart => exact ⟨0, l, by omega, rfl, hide rfl, hide (unhide HFd _)⟩
        case round =>
          clear HFd
          obtain ⟨j, cur, hj, rfl, HCu, HG⟩ := hrel
          obtain ⟨ca2, cc2, rfl, -⟩ := (unhide HG).own.fdn
          rename World => W1
          by_cases hlj : j < M
          · obtain ⟨⟨nm, x⟩, hsj⟩ : ∃ a, sets[j]? = some a := ⟨_, List.getElem?_eq_getElem (by have := unhide HM; omega)⟩
            have HTk := hide (take_snocA hsj st l m l)
            rw [← unhide HCu] at HTk
            obtain ⟨sb, soff, rfl, -, hat0⟩ := (unhide HS).at hsj
            obtain ⟨e0, e1, e2, e3, xa, xc, e4, hx⟩ := hat0
            simp only at e0 e1 e2 e3 e4 hx
            have HXA := hide hx
            have HSV : Hid (∀ V, Below W1.heap.size W1 V → V.cell? ⟨sb, soff + j * 5 + 1, none⟩ = some (.int .i64 x.kind) ∧ V.cell? ⟨sb, soff + j * 5 + 2, none⟩ = some (.int .i64 x.n) ∧ V.cell? ⟨sb, soff + j * 5 + 3, none⟩ = some (sv x.s) ∧ V.cell? ⟨sb, soff + j * 5 + 4, none⟩ = some (.slice xa x.args.length xc) ∧ V.cell? ⟨B + 1, 2, none⟩ = some (.slice ma NM mc)) := hide (fun V hV => by
              have hV2 := (unhide HG).bel.trans (hV.mono (unhide HG).bel.size)
              exact ⟨kept hV2 e1, kept hV2 e2, kept hV2 e3, kept hV2 e4, (unhide HE V hV2).2⟩)
            have HN0 : Hid (∀ V, Below w2.heap.size w2 V → V.cell? ⟨sb, soff + j * 5, none⟩ = some (sv nm)) := hide (fun V hV => kept hV e0)
            have HCT : Hid (∀ V, Below W1.heap.size W1 V → Calls Tryz.prog 13 #[.agg (exV x xa xc), sv st, .slice la l.length lc, .slice ma NM mc] V fun e w' => CaughtF (evalE st l m x) e ∧ Below V.heap.size V w') := hide (fun V hV => by
              have hV2 := (unhide HG).bel.trans (hV.mono (unhide HG).bel.size)
              exact unhide HEv V x xa xc hV2 ((unhide HXA).grown hV2))
            have HSR := hide (setR_two st l m cur nm x)
            obtain ⟨RX, hRX⟩ : ∃ RX, RX = evalE st l m x := ⟨_, rfl⟩
            rw [← hRX] at HCT HSR
            obtain ⟨F, hF⟩ : ∃ F, F = valO RX := ⟨_, rfl⟩
            obtain ⟨N, hN⟩ : ∃ N, N = errO RX := ⟨_, rfl⟩
            rw [← hF, ← hN] at HSR
            have HC2 : Hid (∀ V, Below W1.heap.size W1 V → Calls Tryz.prog 13 #[.agg (exV x xa xc), sv st, .slice la l.length lc, .slice ma NM mc] V fun e w' => e = .returned (.tuple #[.agg (fv F), .int .i64 N]) ∧ Below V.heap.size V w') := hide (fun V hV => (unhide HCT V hV).mono fun e w' q => ⟨by rw [hF, hN]; exact (caught_two q.1).1, q.2⟩)
            have R0 : Hid (Below W1.heap.size W1 W1.drew) := hide (Below.refl _ _).drew
            have RA : Hid (Below W1.heap.size W1 (W1.alloc (.cells (fv fld0) 37)).drew) := hide (((Below.refl _ _).alloc (Nat.le_refl _) _).drew)
            have S0 := hide (unhide HSV _ (unhide R0))
            have SA := hide (unhide HSV _ (unhide RA))
            have SB := hide (unhide HSV _ (Below.refl _ _))
            have C0 := hide (unhide HC2 _ (unhide R0))
            have CA := hide (unhide HC2 _ (unhide RA))
            have FA : Hid (FBox (W1.alloc (.cells (fv fld0) 37)).drew W1.heap.size fld0) := hide (FBox.new W1 fld0)
            have hji : (j : Int) < (M : Int) := by omega
            have hj0 : ¬ (j : Int) < 0 := by omega
            clear hx hsj e0 e1 e2 e3 e4 HCT hF hN hRX HC2 HEv HL2
            go_upto_region 10 with fail
            go_cut [13, 14] from 42 to 77 (fun t6 t7 W => EvlR W1 F N t6 t7 W)
            case first =>
              obtain ⟨fn, ft, fi, fz⟩ := F
              clear HSR HTk
              go_region_held3 (fun V => V.cell? ⟨sb, soff + j * 5 + 1, none⟩ = some (.int .i64 x.kind) ∧ V.cell? ⟨sb, soff + j * 5 + 2, none⟩ = some (.int .i64 x.n) ∧ V.cell? ⟨sb, soff + j * 5 + 3, none⟩ = some (sv x.s) ∧ V.cell? ⟨sb, soff + j * 5 + 4, none⟩ = some (.slice xa x.args.length xc) ∧ V.cell? ⟨B + 1, 2, none⟩ = some (.slice ma NM mc))
                (first | with_reducible exact unhide SB | with_reducible exact unhide S0 | with_reducible exact unhide SA | (refine unhide HSV _ ?_; first | with_reducible exact unhide B6 | with_reducible exact (unhide B6).alloc (unhide B6).size _ | exact below_put (unhide B6) (Nat.le_refl _) _ _ _ _))
                ((go_at_call 13; (first
                  | ((with_reducible refine (unhide C0).mono ?_); rintro e w6 ⟨rfl, b6⟩; have B6 := hide ((unhide R0).trans (b6.mono (unhide R0).size)); clear b6)
                  | ((with_reducible refine (unhide CA).mono ?_); rintro e w6 ⟨rfl, b6⟩; have F6 := hide ((unhide FA).below b6 (Nat.le_refl _)); have B6 := hide ((unhide RA).trans (b6.mono (unhide RA).size)); obtain ⟨m0, m1, m2, m3, m4⟩ := (unhide F6).cells; clear b6))))
              all_goals
                rename_i hh
                clear hh
                try clear m0 m1 m2 m3 m4
                go_wp2
                go_meet
                first
                  | exact EvlR.new (F := ⟨fn, ft, fi, fz⟩) (unhide B6)
                  | exact EvlR.put (F := ⟨fn, ft, fi, fz⟩) (unhide B6) (Nat.le_refl _) (unhide F6)
            case rest =>
              obtain ⟨q, rfl, rfl, hfb, hbel, hqg⟩ := hcut
              rename World => W6
              have HG6 := hide ((unhide HG).grown hbel)
              obtain ⟨fn, ft, fi, fz⟩ := F
              simp only at HSR
              obtain ⟨f0, f1, f2, f3, ff⟩ := hfb.cells
              simp only at f0 f1 f2 f3
              have n0 := unhide HN0 W6 (unhide HG6).bel
              have hf7 := hfb.put0 nm
              have hb7 : Below W1.heap.size W1 (W6.setCell ⟨q, 0, none⟩ (sv nm)) := hbel.setCell (show W1.heap.size ≤ q from hqg) _
              obtain ⟨w7, hw7⟩ : ∃ w7, w7 = W6.setCell ⟨q, 0, none⟩ (sv nm) := ⟨_, rfl⟩
              rw [← hw7] at hf7 hb7
              have HG7 := hide ((unhide HG).grown hb7)
              have HW7 := hide hw7
              have HY7 := hide hf7
              clear hfb hbel hqg hf7 hb7 hw7 HG6 R0 RA S0 SA SB C0 CA FA HSV
              go_upto_region 12 with fail
              rw [show W6.setCell ⟨q, 0, none⟩ (.string ⟨nm.toArray⟩) = w7 from (unhide HW7).symm]
              clear f0 f1 f2 f3 ff n0
              obtain ⟨f0, f1, f2, f3, ff⟩ := (unhide HY7).cells
              simp only at f0 f1 f2 f3
              obtain ⟨ca4, cc4, hcv, hfn⟩ := (unhide HG7).own.fdn
              cases hcv
              have HSt := hide (rSet_any ca2 cc2 cur ⟨nm, ft, fi, fz⟩ w7 hfn (by have := (unhide HG7).len; have := unhide HLm; omega))
              obtain ⟨K, hK⟩ : ∃ K, K = (setF cur ⟨nm, ft, fi, fz⟩).length := ⟨_, rfl⟩
              have HK := hide hK
              rw [← hK] at HSR
              clear hfn hK
              by_cases hN0 : N = 0
              · subst hN0
                by_cases h16 : K ≤ 16
                · have HNy := hide ((unhide HTk).trans ((unhide HSR).trans (if_pos ⟨rfl, h16⟩))).symm
                  have h16' : ((K : Int) ≤ 16) := by omega
                  go_upto_region 13 with (go_at_call 57; refine (unhide HSt).mono ?_; rintro e w10 ⟨v10, rfl, o10, b10⟩; have HG10 := hide ((unhide HG7).put b10 o10 (by rw [← unhide HK]; have := unhide HLm; omega)); obtain ⟨ca3, cc3, rfl, -⟩ := o10.fdn; rw [← unhide HK]; clear b10 o10)
                  clear h16
                  rw [← unhide HK] at HG10
                  go_wp2_with fail
                  go_roundw
                  case rel => exact ⟨j + 1, _, by omega, by go_num, HNy, HG10⟩
                  case measure => simp [intOf]; omega
                · have HNy := hide ((unhide HTk).trans ((unhide HSR).trans (if_neg (fun z => h16 z.2)))).symm
                  have h16' : decide ((K : Int) ≤ 16) = false := by simp; omega
                  go_upto_region 13 with (go_at_call 57; refine (unhide HSt).mono ?_; rintro e w10 ⟨v10, rfl, o10, b10⟩; have HG10 := hide ((unhide HG7).grown b10); obtain ⟨ca3, cc3, rfl, -⟩ := o10.fdn; rw [← unhide HK]; clear b10 o10)
                  clear h16
                  go_wp2_with fail
                  go_roundw
                  case rel => exact ⟨j + 1, cur, by omega, by go_num, HNy, HG10⟩
                  case measure => simp [intOf]; omega
              · have HNy := hide ((unhide HTk).trans ((unhide HSR).trans (if_neg (fun z => hN0 z.1)))).symm
                have hN1 : (N == 0) = false := by simpa using hN0
                go_upto_region 13 with (go_at_call 57; refine (unhide HSt).mono ?_; rintro e w10 ⟨v10, rfl, o10, b10⟩; have HG10 := hide ((unhide HG7).grown b10); obtain ⟨ca3, cc3, rfl, -⟩ := o10.fdn; rw [← unhide HK]; clear b10 o10)
                clear hN0
                go_wp2_with fail
                go_roundw
                case rel => exact ⟨j + 1, cur, by omega, by go_num, HNy, HG10⟩
                case measure => simp [intOf]; omega
          · have HCm : Hid (cur = sets.foldl (setR st l m) l) := hide (by rw [unhide HCu, List.take_of_length_le (by have := unhide HM; omega)])
            go_wp2_with fail
            go_loopw [9, 16] (fun v9 i wq => ∃ (i2 : Nat) (cur2 : List Fld), i2 ≤ Q ∧ i = .int .i64 i2 ∧ Hid (cur2 = (drops.take i2).foldl dropF cur) ∧ Hid (FoSt Lm w2 wq v9 cur2)) (fun _ i _ => Q - (intOf i).toNat)
            case atStart => exact ⟨0, cur, by omega, rfl, hide rfl, HG⟩
            case round =>
              obtain ⟨i2, cur2, hi2, rfl, HC2, HH⟩ := hrel
              rename World => W2
              obtain ⟨ca3, cc3, rfl, hfn⟩ := (unhide HH).own.fdn
              have r1 := unhide HR W2 (unhide HH).bel
              have d2 := kept (unhide HH).bel (unhide HD2)
              by_cases hlt2 : i2 < Q
              · obtain ⟨nm, hdi⟩ : ∃ a, drops[i2]? = some a := ⟨_, List.getElem?_eq_getElem (by have := unhide HQ; omega)⟩
                have HTk := hide (take_snocD hdi cur)
                rw [← unhide HC2] at HTk
                obtain ⟨sb, soff, rfl, -, e0⟩ := ((unhide HD).grown (fun _ _ _ _ _ => StAt.grown) (unhide HH).bel).at hdi
                unfold StAt at e0
                rw [Nat.mul_one] at e0
                have HSt := hide (rDrop_any ca3 cc3 cur2 nm W2 hfn (by have := (unhide HH).len; have := unhide HLm; omega))
                have hi2i : (i2 : Int) < (Q : Int) := by omega
                clear hdi hfn
                go_wp2_with (go_at_call 58; refine (unhide HSt).mono ?_; rintro e w10 ⟨v10, rfl, o10, b10⟩; have HF10 := hide ((unhide HH).put b10 o10 (by have := dropF_le cur2 nm; have := (unhide HH).len; omega)); obtain ⟨ca5, cc5, rfl, -⟩ := o10.fdn; clear b10 o10)
                go_roundw
                case rel => exact ⟨i2 + 1, _, by omega, by go_num, hide (unhide HTk).symm, HF10⟩
                case measure => simp [intOf]; omega
              · have HXf : Hid (X = cur2) := hide (by rw [unhide HXe, unhide HC2, List.take_of_length_le (by have := unhide HQ; omega), unhide HCm])
                go_wp2_with fail
                go_ret
                rw [unhide HXf]
                exact fo_end rfl (unhide HB2) (unhide HH)
      · have hne1 : (tp == t) = false := by simpa using htp
        have HNo2 : Hid (∀ j, j < k + 1 → ∀ u, vs[j]? = some u → u.type ≠ t) := hide (fun j hj u hu => by
          by_cases hjk : j = k
          · subst hjk
            rw [hv] at hu
            cases hu
            exact htp
          · exact unhide HNo j (by omega) u hu)
        have HF2 := hide (fun n => (unhide HF).grown (below_drewN (Below.refl _ _) n))
        clear hv
        go_upto_region 5 with fail
        go_quiet (fail)
        go_wp2_with fail
        go_roundw
        case rel => exact ⟨k + 1, by omega, by go_num, HNo2, hide (unhide HF2 _)⟩
        case measure => simp [intOf]; omega
    · have HXe : Hid (X = l) := hide ((unhide HX).trans (fold_none (fun v hv => by
        obtain ⟨j, hj⟩ := List.mem_iff_getElem?.1 hv
        have := (List.getElem?_eq_some_iff.1 hj).1
        exact unhide HNo j (by have := unhide HNV; omega) v hj) st l m))
      go_wp2_with fail
      go_ret
      rw [unhide HXe]
      exact fo_end rfl (unhide HB2) (unhide HF)
end Go.Proofs.YtclllkbljaomoaaGreatDoor
