/-
  DERIVED. The walks of eval and of caught's deferred closure.
-/
import Derived.Test.YtingpmgpjmlioaaGreatDoorRuV
import Derived.Defers
import Derived.Recover
namespace Go.Proofs.YtingpmgpjmlioaaGreatDoor
open Go.RowKit
set_option linter.unusedVariables false

/-- An expression's value, whatever its form. -/
def evalA (S : Sc) (x : Ex) : Except Int Fld := if formX x then evalX S x else .error 132

set_option maxRecDepth 20000 in
set_option maxHeartbeats 2000000 in
theorem eval_any (S : Sc) (x : Ex) (a : Option Addr) (c : Nat) (w : World) (hat : ExAt w x a c) (hS : S.at w) (hva : Vars w) : Calls Tryz.prog 40 #[.agg (scv S), .agg (exV x a c)] w (EndsF w (evalA S x)) := by
  have hvb := VB.new w S x a c
  obtain ⟨w3, hw3⟩ : ∃ w3, w3 = ((w.alloc (.cells (scv S) 82)).alloc (.cells (exV x a c) 44)).alloc (.cells (fv fld0) 48) := ⟨_, rfl⟩
  rw [← hw3] at hvb
  have HW3 := hide hw3
  have HVB := hide hvb
  have hat3 := hat.grown hvb.bel
  have HAT := hide hat3
  have HSA := hide (hS.grown hvb.bel)
  have HVA := hide (hva.below hvb.bel (Nat.le_refl _))
  have HWF := hide (wellFormed_any ⟨x, a, c⟩ w3 hat3)
  have HC : Hid (∀ W, Below w3.heap.size w3 W → formX x = true → Calls Tryz.prog 82 #[.agg (scv S), .agg (exV x a c)] W (EndsF W (evalX S x))) := hide (fun W hW hf => value_any S _ x a c W (Nat.le_refl _) ((unhide HAT).grown hW) (formed_of hf) ((unhide HSA).grown hW) ((unhide HVA).below hW (Nat.le_refl _)))
  obtain ⟨p, hp⟩ : ∃ p, p = w.heap.size := ⟨_, rfl⟩
  obtain ⟨q, hq⟩ : ∃ q, q = w.heap.size + 1 := ⟨_, rfl⟩
  obtain ⟨r, hr⟩ : ∃ r, r = w.heap.size + 1 + 1 := ⟨_, rfl⟩
  have HPQ := hide (And.intro hp (And.intro hq hr))
  rw [← hr, ← hq, ← hp] at HVB
  have HE : Hid (evalA S x = if formX x then evalX S x else .error 132) := hide rfl
  obtain ⟨R, hR⟩ : ∃ R, R = evalX S x := ⟨_, rfl⟩
  rw [← hR] at HE HC
  obtain ⟨FX, hFX⟩ : ∃ FX, FX = formX x := ⟨_, rfl⟩
  simp only at HWF
  rw [← hFX] at HE HC HWF
  clear hat hat3 hS hva hvb hw3 hp hq hr hR hFX
  obtain ⟨S', hS'⟩ : ∃ S', S' = S := ⟨_, rfl⟩
  have HSS := hide hS'
  obtain ⟨st, sl, gl, sa, sc, ga, gc, mp⟩ := S
  go_enter Tryz.func40, Tryz.ntmps40
  go_upto_region 1 with fail
  rw [show ((w.alloc (.cells #[sv st, .slice sa sl.length sc, .slice ga gl.length gc, .map (some mp)] 82)).alloc (.cells #[Value.int IntKind.i64 x.kind, .int .i64 x.n, sv x.s, .slice a x.args.length c] 44)).alloc (.cells #[Value.string ⟨#[]⟩, .bool false, .int .i64 0, Value.string ⟨#[]⟩] 48) = w3 from (unhide HW3).symm]
  rw [← (unhide HPQ).2.2, ← (unhide HPQ).2.1, ← (unhide HPQ).1]
  clear hS'
  obtain ⟨x0, x1, x2, x3, xf⟩ := (unhide HVB).xb.cells
  cases FX with
  | false =>
    go_wp2_with (go_at_call 66; refine (unhide HWF).mono ?_; rintro e w4 ⟨rfl, b4⟩; have BE := hide ((unhide HVB).bel.trans (b4.mono (unhide HVB).bel.size)); clear b4)
    refine ⟨rfl, ?_⟩
    rw [unhide HE]
    exact ⟨rfl, unhide BE⟩
  | true =>
    go_wp2_with fail
    refine (unhide HWF).mono ?_
    rintro e w4 ⟨rfl, b4⟩
    have B4 := hide b4
    have HV4 := hide ((unhide HVB).grown b4)
    have HC4 := hide (unhide HC w4 b4 trivial)
    clear x0 x1 x2 x3 xf b4 HC
    obtain ⟨x0, x1, x2, x3, xf⟩ := (unhide HV4).xb.cells
    obtain ⟨s0, s1, s2, s3, sf⟩ := (unhide HV4).sb.cells
    have HFB := hide (unhide HV4).fb
    have HBE := hide (unhide HV4).bel
    have HGE := hide (unhide HV4).ge
    have hgw : w.heap.size ≤ w4.heap.size := (unhide HBE).size
    cases R with
    | error n =>
      go_wp2_with (go_at_call 82; refine (unhide HC4).mono ?_; rintro e w5 ⟨rfl, b5⟩; have BE := hide ((unhide HBE).trans (b5.mono hgw)); clear b5)
      refine ⟨rfl, ?_⟩
      rw [unhide HE]
      exact ⟨rfl, unhide BE⟩
    | ok f =>
      obtain ⟨fn, ft, fi, fz⟩ := f
      go_wp2_with (go_at_call 82; refine (unhide HC4).mono ?_; rintro e w6 ⟨⟨rfl, hsf⟩, b6⟩; have HSF := hide hsf; have hf6 := (unhide HFB).below b6 (Nat.le_refl _); obtain ⟨r0, r1, r2, r3, rf⟩ := hf6.cells; have HE2 := hide (hf6.put fn ft fi fz); have BE := hide (below_put ((unhide HBE).trans (b6.mono hgw)) (unhide HGE) fn ft fi fz); clear b6 hf6 hsf)
      refine bodyPost_ret (results_cell_row rfl _ _ r 48 (fv ⟨fn, ft, fi, fz⟩) (0, 0) _ rfl (unhide HE2) Tryz.underlying48 rfl sizeField) rfl ?_
      rw [unhide HE]
      exact ⟨⟨rfl, unhide HSF⟩, unhide BE⟩

theorem assert_errno (n : Int) (w : World) : (Instr.typeAssert (.iface 27 (.int .i64 n)) 20 27 true).run Tryz.prog w = .ok (.tuple #[.int .i64 n, .bool true]) w := by kernel_rfl
theorem assert_nil (w : World) : (Instr.typeAssert .nilIface 20 27 true).run Tryz.prog w = .ok (.tuple #[.int .i64 0, .bool false]) w := by kernel_rfl

set_option maxRecDepth 20000 in
theorem catchF_panicking (p : Addr) (x n : Int) (older : List PanicEntry) (w : World) (hc : w.cell? p = some (.int .i64 x)) (hz : w.frozen? p = false) :
    CallsD Tryz.prog 81 #[.pointer (some p)] (.panicking ({ v := .iface 27 (.int .i64 n), recovered := false } :: older)) w fun e u' w' =>
      e = .returned (.tuple #[]) ∧ u' = .panicking ({ v := .iface 27 (.int .i64 n), recovered := true } :: older) ∧ w' = w.setCell p (.int .i64 n) := by
  refine callsD_of_wpS Tryz.func81 rfl fun c₀ cs hu => ?_
  apply wpS_seq
  apply wpS_region
  simp [wpOpsS, go_sem, assert_errno, recoverD, hu, Tryz.ntmps81, Exit.thenS]
  apply wpS_seq
  apply wpS_region
  simp [wpOpsS, go_sem, Exit.thenS]
  refine wpS_cond (t := true) (by simp [Act.eval, Array.replicate]) ?_
  simp only [if_true]
  apply wpS_region
  simp [wpOpsS, go_sem, hc, hz, bodyPostS, results, Tryz.results81]

set_option maxRecDepth 20000 in
theorem catchF_idle (p : Addr) (w : World) :
    CallsD Tryz.prog 81 #[.pointer (some p)] .returning w fun e u' w' => e = .returned (.tuple #[]) ∧ u' = .returning ∧ w' = w := by
  refine callsD_of_wpS Tryz.func81 rfl fun c₀ cs hu => ?_
  apply wpS_seq
  apply wpS_region
  simp [wpOpsS, go_sem, assert_nil, recoverD, hu, Tryz.ntmps81, Exit.thenS]
  apply wpS_seq
  apply wpS_region
  simp [wpOpsS, go_sem, Exit.thenS]
  refine wpS_cond (t := false) (by simp [Act.eval, Array.replicate]) ?_
  simp only [Bool.false_eq_true, if_false]
  refine wpS_of_wp (wp_skip ?_)
  cases c₀
  simp_all [bodyPostS, results, Tryz.results81]

/-- A row's cell and a cell as results. -/
theorem results_cc {P : Program} {fn : Func} {p u : Tmp} {ty ty2 : TypeId} (h : fn.results = #[.cell p ty, .cell u ty2]) (tmps : Array Value) (w : World) (g g2 : Nat) (t : TypeId) (cs : Array Value) (fr : Nat × Nat) (d : TypeDesc) {x : Value}
    (hp : tmps.getD p undef = .pointer (some ⟨g, 0, none⟩)) (hx : tmps.getD u undef = .pointer (some ⟨g2, 0, none⟩)) (hg : w.heap[g]? = some (.cells cs t fr))
    (hu : P.underlying ty = some d) (hd : (match d with | .struct _ | .array _ _ => true | _ => false) = true) (hi : (P.info? ty).map (·.size) = some cs.size)
    (hl : (loadVar ty2 ⟨g2, 0, none⟩).run P w = .ok x w) :
    (results fn tmps).run P w = .ok (.tuple #[.agg cs, x]) w := by
  have hp' : tmps[p]?.getD undef = .pointer (some ⟨g, 0, none⟩) := by rw [← hp]; simp
  have hx' : tmps[u]?.getD undef = .pointer (some ⟨g2, 0, none⟩) := by rw [← hx]; simp
  simp only [results, h]
  simp [Sem.run_bind, Result.andThen, hp', hx', asAddr, run_loadVar_row w g t ty cs fr d hg hu hd hi, hl]
theorem load_errno (w : World) (g : Nat) (n : Int) (h : w.cell? ⟨g, 0, none⟩ = some (.int .i64 n)) : (loadVar 27 ⟨g, 0, none⟩).run Tryz.prog w = .ok (.int .i64 n) w := by
  simp [loadVar, go_sem, h]

/-- What caught answers. -/
def CaughtF (R : Except Int Fld) (e : Ending) : Prop := match R with
  | .ok f => e = .returned (.tuple #[.agg (fv f), .int .i64 0]) ∧ small f
  | .error n => e = .returned (.tuple #[.agg (fv fld0), .int .i64 n])

set_option maxRecDepth 20000 in
set_option maxHeartbeats 2000000 in
theorem caughtF_any (p1 p2 : Addr) (R : Except Int Fld) (w : World) (hc : ∀ W, Below w.heap.size w W → Calls Tryz.prog 39 #[.pointer (some p1), .pointer (some p2)] W (EndsF W R)) :
    Calls Tryz.prog 38 #[.func (.func 39) #[] #[.pointer (some p1), .pointer (some p2)]] w fun e w' => CaughtF R e ∧ Below w.heap.size w w' := by
  have hmf : ∀ (fn : Fn) (first cap : Array Value) (w : World), (Instr.makeFunc fn first cap).run Tryz.prog w = .ok (.func fn first cap) w := fun _ _ _ _ => rfl
  have hb2 : Below w.heap.size w ((w.alloc (.cells (fv fld0) 48)).alloc (.cells #[.int .i64 0] 27)) := ((Below.refl _ _).alloc (Nat.le_refl _) _).alloc (by simp) _
  have HC := hide (hc _ hb2)
  have hf2 : FBox ((w.alloc (.cells (fv fld0) 48)).alloc (.cells #[.int .i64 0] 27)) w.heap.size fld0 := (FBox.new w fld0).below ((Below.refl _ _).alloc (Nat.le_refl _) _) (Nat.le_refl _)
  have hq2 : ((w.alloc (.cells (fv fld0) 48)).alloc (.cells #[.int .i64 0] 27)).cell? ⟨w.heap.size + 1, 0, none⟩ = some (.int .i64 0) ∧ ((w.alloc (.cells (fv fld0) 48)).alloc (.cells #[.int .i64 0] 27)).frozen? ⟨w.heap.size + 1, 0, none⟩ = false := by simp [go_sem]
  have HQ := hide hq2
  have HB2 := hide hb2
  have HF2 := hide hf2
  clear hb2 hf2 hc hq2
  go_enter_defers Tryz.func38, Tryz.ntmps38
  cases R with
  | error n =>
    go_wp2_with (go_at_call 39; refine (unhide HC).mono ?_; rintro e w3 ⟨rfl, b3⟩; have B3 := hide b3; clear b3)
    have b3 := unhide B3
    have hf3 := (unhide HF2).below b3 (Nat.le_refl _)
    have q0 := (b3.cell (p := ⟨w.heap.size + 1, 0, none⟩) (by simp)).trans (unhide HQ).1
    have q1 := (b3.frozen (p := ⟨w.heap.size + 1, 0, none⟩) (by simp)).trans (unhide HQ).2
    refine leaves_cons (f := 81) (args := #[.pointer (some ⟨w.heap.size + 1, 0, none⟩)]) (by simp) (by simp [go_sem]) ?_
    refine (catchF_panicking ⟨w.heap.size + 1, 0, none⟩ 0 n [] w3 q0 q1).mono ?_
    rintro e u' w'' ⟨rfl, rfl, rfl⟩
    have hf4 : FBox (w3.setCell ⟨w.heap.size + 1, 0, none⟩ (.int .i64 n)) w.heap.size fld0 := (heap_setCell_other _ ⟨w.heap.size + 1, 0, none⟩ _ _ (by simp)).trans hf3
    have q4 : (w3.setCell ⟨w.heap.size + 1, 0, none⟩ (.int .i64 n)).cell? ⟨w.heap.size + 1, 0, none⟩ = some (.int .i64 n) := World.cell?_setCell_same _ _ _ q0
    refine ⟨.tuple #[.agg (fv fld0), .int .i64 n], ?_, rfl, ((unhide HB2).trans (b3.mono (unhide HB2).size)).setCell (p := ⟨w.heap.size + 1, 0, none⟩) (by simp) _⟩
    exact results_cc rfl _ _ w.heap.size (w.heap.size + 1) 48 _ (0, 0) _ rfl rfl hf4 Tryz.underlying48 rfl sizeField (load_errno _ _ _ q4)
  | ok f =>
    obtain ⟨fn, ft, fi, fz⟩ := f
    go_wp2_with (go_at_call 39; refine (unhide HC).mono ?_; rintro e w3 ⟨⟨rfl, hsf⟩, b3⟩; have B3 := hide b3; have HSF := hide hsf; have hf3 := (unhide HF2).below b3 (Nat.le_refl _); obtain ⟨r0, r1, r2, r3, rf⟩ := hf3.cells; have q0 := (b3.cell (p := ⟨w.heap.size + 1, 0, none⟩) (by simp)).trans (unhide HQ).1; have q1 := (b3.frozen (p := ⟨w.heap.size + 1, 0, none⟩) (by simp)).trans (unhide HQ).2; clear b3 hsf hf3)
    refine leaves_cons (f := 81) (args := #[.pointer (some ⟨w.heap.size + 1, 0, none⟩)]) (by simp) (by simp [go_sem]) ?_
    refine (catchF_idle ⟨w.heap.size + 1, 0, none⟩ _).mono ?_
    rintro e u' w'' ⟨rfl, rfl, rfl⟩
    have b3 := unhide B3
    have hf3 := ((unhide HF2).below b3 (Nat.le_refl _)).put fn ft fi fz
    refine ⟨.tuple #[.agg (fv ⟨fn, ft, fi, fz⟩), .int .i64 0], ?_, ⟨rfl, unhide HSF⟩, ?_⟩
    · exact results_cc rfl _ _ w.heap.size (w.heap.size + 1) 48 _ (0, 0) _ rfl rfl ((heap_setCell_other _ ⟨w.heap.size + 1, 0, none⟩ _ _ (by simp)).trans hf3) Tryz.underlying48 rfl sizeField (load_errno _ _ _ (World.cell?_setCell_same _ _ _ (u := .int .i64 0) (by simp [World.cell?_setCell_far, q0])))
    · exact (below_put ((unhide HB2).trans (b3.mono (unhide HB2).size)) (Nat.le_refl _) fn ft fi fz).setCell (p := ⟨w.heap.size + 1, 0, none⟩) (by simp) _
end Go.Proofs.YtingpmgpjmlioaaGreatDoor

namespace Go.Proofs.YtingpmgpjmlioaaGreatDoor
open Go.RowKit
set_option linter.unusedVariables false

set_option maxRecDepth 20000 in
set_option maxHeartbeats 2000000 in
theorem evalC1_any (p q : Nat) (S : Sc) (x : Ex) (a : Option Addr) (c : Nat) (w : World) (hs : SBox w p S) (hx : XBox w q x a c) (hat : ExAt w x a c) (hS : S.at w) (hva : Vars w) :
    Calls Tryz.prog 39 #[.pointer (some ⟨p, 0, none⟩), .pointer (some ⟨q, 0, none⟩)] w (EndsF w (evalA S x)) := by
  have hb1 : Below w.heap.size w (w.alloc (.cells (fv fld0) 48)) := (Below.refl _ _).alloc (Nat.le_refl _) _
  have hf1 := FBox.new w fld0
  have hs1 := hs.below hb1 (Nat.le_refl _)
  have hx1 := hx.below hb1 (Nat.le_refl _)
  have HC := hide (eval_any S x a c _ (hat.grown hb1) (hS.grown hb1) (hva.below hb1 (Nat.le_refl _)))
  obtain ⟨w1, hw1⟩ : ∃ w1, w1 = w.alloc (.cells (fv fld0) 48) := ⟨_, rfl⟩
  rw [← hw1] at hb1 hf1 hs1 hx1 HC
  have HW := hide hw1
  have HB1 := hide hb1
  have HFB := hide hf1
  have hgw : w.heap.size ≤ w1.heap.size := hb1.size
  obtain ⟨s0, s1, s2, s3, sf⟩ := hs1.cells
  obtain ⟨x0, x1, x2, x3, xf⟩ := hx1.cells
  obtain ⟨R, hR⟩ : ∃ R, R = evalA S x := ⟨_, rfl⟩
  rw [← hR] at HC ⊢
  clear hw1 hb1 hf1 hs1 hx1 hs hx hat hS hva hR
  obtain ⟨st, sl, gl, sa, sc, ga, gc, mp⟩ := S
  simp only at s0 s1 s2 s3
  go_enter Tryz.func39, Tryz.ntmps39
  go_upto_region 1 with fail
  rw [show w.alloc (.cells #[Value.string ⟨#[]⟩, .bool false, .int .i64 0, Value.string ⟨#[]⟩] 48) = w1 from (unhide HW).symm]
  cases R with
  | error n =>
    go_wp2_with (go_at_call 40; refine (unhide HC).mono ?_; rintro e w5 ⟨rfl, b5⟩; have BE := hide ((unhide HB1).trans (b5.mono hgw)); clear b5)
    exact ⟨rfl, rfl, unhide BE⟩
  | ok f =>
    obtain ⟨fn, ft, fi, fz⟩ := f
    go_wp2_with (go_at_call 40; refine (unhide HC).mono ?_; rintro e w6 ⟨⟨rfl, hsf⟩, b6⟩; have HSF := hide hsf; have hf6 := (unhide HFB).below b6 (Nat.le_refl _); obtain ⟨r0, r1, r2, r3, rf⟩ := hf6.cells; have HE2 := hide (hf6.put fn ft fi fz); have BE := hide (below_put ((unhide HB1).trans (b6.mono hgw)) (Nat.le_refl _) fn ft fi fz); clear b6 hf6 hsf)
    exact bodyPost_ret (results_cell_row rfl _ _ w.heap.size 48 (fv ⟨fn, ft, fi, fz⟩) (0, 0) _ rfl (unhide HE2) Tryz.underlying48 rfl sizeField) rfl ⟨⟨rfl, unhide HSF⟩, unhide BE⟩

/-- What Eval is. The map of the pairs counts for nothing. -/
def evalE (st : List UInt8) (l m : List Fld) (x : Ex) : Except Int Fld := evalA ⟨st, l, m, none, 0, none, 0, 0⟩ x
theorem opX_same (S T : Sc) (h1 : S.stream = T.stream) (h2 : S.state = T.state) (h3 : S.given = T.given) (k n : Int) (s : List UInt8) (fs : List Fld) : opX S k n s fs = opX T k n s fs := by
  unfold opX
  rw [h1, h2, h3]
theorem evalX_same (S T : Sc) (h1 : S.stream = T.stream) (h2 : S.state = T.state) (h3 : S.given = T.given) : ∀ (n : Nat) (x : Ex), SizeOf.sizeOf x ≤ n → evalX S x = evalX T x := by
  intro n
  induction n with
  | zero => intro x hx; cases x; simp only [Ex.mk.sizeOf_spec] at hx; omega
  | succ n ih =>
    intro x hx
    have hl : ∀ l : List Ex, (∀ y ∈ l, SizeOf.sizeOf y ≤ n) → evalL S l = evalL T l := by
      intro l
      induction l with
      | nil => intro _; rw [evalL, evalL]
      | cons y r ih2 => intro h; rw [evalL_cons, evalL_cons, ih y (h y (by simp)), ih2 fun z hz => h z (by simp [hz])]
    rw [evalX_eq, evalX_eq, hl x.args fun y hy => by have := args_lt hy; omega]
    cases evalL T x.args with
    | error e => rfl
    | ok fs => exact opX_same S T h1 h2 h3 _ _ _ _
theorem evalA_same (st : List UInt8) (l m : List Fld) (la : Option Addr) (lc : Nat) (ma : Option Addr) (mc mp : Nat) (x : Ex) : evalA ⟨st, l, m, la, lc, ma, mc, mp⟩ x = evalE st l m x := by
  unfold evalE evalA
  rw [evalX_same ⟨st, l, m, la, lc, ma, mc, mp⟩ ⟨st, l, m, none, 0, none, 0, 0⟩ rfl rfl rfl _ x (Nat.le_refl _)]

set_option maxRecDepth 20000 in
set_option maxHeartbeats 4000000 in
theorem Eval_any (st : List UInt8) (l m : List Fld) (la : Option Addr) (lc : Nat) (ma : Option Addr) (mc : Nat) (x : Ex) (a : Option Addr) (c : Nat) (w : World) (hat : ExAt w x a c) (hl : FdL w (.slice la l.length lc) l) (hm : FdL w (.slice ma m.length mc) m) (hst : st.length ≤ 140737488355328) (hfs : ∀ f ∈ l, small f) (hfg : ∀ f ∈ m, small f) (hva : Vars w) :
    Calls Tryz.prog 13 #[.agg (exV x a c), sv st, .slice la l.length lc, .slice ma m.length mc] w fun e w' => CaughtF (evalE st l m x) e ∧ Below w.heap.size w w' := by
  have hmf : ∀ (fn : Fn) (first cap : Array Value) (w : World), (Instr.makeFunc fn first cap).run Tryz.prog w = .ok (.func fn first cap) w := fun _ _ _ _ => rfl
  have hb1 : Below w.heap.size w (w.alloc (.cells (exV x a c) 44)) := (Below.refl _ _).alloc (Nat.le_refl _) _
  have hb2 : Below w.heap.size w ((w.alloc (.cells (exV x a c) 44)).alloc (.cells (fv fld0) 48)) := hb1.alloc hb1.size _
  have hx2 : XBox ((w.alloc (.cells (exV x a c) 44)).alloc (.cells (fv fld0) 48)) w.heap.size x a c := by
    have : XBox (w.alloc (.cells (exV x a c) 44)) w.heap.size x a c := heap_alloc_new _ _
    exact this.below ((Below.refl _ _).alloc (Nat.le_refl _) _) (Nat.le_refl _)
  have hf2 : FBox ((w.alloc (.cells (exV x a c) 44)).alloc (.cells (fv fld0) 48)) (w.heap.size + 1) fld0 := by
    have := FBox.new (w.alloc (.cells (exV x a c) 44)) fld0
    rw [show (w.alloc (.cells (exV x a c) 44)).heap.size = w.heap.size + 1 by simp] at this
    exact this
  obtain ⟨w2, hw2⟩ : ∃ w2, w2 = (w.alloc (.cells (exV x a c) 44)).alloc (.cells (fv fld0) 48) := ⟨_, rfl⟩
  rw [← hw2] at hb2 hx2 hf2
  have HW := hide hw2
  have HB2 := hide hb2
  have HX2 := hide hx2
  have HF2 := hide hf2
  have HAT := hide (hat.grown hb2)
  have HL := hide (hl.below hb2 (Nat.le_refl _))
  have HM := hide (hm.below hb2 (Nat.le_refl _))
  have HVA := hide (hva.below hb2 (Nat.le_refl _))
  have HN := hide (newScope_any st l m la lc ma mc w2)
  have HST := hide (And.intro hst (And.intro hfs hfg))
  obtain ⟨R, hR⟩ : ∃ R, R = evalE st l m x := ⟨_, rfl⟩
  rw [← hR]
  have HR := hide hR
  clear hR
  clear hw2 hb1 hb2 hx2 hf2 hat hl hm hva hst hfs hfg
  go_enter Tryz.func13, Tryz.ntmps13
  go_upto_region 1 with fail
  rw [show (w.alloc (.cells #[Value.int IntKind.i64 x.kind, .int .i64 x.n, sv x.s, .slice a x.args.length c] 44)).alloc (.cells #[Value.string ⟨#[]⟩, .bool false, .int .i64 0, Value.string ⟨#[]⟩] 48) = w2 from (unhide HW).symm]
  go_wp2_with fail
  refine (unhide HN).mono ?_
  rintro e w3 ⟨mp, rfl, hpm, b3⟩
  have HPM := hide hpm
  have HB3 := hide b3
  clear hpm b3
  go_upto_region 2 with fail
  have hb4 : Below w3.heap.size w3 (w3.alloc (.cells (scv ⟨st, l, m, la, lc, ma, mc, mp⟩) 82)) := (Below.refl _ _).alloc (Nat.le_refl _) _
  have hs4 := SBox.new w3 ⟨st, l, m, la, lc, ma, mc, mp⟩
  obtain ⟨w4, hw4⟩ : ∃ w4, w4 = w3.alloc (.cells (scv ⟨st, l, m, la, lc, ma, mc, mp⟩) 82) := ⟨_, rfl⟩
  rw [show w3.alloc (.cells #[Value.string ⟨st.toArray⟩, .slice la l.length lc, .slice ma m.length mc, .map (some mp)] 82) = w4 from hw4.symm]
  rw [← hw4] at hb4 hs4
  have b24 := (unhide HB3).trans (hb4.mono (unhide HB3).size)
  have hsat : Sc.at ⟨st, l, m, la, lc, ma, mc, mp⟩ w4 := ⟨(unhide HL).below b24 (Nat.le_refl _), (unhide HM).below b24 (Nat.le_refl _), (unhide HPM).grown hb4, (unhide HST).1, (unhide HST).2.1, (unhide HST).2.2⟩
  have hx4 := (unhide HX2).below b24 (Nat.le_refl _)
  have hat4 := (unhide HAT).grown b24
  have hva4 := (unhide HVA).below b24 (Nat.le_refl _)
  have HC := hide (caughtF_any ⟨w3.heap.size, 0, none⟩ ⟨w.heap.size, 0, none⟩ (evalE st l m x) w4 (fun W hW => by
    rw [← evalA_same st l m la lc ma mc mp x]
    exact evalC1_any _ _ ⟨st, l, m, la, lc, ma, mc, mp⟩ x a c W (hs4.below hW (Nat.le_refl _)) (hx4.below hW (Nat.le_refl _)) (hat4.grown hW) (hsat.grown hW) (hva4.below hW (Nat.le_refl _))))
  have HFB := hide ((unhide HF2).below b24 (Nat.le_refl _))
  have HBE := hide ((unhide HB2).trans (b24.mono (unhide HB2).size))
  have hgw : w.heap.size ≤ w4.heap.size := (unhide HBE).size
  obtain ⟨g3, hg3⟩ : ∃ g3, g3 = w3.heap.size := ⟨_, rfl⟩
  rw [← unhide HR] at HC
  rw [← hg3] at HC ⊢
  clear hb4 hs4 hw4 b24 hsat hx4 hat4 hva4 hg3
  cases R with
  | error n =>
    go_wp2_with (go_at_call 38; refine (unhide HC).mono ?_; rintro e w6 ⟨rfl, b6⟩; have hf6 := (unhide HFB).below b6 (Nat.le_refl _); obtain ⟨r0, r1, r2, r3, rf⟩ := hf6.cells; have HE2 := hide (hf6.put [] false 0 []); have BE := hide (below_put ((unhide HBE).trans (b6.mono hgw)) (Nat.le_succ _) [] false 0 []); clear b6 hf6)
    exact bodyPost_ret (results_ct rfl _ _ (w.heap.size + 1) 48 (fv fld0) (0, 0) _ (.int .i64 n) rfl rfl (unhide HE2) Tryz.underlying48 rfl sizeField) rfl ⟨rfl, unhide BE⟩
  | ok f =>
    obtain ⟨fn, ft, fi, fz⟩ := f
    go_wp2_with (go_at_call 38; refine (unhide HC).mono ?_; rintro e w6 ⟨⟨rfl, hsf⟩, b6⟩; have HSF := hide hsf; have hf6 := (unhide HFB).below b6 (Nat.le_refl _); obtain ⟨r0, r1, r2, r3, rf⟩ := hf6.cells; have HE2 := hide (hf6.put fn ft fi fz); have BE := hide (below_put ((unhide HBE).trans (b6.mono hgw)) (Nat.le_succ _) fn ft fi fz); clear b6 hf6 hsf)
    exact bodyPost_ret (results_ct rfl _ _ (w.heap.size + 1) 48 (fv ⟨fn, ft, fi, fz⟩) (0, 0) _ (.int .i64 0) rfl rfl (unhide HE2) Tryz.underlying48 rfl sizeField) rfl ⟨⟨rfl, unhide HSF⟩, unhide BE⟩
end Go.Proofs.YtingpmgpjmlioaaGreatDoor
