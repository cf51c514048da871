/-
  DERIVED. RulesEvals: any expression has the value, and any condition the answer, that the document says.
-/
import Derived.Test.YtclllkbljaomoaaGreatDoorRuEl
import Derived.Test.YtclllkbljaomoaaGreatDoorRuOd
import Derived.Test.YtclllkbljaomoaaGreatDoorRuTb
import Derived.Test.YtclllkbljaomoaaGreatDoorUpLaid
import Derived.Test.YtclllkbljaomoaaGreatDoorCards
import Derived.Test.YtclllkbljaomoaaGreatDoorTie
import Derived.SevenTiedAt
namespace Go.Proofs.YtclllkbljaomoaaGreatDoor
open Go.ChangeShapes Go.WideShapes Go.ChangeAt Go.RowKit
open Go.ChangeMaps (open_string shut_string)
set_option linter.unusedVariables false

theorem caughtB_two {R : Except Int Bool} {e : Ending} (h : CaughtB R e) : e = .returned (.tuple #[.bool (ansB R), .int .i64 (ansN R)]) := by
  cases R <;> exact h

set_option maxRecDepth 20000 in
set_option maxHeartbeats 8000000 in
theorem RuEvals.walk (d : Cd) (a : Option Addr) (c : Nat) (a' : Option Addr) (c' : Nat) (st : List UInt8) (la : Option Addr) (lc : Nat) (l : List Fld) (ma : Option Addr) (mc : Nat) (m : List Fld) (w : World) (hA : ExAt w d.A a c) (hB : ExAt w d.B a' c') (hst : st.length ≤ 140737488355328) (hl : FdL w (.slice la l.length lc) l) (hfs : ∀ f ∈ l, small f) (hm : FdL w (.slice ma m.length mc) m) (hfg : ∀ f ∈ m, small f) (hva : Vars w) :
    Calls Tryz.prog 5 #[.agg (cdV d a c a' c'), sv st, .slice la l.length lc, .slice ma m.length mc] w fun e w' => e = .returned (.bool true) ∧ Below w.heap.size w w' := by
  have hb1 : Below w.heap.size w (w.alloc (.cells (cdV d a c a' c') 34)) := (Below.refl _ _).alloc (Nat.le_refl _) _
  have hx1 : CBox (w.alloc (.cells (cdV d a c a' c') 34)) w.heap.size d a c a' c' := heap_alloc_new _ _
  obtain ⟨w1, hw1⟩ : ∃ w1, w1 = w.alloc (.cells (cdV d a c a' c') 34) := ⟨_, rfl⟩
  rw [← hw1] at hb1 hx1
  have HW := hide hw1
  have HB1 := hide hb1
  have HE1 : Hid (∀ W, Below w1.heap.size w1 W → Calls Tryz.prog 12 #[.agg (exV d.A a c), sv st, .slice la l.length lc, .slice ma m.length mc] W fun e w' => CaughtF (evalE st l m d.A) e ∧ Below W.heap.size W w') := hide (fun W hW => by
    have h := hb1.trans (hW.mono hb1.size)
    exact Eval_any st l m la lc ma mc d.A a c W (hA.grown h) (hl.below h (Nat.le_refl _)) (hm.below h (Nat.le_refl _)) hst hfs hfg (hva.below h (Nat.le_refl _)))
  have HE2 : Hid (∀ W, Below w1.heap.size w1 W → Calls Tryz.prog 13 #[.agg (exV d.A a c), sv st, .slice la l.length lc, .slice ma m.length mc] W fun e w' => CaughtF (evalE st l m d.A) e ∧ Below W.heap.size W w') := hide (fun W hW => by
    have h := hb1.trans (hW.mono hb1.size)
    exact rEval_any st l m la lc ma mc d.A a c W (hA.grown h) (hl.below h (Nat.le_refl _)) (hm.below h (Nat.le_refl _)) hst hfs hfg (hva.below h (Nat.le_refl _)))
  have HH1 : Hid (∀ W, Below w1.heap.size w1 W → Calls Tryz.prog 14 #[.agg (cdV d a c a' c'), sv st, .slice la l.length lc, .slice ma m.length mc] W fun e w' => CaughtB (holdsE st l m d) e ∧ Below W.heap.size W w') := hide (fun W hW => by
    have h := hb1.trans (hW.mono hb1.size)
    exact Holds_any st l m la lc ma mc d a c a' c' W (hA.grown h) (hB.grown h) (hl.below h (Nat.le_refl _)) (hm.below h (Nat.le_refl _)) hst hfs hfg (hva.below h (Nat.le_refl _)))
  have HH2 : Hid (∀ W, Below w1.heap.size w1 W → Calls Tryz.prog 15 #[.agg (cdV d a c a' c'), sv st, .slice la l.length lc, .slice ma m.length mc] W fun e w' => CaughtB (holdsE st l m d) e ∧ Below W.heap.size W w') := hide (fun W hW => by
    have h := hb1.trans (hW.mono hb1.size)
    exact rHolds_any st l m la lc ma mc d a c a' c' W (hA.grown h) (hB.grown h) (hl.below h (Nat.le_refl _)) (hm.below h (Nat.le_refl _)) hst hfs hfg (hva.below h (Nat.le_refl _)))
  obtain ⟨XA, hXA⟩ : ∃ XA, XA = evalE st l m d.A := ⟨_, rfl⟩
  obtain ⟨XH, hXH⟩ : ∃ XH, XH = holdsE st l m d := ⟨_, rfl⟩
  rw [← hXA] at HE1 HE2
  rw [← hXH] at HH1 HH2
  clear hXA hXH
  obtain ⟨F, hF⟩ : ∃ F, F = valO XA := ⟨_, rfl⟩
  obtain ⟨N, hN⟩ : ∃ N, N = errO XA := ⟨_, rfl⟩
  obtain ⟨T, hT⟩ : ∃ T, T = ansB XH := ⟨_, rfl⟩
  obtain ⟨M, hM⟩ : ∃ M, M = ansN XH := ⟨_, rfl⟩
  have HE1 : Hid (∀ W, Below w1.heap.size w1 W → Calls Tryz.prog 12 #[.agg (exV d.A a c), sv st, .slice la l.length lc, .slice ma m.length mc] W fun e w' => e = .returned (.tuple #[.agg (fv F), .int .i64 N]) ∧ Below W.heap.size W w') := hide (fun W hW => (unhide HE1 W hW).mono fun e w' q => ⟨by rw [hF, hN]; exact (caught_two q.1).1, q.2⟩)
  have HE2 : Hid (∀ W, Below w1.heap.size w1 W → Calls Tryz.prog 13 #[.agg (exV d.A a c), sv st, .slice la l.length lc, .slice ma m.length mc] W fun e w' => e = .returned (.tuple #[.agg (fv F), .int .i64 N]) ∧ Below W.heap.size W w') := hide (fun W hW => (unhide HE2 W hW).mono fun e w' q => ⟨by rw [hF, hN]; exact (caught_two q.1).1, q.2⟩)
  have HH1 : Hid (∀ W, Below w1.heap.size w1 W → Calls Tryz.prog 14 #[.agg (cdV d a c a' c'), sv st, .slice la l.length lc, .slice ma m.length mc] W fun e w' => e = .returned (.tuple #[.bool T, .int .i64 M]) ∧ Below W.heap.size W w') := hide (fun W hW => (unhide HH1 W hW).mono fun e w' q => ⟨by rw [hT, hM]; exact caughtB_two q.1, q.2⟩)
  have HH2 : Hid (∀ W, Below w1.heap.size w1 W → Calls Tryz.prog 15 #[.agg (cdV d a c a' c'), sv st, .slice la l.length lc, .slice ma m.length mc] W fun e w' => e = .returned (.tuple #[.bool T, .int .i64 M]) ∧ Below W.heap.size W w') := hide (fun W hW => (unhide HH2 W hW).mono fun e w' q => ⟨by rw [hT, hM]; exact caughtB_two q.1, q.2⟩)
  have HAw := hide (uawake_go w1 (hva.below hb1 (Nat.le_refl _)))
  have HCe : Hid (∀ W, Below w1.heap.size w1 W → (W.cell? ⟨w.heap.size, 0, none⟩ = some (.int .i64 d.kind) ∧ W.cell? ⟨w.heap.size, 1, none⟩ = some (.bool d.neg)) ∧ (W.cell? ⟨w.heap.size, 2, none⟩ = some (.int .i64 d.A.kind) ∧ W.cell? ⟨w.heap.size, 3, none⟩ = some (.int .i64 d.A.n) ∧ W.cell? ⟨w.heap.size, 4, none⟩ = some (sv d.A.s) ∧ W.cell? ⟨w.heap.size, 5, none⟩ = some (.slice a d.A.args.length c)) ∧ (W.cell? ⟨w.heap.size, 6, none⟩ = some (.int .i64 d.B.kind) ∧ W.cell? ⟨w.heap.size, 7, none⟩ = some (.int .i64 d.B.n) ∧ W.cell? ⟨w.heap.size, 8, none⟩ = some (sv d.B.s) ∧ W.cell? ⟨w.heap.size, 9, none⟩ = some (.slice a' d.B.args.length c'))) := hide (fun W hW => (hx1.below hW (Nat.le_refl _)).cells)
  obtain ⟨p, hp⟩ : ∃ p, p = w.heap.size := ⟨_, rfl⟩
  have HPw := hide hp
  rw [← hp] at HCe
  clear hF hN hT hM hw1 hb1 hx1 hA hB hl hm hst hfs hfg hva hp
  obtain ⟨fn, ft, fi, fz⟩ := F
  go_enter Tryz.func5, Tryz.ntmps5
  go_upto_region 1 with fail
  rw [show w.alloc (.cells #[Value.int IntKind.i64 d.kind, .bool d.neg, .int .i64 d.A.kind, .int .i64 d.A.n, sv d.A.s, .slice a d.A.args.length c, .int .i64 d.B.kind, .int .i64 d.B.n, sv d.B.s, .slice a' d.B.args.length c'] 34) = w1 from (unhide HW).symm]
  rw [← unhide HPw]
  go_upto_region 2 with (go_at_call 9; refine (unhide HAw).mono ?_; rintro e w2 ⟨rfl, b2⟩; have HB2 := hide b2; clear b2)
  obtain ⟨-, ⟨x0, x1, x2, x3⟩, -⟩ := unhide HCe w2 (unhide HB2)
  have C1 := hide (unhide HE1 w2 (unhide HB2))
  go_upto_region 3 with (go_at_call 12; refine (unhide C1).mono ?_; rintro e w3 ⟨rfl, b3⟩; have HB3 := hide ((unhide HB2).trans (b3.mono (unhide HB2).size)); clear b3)
  have hb4 : Below w1.heap.size w1 (w3.alloc (.cells (fv ⟨fn, ft, fi, fz⟩) 37)) := (unhide HB3).alloc (unhide HB3).size _
  have hf4 := FBox.new w3 ⟨fn, ft, fi, fz⟩
  obtain ⟨w4, hw4⟩ : ∃ w4, w4 = w3.alloc (.cells (fv ⟨fn, ft, fi, fz⟩) 37) := ⟨_, rfl⟩
  rw [show w3.alloc (.cells #[Value.string ⟨fn.toArray⟩, .bool ft, .int .i64 fi, .string ⟨fz.toArray⟩] 37) = w4 from hw4.symm]
  rw [← hw4] at hb4 hf4
  obtain ⟨q, hq⟩ : ∃ q, q = w3.heap.size := ⟨_, rfl⟩
  rw [← hq] at hf4 ⊢
  clear x0 x1 x2 x3 hw4 hq C1
  obtain ⟨-, ⟨x0, x1, x2, x3⟩, -⟩ := unhide HCe w4 hb4
  have C2 := hide (unhide HE2 w4 hb4)
  have HF4 := hide hf4
  have HB4 := hide hb4
  clear hf4 hb4
  go_upto_region 4 with (go_at_call 13; refine (unhide C2).mono ?_; rintro e w5 ⟨rfl, b5⟩; have HB5 := hide ((unhide HB4).trans (b5.mono (unhide HB4).size)); have HF5 := hide ((unhide HF4).below b5 (Nat.le_refl _)); clear b5)
  have b56 : Below w5.heap.size w5 (w5.alloc (.cells (fv ⟨fn, ft, fi, fz⟩) 37)) := (Below.refl _ _).alloc (Nat.le_refl _) _
  have hb6 : Below w1.heap.size w1 (w5.alloc (.cells (fv ⟨fn, ft, fi, fz⟩) 37)) := (unhide HB5).alloc (unhide HB5).size _
  have hg6 := FBox.new w5 ⟨fn, ft, fi, fz⟩
  have hf6 := (unhide HF5).below b56 (Nat.le_refl _)
  obtain ⟨w6, hw6⟩ : ∃ w6, w6 = w5.alloc (.cells (fv ⟨fn, ft, fi, fz⟩) 37) := ⟨_, rfl⟩
  rw [show w5.alloc (.cells #[Value.string ⟨fn.toArray⟩, .bool ft, .int .i64 fi, .string ⟨fz.toArray⟩] 37) = w6 from hw6.symm]
  rw [← hw6] at hb6 hg6 hf6
  obtain ⟨q2, hq2⟩ : ∃ q2, q2 = w5.heap.size := ⟨_, rfl⟩
  rw [← hq2] at hg6 ⊢
  clear x0 x1 x2 x3 hw6 hq2 C2 b56
  obtain ⟨⟨k0, k1⟩, ⟨x0, x1, x2, x3⟩, y0, y1, y2, y3⟩ := unhide HCe w6 hb6
  have C3 := hide (unhide HH1 w6 hb6)
  have HF6 := hide hf6
  have HG6 := hide hg6
  have HB6 := hide hb6
  clear hf6 hb6 hg6
  go_upto_region 5 with (go_at_call 14; refine (unhide C3).mono ?_; rintro e w7 ⟨rfl, b7⟩; have HB7 := hide ((unhide HB6).trans (b7.mono (unhide HB6).size)); have HF7 := hide ((unhide HF6).below b7 (Nat.le_refl _)); have HG7 := hide ((unhide HG6).below b7 (Nat.le_refl _)); clear b7)
  clear k0 k1 x0 x1 x2 x3 y0 y1 y2 y3
  obtain ⟨⟨k0, k1⟩, ⟨x0, x1, x2, x3⟩, y0, y1, y2, y3⟩ := unhide HCe w7 (unhide HB7)
  have C4 := hide (unhide HH2 w7 (unhide HB7))
  go_upto_region 6 with (go_at_call 15; refine (unhide C4).mono ?_; rintro e w8 ⟨rfl, b8⟩; have HB8 := hide ((unhide HB7).trans (b8.mono (unhide HB7).size)); have HF8 := hide ((unhide HF7).below b8 (Nat.le_refl _)); have HG8 := hide ((unhide HG7).below b8 (Nat.le_refl _)); clear b8)
  clear k0 k1 x0 x1 x2 x3 y0 y1 y2 y3
  obtain ⟨f0, f1, f2, f3, -⟩ := (unhide HF8).cells
  obtain ⟨g0, g1, g2, g3, -⟩ := (unhide HG8).cells
  simp only at f0 f1 f2 f3 g0 g1 g2 g3
  go_wp2_with fail
  go_ret
  exact ⟨rfl, (unhide HB1).trans ((unhide HB8).mono (unhide HB1).size)⟩

theorem RuEvals.walk2 (d : Cd) (a : Option Addr) (c : Nat) (a' : Option Addr) (c' : Nat) (s : ByteArray) (la : Option Addr) (lc : Nat) (l : List Fld) (ma : Option Addr) (mc : Nat) (m : List Fld) (w : World) (hA : ExAt w d.A a c) (hB : ExAt w d.B a' c') (hst : s.data.toList.length ≤ 140737488355328) (hl : FdL w (.slice la l.length lc) l) (hfs : ∀ f ∈ l, small f) (hm : FdL w (.slice ma m.length mc) m) (hfg : ∀ f ∈ m, small f) (hva : Vars w) :
    Calls Tryz.prog 5 #[.agg (cdV d a c a' c'), .string s, .slice la l.length lc, .slice ma m.length mc] w fun e w' => e = .returned (.bool true) ∧ Below w.heap.size w w' := by
  rw [str_list s]
  exact RuEvals.walk d a c a' c' s.data.toList la lc l ma mc m w hA hB hst hl hfs hm hfg hva

set_option maxRecDepth 100000 in
theorem RuEvals.lifted (os : Os) (started : os.Started) (H : Type) (enc : TypeId × Value → H) :
    ReturnsInHanded {} Tryz.checked os 5 .any (fun w args => (Rows.rulesEvalsSpec.pre enc Tryz.prog Tryz.f5 [] false w args ∧ laidMetH Tryz.prog seatLaid w) ∧ sizedMet enc Tryz.prog Tryz.f5 (OpenSpec.ofChange Rows.rulesEvalsSpec) false w args)
      (Rows.rulesEvalsSpec.post enc Tryz.prog Tryz.f5 false true false false) := by
  refine returnsInHanded_of_change_and (C := Tryz.checked) (X := fun w _ => laidMetH Tryz.prog seatLaid w) (fun _ _ _ hh h => h.of_heap hh) own_knob started (by kernel_rfl) Tryz.func5
    (ChangeSpec.witness_at (enc := enc) (C := Tryz.checked) (os := os) (X := fun w _ => laidMetH Tryz.prog seatLaid w) false (laidWorld os) #[.agg (cdV ⟨0, false, .mk 0 0 [] [], .mk 0 0 [] []⟩ none 0 none 0), .string ⟨#[]⟩, .slice none 0 0, .slice none 0 0] 8 rfl (by kernel_rfl) (by kernel_rfl) (by kernel_rfl) (by kernel_rfl) (by kernel_rfl) (laidWorld_met os _)) ?_
  intro W base args ds gs before hval0 hW _ hsz0 hL _
  have hval : ∀ (j : Nat) t v, Tryz.f5.params[j]? = some t → args[j]? = some v → Value.okWide Tryz.prog W .any base t v := hval0
  have hsz : (DataW.weightsEach Tryz.prog (Tryz.f5.params.toList ++ Rows.rulesEvalsSpec.plain.varTypes Tryz.prog) (ds ++ gs)).all (· ≤ reachBytes) = true := hsz0
  have hW' := hW
  obtain ⟨p, q, hA0, hV, rfl, hfz, hnd⟩ := hW
  have hA : DataW.TrodAll enc Tryz.prog W 0 (fun _ => true) true Tryz.f5.params.toList args.toList ds p := hA0
  rw [Tryz.params5] at hA hval hsz
  obtain ⟨v0, vs0, d0, ds0, p0, q0, e0, rfl, rfl, h0, hA⟩ := trodAll_cons hA
  obtain ⟨v1, vs1, d1, ds1, p1, q1, rfl, rfl, rfl, h1, hA⟩ := trodAll_cons hA
  obtain ⟨v2, vs2, d2, ds2, p2, q2, rfl, rfl, rfl, h2, hA⟩ := trodAll_cons hA
  obtain ⟨v3, vs3, d3, ds3, p3, q3, rfl, rfl, rfl, h3, hA⟩ := trodAll_cons hA
  obtain ⟨rfl, rfl, rfl⟩ := trodAll_nil hA
  obtain rfl : args = #[v0, v1, v2, v3] := by cases args; simp_all
  obtain ⟨rfl, rfl⟩ := trodVars_none hV
  have k0 := h0
  have lt0 : ∀ x ∈ p0, x.block < W.heap.size := by obtain ⟨m, hm⟩ := k0; exact DataW.trod_lt m _ _ _ hm
  obtain ⟨x0, a0, c0, m0, r0, rfl, g0, f0⟩ := open_cdA hsz (j := 0) rfl rfl (hval 0 34 v0 rfl rfl) h0
  obtain ⟨s1, rfl, rfl, rfl, hs1⟩ := open_string Tryz.underlying9 (hval 1 9 v1 rfl rfl) h1
  have ls1 : s1.data.toList.length ≤ 140737488351232 := by
    have := sized_string hsz (j := 1) (t := 9) rfl rfl
    simp only [reachBytes] at this
    omega
  have k2 := h2
  have lt2 : ∀ x ∈ p2, x.block < W.heap.size := by obtain ⟨m, hm⟩ := k2; exact DataW.trod_lt m _ _ _ hm
  obtain ⟨a2, c2, l2, rfl, g2, f2, b2⟩ := open_sfl hsz (j := 2) rfl rfl (okWide_slice Tryz.underlying35 (hval 2 35 v2 rfl rfl)) h2
  have k3 := h3
  have lt3 : ∀ x ∈ p3, x.block < W.heap.size := by obtain ⟨m, hm⟩ := k3; exact DataW.trod_lt m _ _ _ hm
  obtain ⟨a3, c3, l3, rfl, g3, f3, b3⟩ := open_sfl hsz (j := 3) rfl rfl (okWide_slice Tryz.underlying35 (hval 3 35 v3 rfl rfl)) h3
  clear hA0 hval0 hsz0
  refine (RuEvals.walk2 x0 a0 c0 m0 r0 s1 a2 c2 l2 a3 c3 l3 W g0 f0 (by omega) g2.1 (fun f hf => (f2 f hf).small) g3.1 (fun f hf => (f3 f hf).small) (vars_of_laid hL)).mono fun e W' ⟨he, bel⟩ => ?_
  subst he
  exact ⟨_, rfl, _, _, _, [], _, [], hW', trodAll_mk1 (shut_bool Tryz.underlying4 _), (trodAll_cons_mk (Below.trod laid_out (by kernel_rfl) (of_decide_eq_true (by kernel_rfl)) k0 bel lt0) (trodAll_cons_mk (shut_string Tryz.underlying9 hs1) (trodAll_cons_mk (Below.trod laid_out (by kernel_rfl) (of_decide_eq_true (by kernel_rfl)) k2 bel lt2) (trodAll_cons_mk (Below.trod laid_out (by kernel_rfl) (of_decide_eq_true (by kernel_rfl)) k3 bel lt3) trodAll_mk0)))), rfl, bel.frame _, fun h => by cases h⟩

theorem rulesEvals_holds : Rows.RulesEvalsSaid :=
  OpenClaim.holds_of_wide 5 Tryz.f5 rfl rfl rfl rfl rfl rfl rfl ⟨rfl, rfl, rfl, rfl, rfl⟩ rfl rfl rfl rfl rfl (by kernel_rfl) Tryz.func5 (by kernel_rfl)
    (of_decide_eq_true (by kernel_rfl)) (by unfold Func.isWrapper; first | (rw [if_pos (by decide +kernel)]; kernel_rfl) | (rw [if_neg (by decide +kernel)]; exact ⟨rfl, rfl⟩))
    (fun os started H enc _ => RuEvals.lifted os started H enc)

theorem rulesEvalsCard_holds : Rows.RulesEvalsCardSaid :=
  Claim7.holds_tied_plain_at .later [] _ _ _ _
    rulesEvals_holds (fun _ h => by cases h) (by kernel_rfl) (fun _ h => by cases h) rulesEvals_row_tie rfl ⟨rfl, rfl⟩ (by kernel_rfl) rfl
    (fun f fn hf hfn => by
      obtain rfl : f = 5 := Option.some.inj ((show Tryz.prog.funcNamed "cartulary/cartularylaw13.RulesEvals" = some 5 by kernel_rfl).symm.trans hf) |>.symm
      obtain rfl : fn = Tryz.f5 := (Option.some.inj (Tryz.func5.symm.trans hfn)).symm
      exact ⟨by kernel_rfl, fun j t ht => by
        rw [Tryz.params5] at ht
        have h0 : ∀ (t : TypeId), t ∈ ([34, 9, 35, 35] : List TypeId) → Tryz.prog.wantsStandIn t = false := by
          intro t ht
          simp only [List.mem_cons, List.not_mem_nil, or_false] at ht
          rcases ht with rfl | rfl | rfl | rfl <;> kernel_rfl
        exact h0 t (List.mem_of_getElem? (by simpa using ht))⟩)
    (by kernel_rfl)
#print axioms rulesEvalsCard_holds
end Go.Proofs.YtclllkbljaomoaaGreatDoor
