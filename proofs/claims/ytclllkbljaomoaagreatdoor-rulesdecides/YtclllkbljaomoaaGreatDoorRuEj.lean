/-
  DERIVED. The document's eval.
-/
import Derived.Test.YtclllkbljaomoaaGreatDoorRuEi
import Derived.Test.YtclllkbljaomoaaGreatDoorRuY
import Derived.Deep.RegionHeld3
namespace Go.Proofs.YtclllkbljaomoaaGreatDoor
open Go.RowKit
set_option linter.unusedVariables false

/-- The document's place of an evaluation. -/
abbrev rsc (S : Sc) : Array Value := #[sv S.stream, .slice S.sa S.state.length S.sc, .slice S.ga S.given.length S.gc]
structure RSc (w : World) (S : Sc) : Prop where
  st : FdL w (.slice S.sa S.state.length S.sc) S.state
  gv : FdL w (.slice S.ga S.given.length S.gc) S.given
  len : S.stream.length ≤ 140737488355328
  ss : ∀ f ∈ S.state, small f
  gs : ∀ f ∈ S.given, small f
theorem RSc.grown {w w' : World} {S : Sc} (h : RSc w S) (hb : Below w.heap.size w w') : RSc w' S := ⟨h.st.below hb (Nat.le_refl _), h.gv.below hb (Nat.le_refl _), h.len, h.ss, h.gs⟩
theorem small_get {l : List Fld} {nm : List UInt8} (h : ∀ f ∈ l, small f) (hh : hasF l nm = true) : small (getA l nm) := h _ (List.mem_of_getElem? (at_get hh).2)

/-- The value, or none; the error, or 0. -/
def valO (R : Except Int Fld) : Fld := match R with | .ok f => f | .error _ => fld0
def errO (R : Except Int Fld) : Int := match R with | .ok _ => 0 | .error n => n
theorem small0 : small fld0 := ⟨by decide, by decide, by decide⟩
theorem caught_two {R : Except Int Fld} {e : Ending} (h : CaughtF R e) : e = .returned (.tuple #[.agg (fv (valO R)), .int .i64 (errO R)]) ∧ small (valO R) := by
  cases R with
  | ok f => exact h
  | error n => exact ⟨h, small0⟩
theorem caught_of {R : Except Int Fld} {F : Fld} {N : Int} (hF : F = valO R) (hN : N = errO R) (h : small F) : CaughtF R (.returned (.tuple #[.agg (fv F), .int .i64 N])) := by
  subst hF hN
  cases R with
  | ok f => exact ⟨rfl, h⟩
  | error n => rfl

def RBox (w : World) (q : Nat) (S : Sc) : Prop := w.heap[q]? = some (.cells (rsc S) 78 (0, 0))
theorem RBox.below {B : Nat} {w w' : World} {q : Nat} {S : Sc} (h : RBox w q S) (hb : Below B w w') (hB : w.heap.size ≤ B) : RBox w' q S := (hb.block q (by have := lt_of_block h; omega)).trans h
theorem RBox.cells {w : World} {q : Nat} {S : Sc} (h : RBox w q S) : w.cell? ⟨q, 0, none⟩ = some (sv S.stream) ∧ w.cell? ⟨q, 1, none⟩ = some (.slice S.sa S.state.length S.sc) ∧ w.cell? ⟨q, 2, none⟩ = some (.slice S.ga S.given.length S.gc) :=
  ⟨(cell_of_row _ _ _ _ _ _ h).trans rfl, (cell_of_row _ _ _ _ _ _ h).trans rfl, (cell_of_row _ _ _ _ _ _ h).trans rfl⟩

/-- The three boxes of eval. -/
structure EB (w0 w3 : World) (p q r : Nat) (S : Sc) (x : Ex) (a : Option Addr) (c : Nat) : Prop where
  bel : Below w0.heap.size w0 w3
  sb : RBox w3 p S
  xb : XBox w3 q x a c
  fb : FBox w3 r fld0
  ge : w0.heap.size ≤ r
theorem EB.new (w : World) (S : Sc) (x : Ex) (a : Option Addr) (c : Nat) : EB w (((w.alloc (.cells (rsc S) 78)).alloc (.cells (exV x a c) 32)).alloc (.cells (fv fld0) 37)) w.heap.size (w.heap.size + 1) (w.heap.size + 1 + 1) S x a c := by
  have z1 : (w.alloc (.cells (rsc S) 78)).heap.size = w.heap.size + 1 := by simp
  have z2 : ((w.alloc (.cells (rsc S) 78)).alloc (.cells (exV x a c) 32)).heap.size = w.heap.size + 1 + 1 := by simp
  have b1 : Below w.heap.size w (w.alloc (.cells (rsc S) 78)) := (Below.refl _ _).alloc (Nat.le_refl _) _
  have b2 := b1.alloc b1.size (.cells (exV x a c) 32)
  have b3 := b2.alloc b2.size (.cells (fv fld0) 37)
  have s1 : RBox (w.alloc (.cells (rsc S) 78)) w.heap.size S := heap_alloc_new _ _
  have x2 : XBox ((w.alloc (.cells (rsc S) 78)).alloc (.cells (exV x a c) 32)) (w.heap.size + 1) x a c := by rw [← z1]; exact heap_alloc_new _ _
  have f3 := FBox.new ((w.alloc (.cells (rsc S) 78)).alloc (.cells (exV x a c) 32)) fld0
  rw [z2] at f3
  exact ⟨b3, (s1.below ((Below.refl _ _).alloc (Nat.le_refl _) _) (Nat.le_refl _)).below ((Below.refl _ _).alloc (Nat.le_refl _) _) (Nat.le_refl _), x2.below ((Below.refl _ _).alloc (Nat.le_refl _) _) (Nat.le_refl _), f3, by omega⟩
theorem EB.grown {w0 w3 w' : World} {p q r : Nat} {S : Sc} {x : Ex} {a : Option Addr} {c : Nat} (h : EB w0 w3 p q r S x a c) (hb : Below w3.heap.size w3 w') : EB w0 w' p q r S x a c :=
  ⟨h.bel.trans (hb.mono h.bel.size), h.sb.below hb (Nat.le_refl _), h.xb.below hb (Nat.le_refl _), h.fb.below hb (Nat.le_refl _), h.ge⟩

/-- What the statement 'a, x := w.eval(..)' leaves. -/
def EvlR (w0 : World) (F : Fld) (N : Int) (t6 t7 : Value) (W : World) : Prop :=
  ∃ q, t6 = .pointer (some ⟨q, 0, none⟩) ∧ t7 = .int .i64 N ∧ FBox W q F ∧ Below w0.heap.size w0 W ∧ w0.heap.size ≤ q
theorem EvlR.new {w0 W : World} {F : Fld} {N : Int} (b : Below w0.heap.size w0 W) : EvlR w0 F N (.pointer (some ⟨W.heap.size, 0, none⟩)) (.int .i64 N) (W.alloc (.cells (fv F) 37)) :=
  ⟨_, rfl, rfl, FBox.new W F, b.alloc b.size _, b.size⟩
theorem EvlR.put {w0 W : World} {f0 F : Fld} {N : Int} {q : Nat} (b : Below w0.heap.size w0 W) (hq : w0.heap.size ≤ q) (h0 : FBox W q f0) : EvlR w0 F N (.pointer (some ⟨q, 0, none⟩)) (.int .i64 N) ((((W.setCell ⟨q, 0, none⟩ (sv F.name)).setCell ⟨q, 1, none⟩ (.bool F.text)).setCell ⟨q, 2, none⟩ (.int .i64 F.n)).setCell ⟨q, 3, none⟩ (sv F.s)) :=
  ⟨_, rfl, rfl, h0.put F.name F.text F.n F.s, below_put b hq F.name F.text F.n F.s, hq⟩

theorem evalL_none (S : Sc) : evalL S [] = .ok [] := by rw [evalL]
theorem evalX_args {S : Sc} {x : Ex} (h : x.args = []) : evalX S x = opX S x.kind x.n x.s [] := by rw [evalX_eq, h, evalL_none]
theorem evalX_one {S : Sc} {x y : Ex} (h : x.args = [y]) : evalX S x = match evalX S y with
    | .error e => .error e
    | .ok f => opX S x.kind x.n x.s [f] := by
  rw [evalX_eq, h, evalL_cons]
  cases evalX S y with
  | error e => rfl
  | ok f => simp only [evalL_none]
theorem evalX_two {S : Sc} {x y z : Ex} (h : x.args = [y, z]) : evalX S x = match evalX S y with
    | .error e => .error e
    | .ok f => match evalX S z with
      | .error e => .error e
      | .ok g => opX S x.kind x.n x.s [f, g] := by
  rw [evalX_eq, h, evalL_cons, evalL_cons]
  cases evalX S y with
  | error e => rfl
  | ok f =>
    cases evalX S z with
    | error e => rfl
    | ok g => simp only [evalL_none]
theorem opX_two (S : Sc) (k n : Int) (s : List UInt8) (f g : Fld) (hk : 6 ≤ k ∧ k ≤ 9) : opX S k n s [f, g] = twoP k f g := by
  unfold opX twoP
  rw [if_neg (by omega), if_neg (by omega), if_neg (by omega), if_neg (by omega)]
  simp only
  rw [if_neg (by omega), if_neg (by omega)]
theorem len_one {α : Type} : ∀ {l : List α}, l.length = 1 → ∃ a, l = [a]
  | [a], _ => ⟨a, rfl⟩
theorem frm_nz {S : Sc} {x : Ex} (h : frmX x = true) : errO (evalX S x) ≠ 0 ∨ ∃ f, evalX S x = .ok f := by
  cases he : evalX S x with
  | ok f => exact .inr ⟨f, rfl⟩
  | error n => exact .inl (evalX_err S _ x (Nat.le_refl _) ((frm_iff _ x (Nat.le_refl _)).1 h) n he)

set_option maxRecDepth 20000 in
set_option maxHeartbeats 16000000 in
theorem reval_any {w0 : World} {S : Sc} (hS : RSc w0 S) (hva : Vars w0) {x : Ex} {a : Option Addr} {c : Nat} (hat : ExAt w0 x a c) : frmX x = true → ∀ w, Below w0.heap.size w0 w → Calls Tryz.prog 39 #[.agg (rsc S), .agg (exV x a c)] w fun e w' => CaughtF (evalX S x) e ∧ Below w.heap.size w w' := by
  induction hat with
  | mk x a c b off A C h1 h2 h3 hk hn hs hc hr ih =>
    intro hf w hw
    have hb3 := EB.new w S x a c
    have HS := hide (hS.grown hw)
    have HV := hide (hva.below hw (Nat.le_refl _))
    obtain ⟨w3, hw3⟩ : ∃ w3, w3 = ((w.alloc (.cells (rsc S) 78)).alloc (.cells (exV x a c) 32)).alloc (.cells (fv fld0) 37) := ⟨_, rfl⟩
    rw [← hw3] at hb3
    have HW := hide hw3
    have HE := hide hb3
    have HS3 := hide ((unhide HS).grown hb3.bel)
    have HV3 := hide ((unhide HV).below hb3.bel (Nat.le_refl _))
    have hw03 : Below w0.heap.size w0 w3 := hw.trans (hb3.bel.mono hw.size)
    have HC : Hid (∀ i, (h : i < x.args.length) → a = some ⟨b, off, none⟩ ∧ ∀ W, Below w3.heap.size w3 W → W.cell? ⟨b, off + i * 4, none⟩ = some (.int .i64 x.args[i].kind) ∧ W.cell? ⟨b, off + i * 4 + 1, none⟩ = some (.int .i64 x.args[i].n) ∧ W.cell? ⟨b, off + i * 4 + 2, none⟩ = some (sv x.args[i].s) ∧ W.cell? ⟨b, off + i * 4 + 3, none⟩ = some (.slice (A i) x.args[i].args.length (C i))) := hide (fun i h => by
      refine ⟨(h3 (by omega)).1, fun W hW => ?_⟩
      have hb0 := hw03.trans (hW.mono hw03.size)
      obtain ⟨q0, q1, q2, q3⟩ := hc i h
      exact ⟨kept hb0 q0, kept hb0 q1, kept hb0 q2, kept hb0 q3⟩)
    have HIH := hide (fun (i : Nat) (h : i < x.args.length) (hfi : frmX x.args[i] = true) (W : World) (hW : Below w3.heap.size w3 W) => ih i h hfi W (hw03.trans (hW.mono hw03.size)))
    obtain ⟨hok, hfl⟩ : okX x = true ∧ frmL x.args = true := by rw [frmX_eq, Bool.and_eq_true] at hf; exact hf
    have hok2 : (x.args.length : Int) = argsN x.kind := by unfold okX at hok; simpa using hok
    have HFL := hide hfl
    have hcs : (x.args.length = 0 ∧ (x.kind = 1 ∨ x.kind = 2 ∨ x.kind = 3 ∨ x.kind = 4 ∨ x.kind = 5)) ∨ (x.args.length = 1 ∧ (x.kind = 10 ∨ x.kind = 11)) ∨ (x.args.length = 2 ∧ 6 ≤ x.kind ∧ x.kind ≤ 9) := by
      unfold argsN at hok2
      split at hok2
      · exact .inl ⟨by omega, by omega⟩
      · split at hok2
        · exact .inr (.inl ⟨by omega, by omega⟩)
        · split at hok2
          · exact .inr (.inr ⟨by omega, by omega, by omega⟩)
          · omega
    have HN63 := hide (And.intro hk (And.intro hn hs))
    obtain ⟨K, hK⟩ : ∃ K, K = x.kind := ⟨_, rfl⟩
    obtain ⟨nn, hnn⟩ : ∃ nn, nn = x.n := ⟨_, rfl⟩
    obtain ⟨ss, hss⟩ : ∃ ss, ss = x.s := ⟨_, rfl⟩
    obtain ⟨L, hL⟩ : ∃ L, L = x.args.length := ⟨_, rfl⟩
    have harg : exV x a c = #[.int .i64 K, .int .i64 nn, sv ss, .slice a L c] := by rw [hK, hnn, hss, hL]
    have HX := hide (And.intro hK (And.intro hnn (And.intro hss hL)))
    have HW' : Hid (w3 = ((w.alloc (.cells (rsc S) 78)).alloc (.cells #[.int .i64 K, .int .i64 nn, sv ss, .slice a L c] 32)).alloc (.cells (fv fld0) 37)) := hide (by rw [← harg]; exact unhide HW)
    obtain ⟨x0, x1, x2, x3, -⟩ := hb3.xb.cells
    obtain ⟨s0, s1, s2⟩ := hb3.sb.cells
    obtain ⟨r0, r1, r2, r3, rf⟩ := hb3.fb.cells
    rw [← hK] at x0 hcs
    rw [← hnn] at x1
    rw [← hss] at x2
    rw [← hL] at x3 hcs
    obtain ⟨p, hp⟩ : ∃ p, p = w.heap.size := ⟨_, rfl⟩
    obtain ⟨q, hq⟩ : ∃ q, q = w.heap.size + 1 := ⟨_, rfl⟩
    obtain ⟨r, hr'⟩ : ∃ r, r = w.heap.size + 1 + 1 := ⟨_, rfl⟩
    have HPQ := hide (And.intro hp (And.intro hq hr'))
    rw [← hr', ← hq, ← hp] at HE
    rw [← hp] at s0 s1 s2
    rw [← hq] at x0 x1 x2 x3
    rw [← hr'] at r0 r1 r2 r3 rf
    rw [harg]
    obtain ⟨R, hR⟩ : ∃ R, R = evalX S x := ⟨_, rfl⟩
    rw [← hR]
    have HR := hide hR
    have HRB : Hid (∀ (W : World) (F : Fld) (N : Int), Below w3.heap.size w3 W → F = valO R → N = errO R → small F → FBox ((((W.setCell ⟨r, 0, none⟩ (sv F.name)).setCell ⟨r, 1, none⟩ (.bool F.text)).setCell ⟨r, 2, none⟩ (.int .i64 F.n)).setCell ⟨r, 3, none⟩ (sv F.s)) r F ∧ Below w.heap.size w ((((W.setCell ⟨r, 0, none⟩ (sv F.name)).setCell ⟨r, 1, none⟩ (.bool F.text)).setCell ⟨r, 2, none⟩ (.int .i64 F.n)).setCell ⟨r, 3, none⟩ (sv F.s)) ∧ CaughtF R (.returned (.tuple #[.agg (fv F), .int .i64 N]))) := hide (fun W F N hW hF hN hs =>
      have h := (unhide HE).grown hW
      ⟨h.fb.put F.name F.text F.n F.s, below_put h.bel h.ge F.name F.text F.n F.s, caught_of hF hN hs⟩)
    have HRC : Hid (∀ W, Below w3.heap.size w3 W → (W.cell? ⟨r, 0, none⟩ = some (sv []) ∧ W.cell? ⟨r, 1, none⟩ = some (.bool false) ∧ W.cell? ⟨r, 2, none⟩ = some (.int .i64 0) ∧ W.cell? ⟨r, 3, none⟩ = some (sv [])) ∧ (∀ i, W.frozen? ⟨r, i, none⟩ = false) ∧ W.cell? ⟨q, 0, none⟩ = some (.int .i64 K) ∧ W.cell? ⟨q, 3, none⟩ = some (.slice a L c) ∧ W.cell? ⟨p, 0, none⟩ = some (sv S.stream) ∧ W.cell? ⟨p, 1, none⟩ = some (.slice S.sa S.state.length S.sc) ∧ W.cell? ⟨p, 2, none⟩ = some (.slice S.ga S.given.length S.gc)) := hide (fun W hW => by
      have h := (unhide HE).grown hW
      obtain ⟨a0, a1, a2, a3, af⟩ := h.fb.cells
      obtain ⟨b0, b1, b2, b3, -⟩ := h.xb.cells
      obtain ⟨d0, d1, d2⟩ := h.sb.cells
      rw [← hK] at b0
      rw [← hL] at b3
      exact ⟨⟨a0, a1, a2, a3⟩, af, b0, b3, d0, d1, d2⟩)
    clear hw hb3 hw3 hw03 hc hr ih hf hok hok2 hfl hK hnn hss hL hp hq hr' hR harg HW HS HV h1 h2 h3 hk hn hs
    rename_i hSx0 hVx0
    clear hS hva
    go_enter Tryz.func39, Tryz.ntmps39
    go_upto_region 1 with fail
    rw [show ((w.alloc (.cells #[sv S.stream, .slice S.sa S.state.length S.sc, .slice S.ga S.given.length S.gc] 78)).alloc (.cells #[Value.int IntKind.i64 K, .int .i64 nn, sv ss, .slice a L c] 32)).alloc (.cells #[Value.string ⟨#[]⟩, .bool false, .int .i64 0, Value.string ⟨#[]⟩] 37) = w3 from (unhide HW').symm]
    rw [← (unhide HPQ).2.2, ← (unhide HPQ).2.1, ← (unhide HPQ).1]
    rcases hcs with ⟨hL0, hks⟩ | ⟨hL1, hks⟩ | ⟨hL2, hk6, hk9⟩
    · have hnil : x.args = [] := List.length_eq_zero_iff.1 (by rw [← (unhide HX).2.2.2]; exact hL0)
      have HOP : Hid (R = opX S K nn ss []) := hide (by rw [unhide HR, evalX_args hnil, ← (unhide HX).1, ← (unhide HX).2.1, ← (unhide HX).2.2.1])
      rcases hks with rfl | rfl | rfl | rfl | rfl
      · have hz := (unhide HN63).2.1
        rw [← (unhide HX).2.1] at hz
        have HB := hide (unhide HRB w3 ⟨[], false, nn, []⟩ 0 (Below.refl _ _) (by rw [unhide HOP]; rfl) (by rw [unhide HOP]; rfl) ⟨by show 0 ≤ _; omega, hz⟩)
        clear hz hnil hL0
        go_wp2_with fail
        exact bodyPost_ret (results_ct rfl _ _ r 37 (fv ⟨[], false, nn, []⟩) (0, 0) _ (.int .i64 0) rfl rfl (unhide HB).1 Tryz.underlying37 rfl sizeField) rfl ⟨(unhide HB).2.2, (unhide HB).2.1⟩
      · have hz := (unhide HN63).2.2
        rw [← (unhide HX).2.2.1] at hz
        have HT := hide (rtext_any ss w3)
        have HSM : Hid (small ⟨[], true, 0, ss⟩) := hide ⟨hz, by show _ ≤ (0 : Int); omega, by show (0 : Int) ≤ _; omega⟩
        have HB := hide (fun W hW => unhide HRB W ⟨[], true, 0, ss⟩ 0 hW (by rw [unhide HOP]; rfl) (by rw [unhide HOP]; rfl) (unhide HSM))
        clear hz hnil hL0 r0 r1 r2 r3 rf
        go_wp2_with (go_at_call 93; refine (unhide HT).mono ?_; rintro e w4 ⟨rfl, b4⟩; obtain ⟨⟨r0, r1, r2, r3⟩, rf, -⟩ := unhide HRC w4 b4; have HB4 := hide (unhide HB w4 b4); clear b4)
        exact bodyPost_ret (results_ct rfl _ _ r 37 (fv ⟨[], true, 0, ss⟩) (0, 0) _ (.int .i64 0) rfl rfl (unhide HB4).1 Tryz.underlying37 rfl sizeField) rfl ⟨(unhide HB4).2.2, (unhide HB4).2.1⟩
      · have HT := hide (rfield_any S.sa S.state.length S.sc S.state ss w3 (unhide HS3).st (fun h => small_get (unhide HS3).ss h))
        have HOP2 : Hid (R = fieldP S.state ss) := hide (by rw [unhide HOP]; rfl)
        rw [← unhide HOP2] at HT
        have HB := hide (fun W F hW hF hs => unhide HRB W F (errO R) hW hF rfl hs)
        obtain ⟨F, hF⟩ : ∃ F, F = valO R := ⟨_, rfl⟩
        obtain ⟨N, hN⟩ : ∃ N, N = errO R := ⟨_, rfl⟩
        have HT2 : Hid (Calls Tryz.prog 94 #[.slice S.sa S.state.length S.sc, sv ss] w3 fun e w' => (e = .returned (.tuple #[.agg (fv F), .int .i64 N]) ∧ small F) ∧ Below w3.heap.size w3 w') := hide ((unhide HT).mono fun e w' h => ⟨by rw [hF, hN]; exact caught_two h.1, h.2⟩)
        have HB2 := hide (fun W hW hs => unhide HB W F hW hF hs)
        rw [← hN] at HB2
        clear hF hN HT HB hnil hL0 r0 r1 r2 r3 rf
        obtain ⟨fn, ft, fi, fz⟩ := F
        go_wp2_with (go_at_call 94; refine (unhide HT2).mono ?_; rintro e w4 ⟨⟨rfl, hsm⟩, b4⟩; obtain ⟨⟨r0, r1, r2, r3⟩, rf, -⟩ := unhide HRC w4 b4; have HB4 := hide (unhide HB2 w4 b4 hsm); clear b4 hsm)
        exact bodyPost_ret (results_ct rfl _ _ r 37 (fv ⟨fn, ft, fi, fz⟩) (0, 0) _ (.int .i64 N) rfl rfl (unhide HB4).1 Tryz.underlying37 rfl sizeField) rfl ⟨(unhide HB4).2.2, (unhide HB4).2.1⟩
      · have HT := hide (rfield_any S.ga S.given.length S.gc S.given ss w3 (unhide HS3).gv (fun h => small_get (unhide HS3).gs h))
        have HOP2 : Hid (R = fieldP S.given ss) := hide (by rw [unhide HOP]; rfl)
        rw [← unhide HOP2] at HT
        have HB := hide (fun W F hW hF hs => unhide HRB W F (errO R) hW hF rfl hs)
        obtain ⟨F, hF⟩ : ∃ F, F = valO R := ⟨_, rfl⟩
        obtain ⟨N, hN⟩ : ∃ N, N = errO R := ⟨_, rfl⟩
        have HT2 : Hid (Calls Tryz.prog 94 #[.slice S.ga S.given.length S.gc, sv ss] w3 fun e w' => (e = .returned (.tuple #[.agg (fv F), .int .i64 N]) ∧ small F) ∧ Below w3.heap.size w3 w') := hide ((unhide HT).mono fun e w' h => ⟨by rw [hF, hN]; exact caught_two h.1, h.2⟩)
        have HB2 := hide (fun W hW hs => unhide HB W F hW hF hs)
        rw [← hN] at HB2
        clear hF hN HT HB hnil hL0 r0 r1 r2 r3 rf
        obtain ⟨fn, ft, fi, fz⟩ := F
        go_wp2_with (go_at_call 94; refine (unhide HT2).mono ?_; rintro e w4 ⟨⟨rfl, hsm⟩, b4⟩; obtain ⟨⟨r0, r1, r2, r3⟩, rf, -⟩ := unhide HRC w4 b4; have HB4 := hide (unhide HB2 w4 b4 hsm); clear b4 hsm)
        exact bodyPost_ret (results_ct rfl _ _ r 37 (fv ⟨fn, ft, fi, fz⟩) (0, 0) _ (.int .i64 N) rfl rfl (unhide HB4).1 Tryz.underlying37 rfl sizeField) rfl ⟨(unhide HB4).2.2, (unhide HB4).2.1⟩
      · have HT := hide (rtext_any S.stream w3)
        have HSM : Hid (small ⟨[], true, 0, S.stream⟩) := hide ⟨(unhide HS3).len, by show _ ≤ (0 : Int); omega, by show (0 : Int) ≤ _; omega⟩
        have HB := hide (fun W hW => unhide HRB W ⟨[], true, 0, S.stream⟩ 0 hW (by rw [unhide HOP]; rfl) (by rw [unhide HOP]; rfl) (unhide HSM))
        clear hnil hL0 r0 r1 r2 r3 rf
        go_wp2_with (go_at_call 93; refine (unhide HT).mono ?_; rintro e w4 ⟨rfl, b4⟩; obtain ⟨⟨r0, r1, r2, r3⟩, rf, -⟩ := unhide HRC w4 b4; have HB4 := hide (unhide HB w4 b4); clear b4)
        exact bodyPost_ret (results_ct rfl _ _ r 37 (fv ⟨[], true, 0, S.stream⟩) (0, 0) _ (.int .i64 0) rfl rfl (unhide HB4).1 Tryz.underlying37 rfl sizeField) rfl ⟨(unhide HB4).2.2, (unhide HB4).2.1⟩
    · obtain ⟨y, hxa⟩ := len_one (l := x.args) (by rw [← (unhide HX).2.2.2]; exact hL1)
      have hfl2 := unhide HFL
      rw [hxa, frmL_cons, Bool.and_eq_true] at hfl2
      have HFy := hide hfl2.1
      have HXA := hide hxa
      clear hfl2 hxa
      have HBw3 : Hid (Below w3.heap.size w3 w3) := hide (Below.refl _ _)
      clear r0 r1 r2 r3 rf

      clear HFL HN63
      have hl2 : ((L : Int) == 2) = false := by rw [hL1]; rfl
      clear hL1
      rcases hks with rfl | rfl
      · go_upto_region 12 with fail
        have hi0 : 0 < x.args.length := by rw [unhide HXA]; simp
        obtain ⟨ha0, hcy0⟩ := unhide HC 0 hi0
        have hy0 : x.args[0]'hi0 = y := by simp [unhide HXA]
        have HI0 := hide (fun W hW => unhide HIH 0 hi0 (by rw [hy0]; exact unhide HFy) W hW)
        rw [hy0] at hcy0 HI0
        have HSV0 : Hid (∀ V, Below w3.heap.size w3 V → V.cell? ⟨b, off, none⟩ = some (.int .i64 y.kind) ∧ V.cell? ⟨b, off + 1, none⟩ = some (.int .i64 y.n) ∧ V.cell? ⟨b, off + 2, none⟩ = some (sv y.s) ∧ V.cell? ⟨b, off + 3, none⟩ = some (.slice (A 0) y.args.length (C 0)) ∧ V.cell? ⟨q, 3, none⟩ = some (.slice (some ⟨b, off, none⟩) L c) ∧ V.cell? ⟨p, 0, none⟩ = some (sv S.stream) ∧ V.cell? ⟨p, 1, none⟩ = some (.slice S.sa S.state.length S.sc) ∧ V.cell? ⟨p, 2, none⟩ = some (.slice S.ga S.given.length S.gc)) := hide (fun V hV => by
          have hV3 := (unhide HBw3).trans (hV.mono (unhide HBw3).size)
          obtain ⟨e0, e1, e2, e3⟩ := hcy0 V hV3
          obtain ⟨-, -, -, u3, u4, u5, u6⟩ := unhide HRC V hV3
          rw [ha0] at u3
          simp only [Nat.zero_mul, Nat.add_zero] at e0 e1 e2 e3
          exact ⟨e0, e1, e2, e3, u3, u4, u5, u6⟩)
        obtain ⟨FY, hFY⟩ : ∃ FY, FY = valO (evalX S y) := ⟨_, rfl⟩
        obtain ⟨NY, hNY⟩ : ∃ NY, NY = errO (evalX S y) := ⟨_, rfl⟩
        have HFY := hide (And.intro hFY hNY)
        have HCT0 : Hid (∀ W, Below w3.heap.size w3 W → Calls Tryz.prog 39 #[.agg (rsc S), .agg (exV y (A 0) (C 0))] W fun e w' => (e = .returned (.tuple #[.agg (fv FY), .int .i64 NY]) ∧ small FY) ∧ Below W.heap.size W w') := hide (fun W hW => (unhide HI0 W ((unhide HBw3).trans (hW.mono (unhide HBw3).size))).mono fun e w' h => ⟨by rw [hFY, hNY]; exact caught_two h.1, h.2⟩)
        have R00 : Hid (Below w3.heap.size w3 w3.drew) := hide (Below.refl _ _).drew
        have RA0 : Hid (Below w3.heap.size w3 (w3.alloc (.cells (fv fld0) 37)).drew) := hide (((Below.refl _ _).alloc (Nat.le_refl _) _).drew)
        have S00 := hide (unhide HSV0 _ (unhide R00))
        have SA0 := hide (unhide HSV0 _ (unhide RA0))
        have SB0 := hide (unhide HSV0 _ (Below.refl _ _))
        have C00 := hide (unhide HCT0 _ (unhide R00))
        have CA0 := hide (unhide HCT0 _ (unhide RA0))
        have FA0 : Hid (FBox (w3.alloc (.cells (fv fld0) 37)).drew w3.heap.size fld0) := hide (FBox.new w3 fld0)

        clear hcy0 HI0 HCT0 hFY hNY hy0 hi0
        subst ha0
        have hlt0 : 0 < L := by rw [(unhide HX).2.2.2, unhide HXA]; simp
        have hltI0 : (0 : Int) < (L : Int) := by omega
        go_cut [6, 7] from 45 to 99 (fun t6 t7 W => EvlR w3 FY NY t6 t7 W ∧ small FY)
        case first =>
          obtain ⟨FYn, FYt, FYi, FYz⟩ := FY
          clear x1 x2
          go_region_held3 (fun V => V.cell? ⟨b, off, none⟩ = some (.int .i64 y.kind) ∧ V.cell? ⟨b, off + 1, none⟩ = some (.int .i64 y.n) ∧ V.cell? ⟨b, off + 2, none⟩ = some (sv y.s) ∧ V.cell? ⟨b, off + 3, none⟩ = some (.slice (A 0) y.args.length (C 0)) ∧ V.cell? ⟨q, 3, none⟩ = some (.slice (some ⟨b, off, none⟩) L c) ∧ V.cell? ⟨p, 0, none⟩ = some (sv S.stream) ∧ V.cell? ⟨p, 1, none⟩ = some (.slice S.sa S.state.length S.sc) ∧ V.cell? ⟨p, 2, none⟩ = some (.slice S.ga S.given.length S.gc))
            (first | with_reducible exact unhide SB0 | with_reducible exact unhide S00 | with_reducible exact unhide SA0 | (refine unhide HSV0 _ ?_; first | with_reducible exact unhide B6 | with_reducible exact (unhide B6).alloc (unhide B6).size _ | exact below_put (unhide B6) (Nat.le_refl _) _ _ _ _))
            ((go_at_call 39; (first
              | ((with_reducible refine (unhide C00).mono ?_); rintro e w6 ⟨⟨rfl, hf⟩, b6⟩; have HF := hide hf; have B6 := hide ((unhide R00).trans (b6.mono (unhide R00).size)); clear hf b6)
              | ((with_reducible refine (unhide CA0).mono ?_); rintro e w6 ⟨⟨rfl, hf⟩, b6⟩; have HF := hide hf; have F6 := hide ((unhide FA0).below b6 (Nat.le_refl _)); have B6 := hide ((unhide RA0).trans (b6.mono (unhide RA0).size)); obtain ⟨m0, m1, m2, m3, m4⟩ := (unhide F6).cells; clear hf b6))))
          all_goals
            rename_i hh
            clear hh
            try clear m0 m1 m2 m3 m4
            go_wp2
            go_meet
            first
              | exact ⟨EvlR.new (F := ⟨FYn, FYt, FYi, FYz⟩) (unhide B6), unhide HF⟩
              | exact ⟨EvlR.put (F := ⟨FYn, FYt, FYi, FYz⟩) (unhide B6) (Nat.le_refl _) (unhide F6), unhide HF⟩
        case rest =>
          obtain ⟨⟨qFY, rfl, rfl, hfbFY, hbelFY, hqFY⟩, hsmFY⟩ := hcut
          have HFBFY := hide hfbFY
          have HSMFY := hide hsmFY
          rename World => WFY
          have HBWFY := hide ((unhide HBw3).trans (hbelFY.mono (unhide HBw3).size))
          have HBNFY := hide hbelFY
          clear hfbFY hsmFY hbelFY S00 SA0 SB0 C00 CA0 R00 RA0 FA0 HSV0 hlt0 hltI0
          rcases frm_nz (S := S) (unhide HFy) with hne | ⟨fy, hok⟩
          · have hNe : NY ≠ 0 := by rw [(unhide HFY).2]; exact hne
            have HRe : Hid (R = .error NY) := hide (by
              cases he : evalX S y with
              | ok f => exact absurd (show errO (evalX S y) = 0 by rw [he]; rfl) hne
              | error n =>
                have hn : NY = n := by rw [(unhide HFY).2, he]; rfl
                rw [hn, unhide HR, evalX_one (unhide HXA), he])
            have hb0 : (NY != 0) = true := by simpa using hNe
            have HB := hide (unhide HRB WFY fld0 NY (unhide HBWFY) (by rw [unhide HRe]; rfl) (by rw [unhide HRe]; rfl) small0)
            obtain ⟨⟨r0, r1, r2, r3⟩, rf, u0, u3, -⟩ := unhide HRC WFY (unhide HBWFY)
            clear hNe hne
            go_wp2_with fail
            exact bodyPost_ret (results_ct rfl _ _ r 37 (fv ⟨[], false, 0, []⟩) (0, 0) _ (.int .i64 NY) rfl rfl (unhide HB).1 Tryz.underlying37 rfl sizeField) rfl ⟨(unhide HB).2.2, (unhide HB).2.1⟩
          · have hN0 : NY = 0 := by rw [(unhide HFY).2, hok]; rfl
            have hF0 : FY = fy := by rw [(unhide HFY).1, hok]; rfl
            subst hN0
            subst hF0
            have HOKFY := hide hok
            clear hok

            have HRt : Hid (R = opX S 10 nn ss [FY]) := hide (by rw [unhide HR, evalX_one (unhide HXA), unhide HOKFY]; simp only; rw [← (unhide HX).1, ← (unhide HX).2.1, ← (unhide HX).2.2.1])
            obtain ⟨y0, y1, y2, y3, -⟩ := (unhide HFBFY).cells
            obtain ⟨⟨r0, r1, r2, r3⟩, rf, u0, u3, -⟩ := unhide HRC WFY (unhide HBWFY)
            have HSM := unhide HSMFY
            obtain ⟨yn, yt, yi, yz⟩ := FY
            simp only at y0 y1 y2 y3
            cases yt with
            | true =>
              have HRe : Hid (R = .ok ⟨[], false, (yz.length : Int), []⟩) := hide (by rw [unhide HRt]; rfl)
              have HB := hide (unhide HRB WFY ⟨[], false, (yz.length : Int), []⟩ 0 (unhide HBWFY) (by rw [unhide HRe]; rfl) (by rw [unhide HRe]; rfl) ⟨by show 0 ≤ _; omega, by show _ ≤ (yz.length : Int); omega, by have := HSM.1; simp only at this; show (yz.length : Int) ≤ _; omega⟩)
              go_wp2_with fail
              exact bodyPost_ret (results_ct rfl _ _ r 37 (fv ⟨[], false, (yz.length : Int), []⟩) (0, 0) _ (.int .i64 0) rfl rfl (unhide HB).1 Tryz.underlying37 rfl sizeField) rfl ⟨(unhide HB).2.2, (unhide HB).2.1⟩
            | false =>
              have HRe : Hid (R = .error 134) := hide (by rw [unhide HRt]; rfl)
              have HB := hide (unhide HRB WFY fld0 134 (unhide HBWFY) (by rw [unhide HRe]; rfl) (by rw [unhide HRe]; rfl) small0)
              go_wp2_with fail
              exact bodyPost_ret (results_ct rfl _ _ r 37 (fv ⟨[], false, 0, []⟩) (0, 0) _ (.int .i64 134) rfl rfl (unhide HB).1 Tryz.underlying37 rfl sizeField) rfl ⟨(unhide HB).2.2, (unhide HB).2.1⟩
      · go_upto_region 12 with fail
        have hi0 : 0 < x.args.length := by rw [unhide HXA]; simp
        obtain ⟨ha0, hcy0⟩ := unhide HC 0 hi0
        have hy0 : x.args[0]'hi0 = y := by simp [unhide HXA]
        have HI0 := hide (fun W hW => unhide HIH 0 hi0 (by rw [hy0]; exact unhide HFy) W hW)
        rw [hy0] at hcy0 HI0
        have HSV0 : Hid (∀ V, Below w3.heap.size w3 V → V.cell? ⟨b, off, none⟩ = some (.int .i64 y.kind) ∧ V.cell? ⟨b, off + 1, none⟩ = some (.int .i64 y.n) ∧ V.cell? ⟨b, off + 2, none⟩ = some (sv y.s) ∧ V.cell? ⟨b, off + 3, none⟩ = some (.slice (A 0) y.args.length (C 0)) ∧ V.cell? ⟨q, 3, none⟩ = some (.slice (some ⟨b, off, none⟩) L c) ∧ V.cell? ⟨p, 0, none⟩ = some (sv S.stream) ∧ V.cell? ⟨p, 1, none⟩ = some (.slice S.sa S.state.length S.sc) ∧ V.cell? ⟨p, 2, none⟩ = some (.slice S.ga S.given.length S.gc)) := hide (fun V hV => by
          have hV3 := (unhide HBw3).trans (hV.mono (unhide HBw3).size)
          obtain ⟨e0, e1, e2, e3⟩ := hcy0 V hV3
          obtain ⟨-, -, -, u3, u4, u5, u6⟩ := unhide HRC V hV3
          rw [ha0] at u3
          simp only [Nat.zero_mul, Nat.add_zero] at e0 e1 e2 e3
          exact ⟨e0, e1, e2, e3, u3, u4, u5, u6⟩)
        obtain ⟨FY, hFY⟩ : ∃ FY, FY = valO (evalX S y) := ⟨_, rfl⟩
        obtain ⟨NY, hNY⟩ : ∃ NY, NY = errO (evalX S y) := ⟨_, rfl⟩
        have HFY := hide (And.intro hFY hNY)
        have HCT0 : Hid (∀ W, Below w3.heap.size w3 W → Calls Tryz.prog 39 #[.agg (rsc S), .agg (exV y (A 0) (C 0))] W fun e w' => (e = .returned (.tuple #[.agg (fv FY), .int .i64 NY]) ∧ small FY) ∧ Below W.heap.size W w') := hide (fun W hW => (unhide HI0 W ((unhide HBw3).trans (hW.mono (unhide HBw3).size))).mono fun e w' h => ⟨by rw [hFY, hNY]; exact caught_two h.1, h.2⟩)
        have R00 : Hid (Below w3.heap.size w3 w3.drew) := hide (Below.refl _ _).drew
        have RA0 : Hid (Below w3.heap.size w3 (w3.alloc (.cells (fv fld0) 37)).drew) := hide (((Below.refl _ _).alloc (Nat.le_refl _) _).drew)
        have S00 := hide (unhide HSV0 _ (unhide R00))
        have SA0 := hide (unhide HSV0 _ (unhide RA0))
        have SB0 := hide (unhide HSV0 _ (Below.refl _ _))
        have C00 := hide (unhide HCT0 _ (unhide R00))
        have CA0 := hide (unhide HCT0 _ (unhide RA0))
        have FA0 : Hid (FBox (w3.alloc (.cells (fv fld0) 37)).drew w3.heap.size fld0) := hide (FBox.new w3 fld0)

        clear hcy0 HI0 HCT0 hFY hNY hy0 hi0
        subst ha0
        have hlt0 : 0 < L := by rw [(unhide HX).2.2.2, unhide HXA]; simp
        have hltI0 : (0 : Int) < (L : Int) := by omega
        go_cut [6, 7] from 45 to 99 (fun t6 t7 W => EvlR w3 FY NY t6 t7 W ∧ small FY)
        case first =>
          obtain ⟨FYn, FYt, FYi, FYz⟩ := FY
          clear x1 x2
          go_region_held3 (fun V => V.cell? ⟨b, off, none⟩ = some (.int .i64 y.kind) ∧ V.cell? ⟨b, off + 1, none⟩ = some (.int .i64 y.n) ∧ V.cell? ⟨b, off + 2, none⟩ = some (sv y.s) ∧ V.cell? ⟨b, off + 3, none⟩ = some (.slice (A 0) y.args.length (C 0)) ∧ V.cell? ⟨q, 3, none⟩ = some (.slice (some ⟨b, off, none⟩) L c) ∧ V.cell? ⟨p, 0, none⟩ = some (sv S.stream) ∧ V.cell? ⟨p, 1, none⟩ = some (.slice S.sa S.state.length S.sc) ∧ V.cell? ⟨p, 2, none⟩ = some (.slice S.ga S.given.length S.gc))
            (first | with_reducible exact unhide SB0 | with_reducible exact unhide S00 | with_reducible exact unhide SA0 | (refine unhide HSV0 _ ?_; first | with_reducible exact unhide B6 | with_reducible exact (unhide B6).alloc (unhide B6).size _ | exact below_put (unhide B6) (Nat.le_refl _) _ _ _ _))
            ((go_at_call 39; (first
              | ((with_reducible refine (unhide C00).mono ?_); rintro e w6 ⟨⟨rfl, hf⟩, b6⟩; have HF := hide hf; have B6 := hide ((unhide R00).trans (b6.mono (unhide R00).size)); clear hf b6)
              | ((with_reducible refine (unhide CA0).mono ?_); rintro e w6 ⟨⟨rfl, hf⟩, b6⟩; have HF := hide hf; have F6 := hide ((unhide FA0).below b6 (Nat.le_refl _)); have B6 := hide ((unhide RA0).trans (b6.mono (unhide RA0).size)); obtain ⟨m0, m1, m2, m3, m4⟩ := (unhide F6).cells; clear hf b6))))
          all_goals
            rename_i hh
            clear hh
            try clear m0 m1 m2 m3 m4
            go_wp2
            go_meet
            first
              | exact ⟨EvlR.new (F := ⟨FYn, FYt, FYi, FYz⟩) (unhide B6), unhide HF⟩
              | exact ⟨EvlR.put (F := ⟨FYn, FYt, FYi, FYz⟩) (unhide B6) (Nat.le_refl _) (unhide F6), unhide HF⟩
        case rest =>
          obtain ⟨⟨qFY, rfl, rfl, hfbFY, hbelFY, hqFY⟩, hsmFY⟩ := hcut
          have HFBFY := hide hfbFY
          have HSMFY := hide hsmFY
          rename World => WFY
          have HBWFY := hide ((unhide HBw3).trans (hbelFY.mono (unhide HBw3).size))
          have HBNFY := hide hbelFY
          clear hfbFY hsmFY hbelFY S00 SA0 SB0 C00 CA0 R00 RA0 FA0 HSV0 hlt0 hltI0
          rcases frm_nz (S := S) (unhide HFy) with hne | ⟨fy, hok⟩
          · have hNe : NY ≠ 0 := by rw [(unhide HFY).2]; exact hne
            have HRe : Hid (R = .error NY) := hide (by
              cases he : evalX S y with
              | ok f => exact absurd (show errO (evalX S y) = 0 by rw [he]; rfl) hne
              | error n =>
                have hn : NY = n := by rw [(unhide HFY).2, he]; rfl
                rw [hn, unhide HR, evalX_one (unhide HXA), he])
            have hb0 : (NY != 0) = true := by simpa using hNe
            have HB := hide (unhide HRB WFY fld0 NY (unhide HBWFY) (by rw [unhide HRe]; rfl) (by rw [unhide HRe]; rfl) small0)
            obtain ⟨⟨r0, r1, r2, r3⟩, rf, u0, u3, -⟩ := unhide HRC WFY (unhide HBWFY)
            clear hNe hne
            go_wp2_with fail
            exact bodyPost_ret (results_ct rfl _ _ r 37 (fv ⟨[], false, 0, []⟩) (0, 0) _ (.int .i64 NY) rfl rfl (unhide HB).1 Tryz.underlying37 rfl sizeField) rfl ⟨(unhide HB).2.2, (unhide HB).2.1⟩
          · have hN0 : NY = 0 := by rw [(unhide HFY).2, hok]; rfl
            have hF0 : FY = fy := by rw [(unhide HFY).1, hok]; rfl
            subst hN0
            subst hF0
            have HOKFY := hide hok
            clear hok

            have HRt : Hid (R = opX S 11 nn ss [FY]) := hide (by rw [unhide HR, evalX_one (unhide HXA), unhide HOKFY]; simp only; rw [← (unhide HX).1, ← (unhide HX).2.1, ← (unhide HX).2.2.1])
            obtain ⟨y0, y1, y2, y3, -⟩ := (unhide HFBFY).cells
            obtain ⟨⟨r0, r1, r2, r3⟩, rf, u0, u3, -⟩ := unhide HRC WFY (unhide HBWFY)
            have HSM := unhide HSMFY
            obtain ⟨yn, yt, yi, yz⟩ := FY
            simp only at y0 y1 y2 y3
            cases yt with
            | true =>
              have HRe : Hid (R = .error 134) := hide (by rw [unhide HRt]; rfl)
              have HB := hide (unhide HRB WFY fld0 134 (unhide HBWFY) (by rw [unhide HRe]; rfl) (by rw [unhide HRe]; rfl) small0)
              go_wp2_with fail
              exact bodyPost_ret (results_ct rfl _ _ r 37 (fv ⟨[], false, 0, []⟩) (0, 0) _ (.int .i64 134) rfl rfl (unhide HB).1 Tryz.underlying37 rfl sizeField) rfl ⟨(unhide HB).2.2, (unhide HB).2.1⟩
            | false =>
              have HRe : Hid (R = .ok ⟨[], true, 0, Lib.itoa yi⟩) := hide (by rw [unhide HRt]; rfl)
              have HSI : Hid (small ⟨[], true, 0, Lib.itoa yi⟩) := hide ⟨by have := itoa_short HSM.2; simp only at this; show (Lib.itoa yi).length ≤ _; omega, by show _ ≤ (0 : Int); omega, by show (0 : Int) ≤ _; omega⟩
              have HI := hide (Itoa_go yi HSM.2.1 HSM.2.2 WFY ((unhide HV3).below (unhide HBWFY) (Nat.le_refl _)))
              obtain ⟨J, hJ⟩ : ∃ J, J = Lib.itoa yi := ⟨_, rfl⟩
              rw [← hJ] at HRe HSI HI
              have HT := hide (fun W => rtext_any J W)
              have HB := hide (fun W hW => unhide HRB W ⟨[], true, 0, J⟩ 0 hW (by rw [unhide HRe]; rfl) (by rw [unhide HRe]; rfl) (unhide HSI))
              clear hJ r0 r1 r2 r3 rf HSM
              go_wp2_with (first | (go_at_call 96; refine (unhide HI).mono ?_; rintro e w4 ⟨rfl, b4⟩; have HB4 := hide ((unhide HBWFY).trans (b4.mono (unhide HBWFY).size)); clear b4) | (go_at_call 93; refine (unhide HT _).mono ?_; rintro e w5 ⟨rfl, b5⟩; have b35 := (unhide HB4).trans (b5.mono (unhide HB4).size); obtain ⟨⟨r0, r1, r2, r3⟩, rf, -⟩ := unhide HRC w5 b35; have HB5 := hide (unhide HB w5 b35); clear b5 b35))
              exact bodyPost_ret (results_ct rfl _ _ r 37 (fv ⟨[], true, 0, J⟩) (0, 0) _ (.int .i64 0) rfl rfl (unhide HB5).1 Tryz.underlying37 rfl sizeField) rfl ⟨(unhide HB5).2.2, (unhide HB5).2.1⟩
    · obtain ⟨y, z, hxa⟩ := len_two (l := x.args) (by rw [← (unhide HX).2.2.2]; exact hL2)
      have hfl2 := unhide HFL
      rw [hxa, frmL_cons, frmL_cons, Bool.and_eq_true, Bool.and_eq_true] at hfl2
      have HFy := hide hfl2.1
      have HFz := hide hfl2.2.1
      have HXA := hide hxa
      clear hfl2 hxa
      have k1 : (K == 1) = false := beq_eq_false_iff_ne.2 (by omega)
      have k2 : (K == 2) = false := beq_eq_false_iff_ne.2 (by omega)
      have k3 : (K == 3) = false := beq_eq_false_iff_ne.2 (by omega)
      have k4 : (K == 4) = false := beq_eq_false_iff_ne.2 (by omega)
      have k5 : (K == 5) = false := beq_eq_false_iff_ne.2 (by omega)
      have HBw3 : Hid (Below w3.heap.size w3 w3) := hide (Below.refl _ _)
      clear r0 r1 r2 r3 rf

      have HKb := hide (And.intro hk6 hk9)
      clear hk6 hk9 HFL HN63
      have hl2 : ((L : Int) == 2) = true := by rw [hL2]; rfl
      clear hL2
      go_upto_region 12 with fail
      have hi0 : 0 < x.args.length := by rw [unhide HXA]; simp
      obtain ⟨ha0, hcy0⟩ := unhide HC 0 hi0
      have hy0 : x.args[0]'hi0 = y := by simp [unhide HXA]
      have HI0 := hide (fun W hW => unhide HIH 0 hi0 (by rw [hy0]; exact unhide HFy) W hW)
      rw [hy0] at hcy0 HI0
      have HSV0 : Hid (∀ V, Below w3.heap.size w3 V → V.cell? ⟨b, off, none⟩ = some (.int .i64 y.kind) ∧ V.cell? ⟨b, off + 1, none⟩ = some (.int .i64 y.n) ∧ V.cell? ⟨b, off + 2, none⟩ = some (sv y.s) ∧ V.cell? ⟨b, off + 3, none⟩ = some (.slice (A 0) y.args.length (C 0)) ∧ V.cell? ⟨q, 3, none⟩ = some (.slice (some ⟨b, off, none⟩) L c) ∧ V.cell? ⟨p, 0, none⟩ = some (sv S.stream) ∧ V.cell? ⟨p, 1, none⟩ = some (.slice S.sa S.state.length S.sc) ∧ V.cell? ⟨p, 2, none⟩ = some (.slice S.ga S.given.length S.gc)) := hide (fun V hV => by
        have hV3 := (unhide HBw3).trans (hV.mono (unhide HBw3).size)
        obtain ⟨e0, e1, e2, e3⟩ := hcy0 V hV3
        obtain ⟨-, -, -, u3, u4, u5, u6⟩ := unhide HRC V hV3
        rw [ha0] at u3
        simp only [Nat.zero_mul, Nat.add_zero] at e0 e1 e2 e3
        exact ⟨e0, e1, e2, e3, u3, u4, u5, u6⟩)
      obtain ⟨FY, hFY⟩ : ∃ FY, FY = valO (evalX S y) := ⟨_, rfl⟩
      obtain ⟨NY, hNY⟩ : ∃ NY, NY = errO (evalX S y) := ⟨_, rfl⟩
      have HFY := hide (And.intro hFY hNY)
      have HCT0 : Hid (∀ W, Below w3.heap.size w3 W → Calls Tryz.prog 39 #[.agg (rsc S), .agg (exV y (A 0) (C 0))] W fun e w' => (e = .returned (.tuple #[.agg (fv FY), .int .i64 NY]) ∧ small FY) ∧ Below W.heap.size W w') := hide (fun W hW => (unhide HI0 W ((unhide HBw3).trans (hW.mono (unhide HBw3).size))).mono fun e w' h => ⟨by rw [hFY, hNY]; exact caught_two h.1, h.2⟩)
      have R00 : Hid (Below w3.heap.size w3 w3.drew) := hide (Below.refl _ _).drew
      have RA0 : Hid (Below w3.heap.size w3 (w3.alloc (.cells (fv fld0) 37)).drew) := hide (((Below.refl _ _).alloc (Nat.le_refl _) _).drew)
      have S00 := hide (unhide HSV0 _ (unhide R00))
      have SA0 := hide (unhide HSV0 _ (unhide RA0))
      have SB0 := hide (unhide HSV0 _ (Below.refl _ _))
      have C00 := hide (unhide HCT0 _ (unhide R00))
      have CA0 := hide (unhide HCT0 _ (unhide RA0))
      have FA0 : Hid (FBox (w3.alloc (.cells (fv fld0) 37)).drew w3.heap.size fld0) := hide (FBox.new w3 fld0)

      clear hcy0 HI0 HCT0 hFY hNY hy0 hi0
      subst ha0
      have hlt0 : 0 < L := by rw [(unhide HX).2.2.2, unhide HXA]; simp
      have hltI0 : (0 : Int) < (L : Int) := by omega
      go_cut [6, 7] from 45 to 99 (fun t6 t7 W => EvlR w3 FY NY t6 t7 W ∧ small FY)
      case first =>
        obtain ⟨FYn, FYt, FYi, FYz⟩ := FY
        clear x1 x2
        go_region_held3 (fun V => V.cell? ⟨b, off, none⟩ = some (.int .i64 y.kind) ∧ V.cell? ⟨b, off + 1, none⟩ = some (.int .i64 y.n) ∧ V.cell? ⟨b, off + 2, none⟩ = some (sv y.s) ∧ V.cell? ⟨b, off + 3, none⟩ = some (.slice (A 0) y.args.length (C 0)) ∧ V.cell? ⟨q, 3, none⟩ = some (.slice (some ⟨b, off, none⟩) L c) ∧ V.cell? ⟨p, 0, none⟩ = some (sv S.stream) ∧ V.cell? ⟨p, 1, none⟩ = some (.slice S.sa S.state.length S.sc) ∧ V.cell? ⟨p, 2, none⟩ = some (.slice S.ga S.given.length S.gc))
          (first | with_reducible exact unhide SB0 | with_reducible exact unhide S00 | with_reducible exact unhide SA0 | (refine unhide HSV0 _ ?_; first | with_reducible exact unhide B6 | with_reducible exact (unhide B6).alloc (unhide B6).size _ | exact below_put (unhide B6) (Nat.le_refl _) _ _ _ _))
          ((go_at_call 39; (first
            | ((with_reducible refine (unhide C00).mono ?_); rintro e w6 ⟨⟨rfl, hf⟩, b6⟩; have HF := hide hf; have B6 := hide ((unhide R00).trans (b6.mono (unhide R00).size)); clear hf b6)
            | ((with_reducible refine (unhide CA0).mono ?_); rintro e w6 ⟨⟨rfl, hf⟩, b6⟩; have HF := hide hf; have F6 := hide ((unhide FA0).below b6 (Nat.le_refl _)); have B6 := hide ((unhide RA0).trans (b6.mono (unhide RA0).size)); obtain ⟨m0, m1, m2, m3, m4⟩ := (unhide F6).cells; clear hf b6))))
        all_goals
          rename_i hh
          clear hh
          try clear m0 m1 m2 m3 m4
          go_wp2
          go_meet
          first
            | exact ⟨EvlR.new (F := ⟨FYn, FYt, FYi, FYz⟩) (unhide B6), unhide HF⟩
            | exact ⟨EvlR.put (F := ⟨FYn, FYt, FYi, FYz⟩) (unhide B6) (Nat.le_refl _) (unhide F6), unhide HF⟩
      case rest =>
        obtain ⟨⟨qFY, rfl, rfl, hfbFY, hbelFY, hqFY⟩, hsmFY⟩ := hcut
        have HFBFY := hide hfbFY
        have HSMFY := hide hsmFY
        rename World => WFY
        have HBWFY := hide ((unhide HBw3).trans (hbelFY.mono (unhide HBw3).size))
        have HBNFY := hide hbelFY
        clear hfbFY hsmFY hbelFY S00 SA0 SB0 C00 CA0 R00 RA0 FA0 HSV0 hlt0 hltI0
        rcases frm_nz (S := S) (unhide HFy) with hne | ⟨fy, hok⟩
        · have hNe : NY ≠ 0 := by rw [(unhide HFY).2]; exact hne
          have HRe : Hid (R = .error NY) := hide (by
            cases he : evalX S y with
            | ok f => exact absurd (show errO (evalX S y) = 0 by rw [he]; rfl) hne
            | error n =>
              have hn : NY = n := by rw [(unhide HFY).2, he]; rfl
              rw [hn, unhide HR, evalX_two (unhide HXA), he])
          have hb0 : (NY != 0) = true := by simpa using hNe
          have HB := hide (unhide HRB WFY fld0 NY (unhide HBWFY) (by rw [unhide HRe]; rfl) (by rw [unhide HRe]; rfl) small0)
          obtain ⟨⟨r0, r1, r2, r3⟩, rf, u0, u3, -⟩ := unhide HRC WFY (unhide HBWFY)
          clear hNe hne
          go_wp2_with fail
          exact bodyPost_ret (results_ct rfl _ _ r 37 (fv ⟨[], false, 0, []⟩) (0, 0) _ (.int .i64 NY) rfl rfl (unhide HB).1 Tryz.underlying37 rfl sizeField) rfl ⟨(unhide HB).2.2, (unhide HB).2.1⟩
        · have hN0 : NY = 0 := by rw [(unhide HFY).2, hok]; rfl
          have hF0 : FY = fy := by rw [(unhide HFY).1, hok]; rfl
          subst hN0
          subst hF0
          have HOKFY := hide hok
          clear hok

          obtain ⟨-, -, u0, u3, u4, u5, u6⟩ := unhide HRC WFY (unhide HBWFY)
          have HBWq := hide (unhide HBWFY)
          go_upto_region 16 with fail
          have hi1 : 1 < x.args.length := by rw [unhide HXA]; simp
          obtain ⟨ha1, hcy1⟩ := unhide HC 1 hi1
          have hy1 : x.args[1]'hi1 = z := by simp [unhide HXA]
          have HI1 := hide (fun W hW => unhide HIH 1 hi1 (by rw [hy1]; exact unhide HFz) W hW)
          rw [hy1] at hcy1 HI1
          have HSV1 : Hid (∀ V, Below WFY.heap.size WFY V → V.cell? ⟨b, off + 4, none⟩ = some (.int .i64 z.kind) ∧ V.cell? ⟨b, off + 5, none⟩ = some (.int .i64 z.n) ∧ V.cell? ⟨b, off + 6, none⟩ = some (sv z.s) ∧ V.cell? ⟨b, off + 7, none⟩ = some (.slice (A 1) z.args.length (C 1)) ∧ V.cell? ⟨q, 3, none⟩ = some (.slice (some ⟨b, off, none⟩) L c) ∧ V.cell? ⟨p, 0, none⟩ = some (sv S.stream) ∧ V.cell? ⟨p, 1, none⟩ = some (.slice S.sa S.state.length S.sc) ∧ V.cell? ⟨p, 2, none⟩ = some (.slice S.ga S.given.length S.gc)) := hide (fun V hV => by
            have hV3 := (unhide HBWFY).trans (hV.mono (unhide HBWFY).size)
            obtain ⟨e0, e1, e2, e3⟩ := hcy1 V hV3
            obtain ⟨-, -, -, u3, u4, u5, u6⟩ := unhide HRC V hV3

            simp only [Nat.one_mul, Nat.add_assoc, Nat.reduceAdd] at e0 e1 e2 e3
            exact ⟨e0, e1, e2, e3, u3, u4, u5, u6⟩)
          obtain ⟨FZ, hFZ⟩ : ∃ FZ, FZ = valO (evalX S z) := ⟨_, rfl⟩
          obtain ⟨NZ, hNZ⟩ : ∃ NZ, NZ = errO (evalX S z) := ⟨_, rfl⟩
          have HFZ := hide (And.intro hFZ hNZ)
          have HCT1 : Hid (∀ W, Below WFY.heap.size WFY W → Calls Tryz.prog 39 #[.agg (rsc S), .agg (exV z (A 1) (C 1))] W fun e w' => (e = .returned (.tuple #[.agg (fv FZ), .int .i64 NZ]) ∧ small FZ) ∧ Below W.heap.size W w') := hide (fun W hW => (unhide HI1 W ((unhide HBWFY).trans (hW.mono (unhide HBWFY).size))).mono fun e w' h => ⟨by rw [hFZ, hNZ]; exact caught_two h.1, h.2⟩)
          have R01 : Hid (Below WFY.heap.size WFY WFY.drew) := hide (Below.refl _ _).drew
          have RA1 : Hid (Below WFY.heap.size WFY (WFY.alloc (.cells (fv fld0) 37)).drew) := hide (((Below.refl _ _).alloc (Nat.le_refl _) _).drew)
          have S01 := hide (unhide HSV1 _ (unhide R01))
          have SA1 := hide (unhide HSV1 _ (unhide RA1))
          have SB1 := hide (unhide HSV1 _ (Below.refl _ _))
          have C01 := hide (unhide HCT1 _ (unhide R01))
          have CA1 := hide (unhide HCT1 _ (unhide RA1))
          have FA1 : Hid (FBox (WFY.alloc (.cells (fv fld0) 37)).drew WFY.heap.size fld0) := hide (FBox.new WFY fld0)

          clear hcy1 HI1 HCT1 hFZ hNZ hy1 hi1

          have hlt1 : 1 < L := by rw [(unhide HX).2.2.2, unhide HXA]; simp
          have hltI1 : (1 : Int) < (L : Int) := by omega
          go_cut [8, 9] from 62 to 99 (fun t6 t7 W => EvlR WFY FZ NZ t6 t7 W ∧ small FZ)
          case first =>
            obtain ⟨FZn, FZt, FZi, FZz⟩ := FZ
            clear x1 x2
            go_region_held3 (fun V => V.cell? ⟨b, off + 4, none⟩ = some (.int .i64 z.kind) ∧ V.cell? ⟨b, off + 5, none⟩ = some (.int .i64 z.n) ∧ V.cell? ⟨b, off + 6, none⟩ = some (sv z.s) ∧ V.cell? ⟨b, off + 7, none⟩ = some (.slice (A 1) z.args.length (C 1)) ∧ V.cell? ⟨q, 3, none⟩ = some (.slice (some ⟨b, off, none⟩) L c) ∧ V.cell? ⟨p, 0, none⟩ = some (sv S.stream) ∧ V.cell? ⟨p, 1, none⟩ = some (.slice S.sa S.state.length S.sc) ∧ V.cell? ⟨p, 2, none⟩ = some (.slice S.ga S.given.length S.gc))
              (first | with_reducible exact unhide SB1 | with_reducible exact unhide S01 | with_reducible exact unhide SA1 | (refine unhide HSV1 _ ?_; first | with_reducible exact unhide B6 | with_reducible exact (unhide B6).alloc (unhide B6).size _ | exact below_put (unhide B6) (Nat.le_refl _) _ _ _ _))
              ((go_at_call 39; (first
                | ((with_reducible refine (unhide C01).mono ?_); rintro e w6 ⟨⟨rfl, hf⟩, b6⟩; have HF := hide hf; have B6 := hide ((unhide R01).trans (b6.mono (unhide R01).size)); clear hf b6)
                | ((with_reducible refine (unhide CA1).mono ?_); rintro e w6 ⟨⟨rfl, hf⟩, b6⟩; have HF := hide hf; have F6 := hide ((unhide FA1).below b6 (Nat.le_refl _)); have B6 := hide ((unhide RA1).trans (b6.mono (unhide RA1).size)); obtain ⟨m0, m1, m2, m3, m4⟩ := (unhide F6).cells; clear hf b6))))
            all_goals
              rename_i hh
              clear hh
              try clear m0 m1 m2 m3 m4
              go_wp2
              go_meet
              first
                | exact ⟨EvlR.new (F := ⟨FZn, FZt, FZi, FZz⟩) (unhide B6), unhide HF⟩
                | exact ⟨EvlR.put (F := ⟨FZn, FZt, FZi, FZz⟩) (unhide B6) (Nat.le_refl _) (unhide F6), unhide HF⟩
          case rest =>
            obtain ⟨⟨qFZ, rfl, rfl, hfbFZ, hbelFZ, hqFZ⟩, hsmFZ⟩ := hcut
            have HFBFZ := hide hfbFZ
            have HSMFZ := hide hsmFZ
            rename World => WFZ
            have HBWFZ := hide ((unhide HBWFY).trans (hbelFZ.mono (unhide HBWFY).size))
            have HBNFZ := hide hbelFZ
            clear hfbFZ hsmFZ hbelFZ S01 SA1 SB1 C01 CA1 R01 RA1 FA1 HSV1 hlt1 hltI1
            rcases frm_nz (S := S) (unhide HFz) with hne | ⟨fz, hok⟩
            · have hNe : NZ ≠ 0 := by rw [(unhide HFZ).2]; exact hne
              have HRe : Hid (R = .error NZ) := hide (by
                cases he : evalX S z with
                | ok f => exact absurd (show errO (evalX S z) = 0 by rw [he]; rfl) hne
                | error n =>
                  have hn : NZ = n := by rw [(unhide HFZ).2, he]; rfl
                  rw [hn, unhide HR, evalX_two (unhide HXA), unhide HOKFY, he])
              have hb0 : (NZ != 0) = true := by simpa using hNe
              have HB := hide (unhide HRB WFZ fld0 NZ (unhide HBWFZ) (by rw [unhide HRe]; rfl) (by rw [unhide HRe]; rfl) small0)
              obtain ⟨⟨r0, r1, r2, r3⟩, rf, u0, u3, -⟩ := unhide HRC WFZ (unhide HBWFZ)
              clear hNe hne
              go_wp2_with fail
              exact bodyPost_ret (results_ct rfl _ _ r 37 (fv ⟨[], false, 0, []⟩) (0, 0) _ (.int .i64 NZ) rfl rfl (unhide HB).1 Tryz.underlying37 rfl sizeField) rfl ⟨(unhide HB).2.2, (unhide HB).2.1⟩
            · have hN0 : NZ = 0 := by rw [(unhide HFZ).2, hok]; rfl
              have hF0 : FZ = fz := by rw [(unhide HFZ).1, hok]; rfl
              subst hN0
              subst hF0
              have HOKFZ := hide hok
              clear hok

              have HRt : Hid (R = twoP K FY FZ) := hide (by rw [unhide HR, evalX_two (unhide HXA), unhide HOKFY, unhide HOKFZ]; simp only; rw [← (unhide HX).1]; exact opX_two _ _ _ _ _ _ (unhide HKb))
              have HT := hide (rtwo_any K (unhide HKb) FY FZ (unhide HSMFY) (unhide HSMFZ) WFZ)
              have hy4 := (unhide HFBFY).below (unhide HBNFZ) (Nat.le_refl _)
              obtain ⟨y0, y1, y2, y3, -⟩ := hy4.cells
              obtain ⟨z0, z1, z2, z3, -⟩ := (unhide HFBFZ).cells
              obtain ⟨-, -, u0, u3, -⟩ := unhide HRC WFZ (unhide HBWFZ)
              rw [← unhide HRt] at HT
              obtain ⟨F, hF⟩ : ∃ F, F = valO R := ⟨_, rfl⟩
              obtain ⟨N, hN⟩ : ∃ N, N = errO R := ⟨_, rfl⟩
              have HT2 : Hid (Calls Tryz.prog 95 #[.int .i64 K, .agg (fv FY), .agg (fv FZ)] WFZ fun e w' => (e = .returned (.tuple #[.agg (fv F), .int .i64 N]) ∧ small F) ∧ Below WFZ.heap.size WFZ w') := hide ((unhide HT).mono fun e w' h => ⟨by rw [hF, hN]; exact caught_two h.1, h.2⟩)
              have HB2 : Hid (∀ W, Below WFZ.heap.size WFZ W → small F → _) := hide (fun W hW hs => unhide HRB W F N ((unhide HBWFZ).trans (hW.mono (unhide HBWFZ).size)) hF hN hs)
              clear hF hN HT hy4 HRB
              obtain ⟨yn, yt, yi, yz⟩ := FY
              obtain ⟨zn, zt, zi, zz⟩ := FZ
              obtain ⟨fn, ft, fi, fz⟩ := F
              simp only at y0 y1 y2 y3 z0 z1 z2 z3
              go_wp2_with (go_at_call 95; refine (unhide HT2).mono ?_; rintro e w4 ⟨⟨rfl, hsm⟩, b4⟩; obtain ⟨⟨r0, r1, r2, r3⟩, rf, -⟩ := unhide HRC w4 ((unhide HBWFZ).trans (b4.mono (unhide HBWFZ).size)); have HB4 := hide (unhide HB2 w4 b4 hsm); clear b4 hsm)
              exact bodyPost_ret (results_ct rfl _ _ r 37 (fv ⟨fn, ft, fi, fz⟩) (0, 0) _ (.int .i64 N) rfl rfl (unhide HB4).1 Tryz.underlying37 rfl sizeField) rfl ⟨(unhide HB4).2.2, (unhide HB4).2.1⟩
end Go.Proofs.YtclllkbljaomoaaGreatDoor
