/-
  DERIVED. RulesTurns: sums and products the other way round; Not turns answers.
-/
import Derived.Test.YtingpmgpjmlioaaGreatDoorRuSa
import Derived.Test.YtingpmgpjmlioaaGreatDoorRuOd
import Derived.Test.YtingpmgpjmlioaaGreatDoorRuY
import Derived.Test.YtingpmgpjmlioaaGreatDoorRuTb
import Derived.Test.YtingpmgpjmlioaaGreatDoorUpLaid
import Derived.Test.YtingpmgpjmlioaaGreatDoorCards
import Derived.Test.YtingpmgpjmlioaaGreatDoorTie
import Derived.Deep.RegionHeld3
import Derived.SevenTiedAt
namespace Go.Proofs.YtingpmgpjmlioaaGreatDoor
open Go.ChangeShapes Go.WideShapes Go.ChangeAt Go.RowKit
open Go.ChangeMaps (open_string shut_string)
set_option linter.unusedVariables false

def vK (f : Fld) : Int := if f.text then 2 else 1
def vN (f : Fld) : Int := if f.text then 0 else f.n
def vS (f : Fld) : List UInt8 := if f.text then f.s else []
theorem valX_eq (f : Fld) : valX f = .mk (vK f) (vN f) (vS f) [] := by
  unfold valX vK vN vS
  cases f.text <;> rfl
abbrev ex0 : Array Value := #[.int .i64 0, .int .i64 0, .string ⟨#[]⟩, .slice none 0 0]
theorem sizeExpr : (Tryz.prog.info? 44).map (·.size) = some 4 := by kernel_rfl

set_option maxRecDepth 20000 in
set_option maxHeartbeats 4000000 in
theorem uvalue_any (f : Fld) (w : World) : Calls Tryz.prog 14 #[.agg (fv f)] w fun e w' => e = .returned (.agg #[.int .i64 (vK f), .int .i64 (vN f), sv (vS f), .slice none 0 0]) ∧ Below w.heap.size w w' := by
  obtain ⟨hf2, he2⟩ := boxes2 w (.cells (fv f) 48) (.cells ex0 44)
  have hb2 := below2 w (.cells (fv f) 48) (.cells ex0 44)
  obtain ⟨w2, hw2⟩ : ∃ w2, w2 = (w.alloc (.cells (fv f) 48)).alloc (.cells ex0 44) := ⟨_, rfl⟩
  rw [← hw2] at hf2 he2 hb2
  have HW := hide hw2
  have hf : FBox w2 w.heap.size f := hf2
  obtain ⟨f0, f1, f2, f3, -⟩ := hf.cells
  obtain ⟨e0, e1, e2, e3, ef⟩ := cells4 he2
  have HV : Hid (vK f = (if f.text then 2 else 1) ∧ vN f = (if f.text then 0 else f.n) ∧ vS f = (if f.text then f.s else [])) := hide ⟨rfl, rfl, rfl⟩
  obtain ⟨K, hK⟩ : ∃ K, K = vK f := ⟨_, rfl⟩
  obtain ⟨N, hN⟩ : ∃ N, N = vN f := ⟨_, rfl⟩
  obtain ⟨S, hS⟩ : ∃ S, S = vS f := ⟨_, rfl⟩
  rw [← hK, ← hN, ← hS] at HV
  rw [← hK, ← hN, ← hS]
  have HP : Hid (∀ (a b : Int) (s : List UInt8), (put4 w2 (w.heap.size + 1) (.int .i64 a) (.int .i64 b) (sv s) (.slice none 0 0)).heap[w.heap.size + 1]? = some (.cells #[.int .i64 a, .int .i64 b, sv s, .slice none 0 0] 44 (0, 0)) ∧ Below w.heap.size w (put4 w2 (w.heap.size + 1) (.int .i64 a) (.int .i64 b) (sv s) (.slice none 0 0))) := hide (fun a b s => ⟨by
    rw [heap_setCell_same _ (w.heap.size + 1) 3 _ _ _ (heap_setCell_same _ (w.heap.size + 1) 2 _ _ _ (heap_setCell_same _ (w.heap.size + 1) 1 _ _ _ (heap_setCell_same _ (w.heap.size + 1) 0 _ _ _ he2)))]; rfl, below_put4 hb2 (by omega) _ _ _ _⟩)
  clear hK hN hS hw2 hf2 he2 hb2 hf
  obtain ⟨fn, ft, fi, fz⟩ := f
  simp only at f0 f1 f2 f3 HV
  go_enter Tryz.func14, Tryz.ntmps14
  go_upto_region 1 with fail
  rw [show (w.alloc (.cells #[Value.string ⟨fn.toArray⟩, .bool ft, .int .i64 fi, .string ⟨fz.toArray⟩] 48)).alloc (.cells #[Value.int .i64 0, .int .i64 0, .string ⟨#[]⟩, .slice none 0 0] 44) = w2 from (unhide HW).symm]
  cases ft with
  | true =>
    have h := hide (unhide HP 2 0 fz)
    obtain ⟨hK, hN, hS⟩ := unhide HV
    simp only [if_true] at hK hN hS
    subst hK hN hS
    go_wp2_with fail
    exact bodyPost_ret (results_cell_row rfl _ _ (w.heap.size + 1) 44 #[.int .i64 2, .int .i64 0, sv S, .slice none 0 0] (0, 0) _ rfl (unhide h).1 Tryz.underlying44 rfl sizeExpr) rfl ⟨rfl, (unhide h).2⟩
  | false =>
    have h := hide (unhide HP 1 fi [])
    obtain ⟨hK, hN, hS⟩ := unhide HV
    simp only [Bool.false_eq_true, if_false] at hK hN hS
    subst hK hN hS
    go_wp2_with fail
    exact bodyPost_ret (results_cell_row rfl _ _ (w.heap.size + 1) 44 #[.int .i64 1, .int .i64 N, sv [], .slice none 0 0] (0, 0) _ rfl (unhide h).1 Tryz.underlying44 rfl sizeExpr) rfl ⟨rfl, (unhide h).2⟩

/-- The value, or none; the error, or 0. -/
def valY (R : Except Int Fld) : Fld := match R with | .ok f => f | .error _ => fld0
def errY (R : Except Int Fld) : Int := match R with | .ok _ => 0 | .error n => n
theorem small0Y : small fld0 := ⟨by decide, by decide, by decide⟩
theorem caughtY_two {R : Except Int Fld} {e : Ending} (h : CaughtF R e) : e = .returned (.tuple #[.agg (fv (valY R)), .int .i64 (errY R)]) ∧ small (valY R) := by
  cases R with
  | ok f => exact h
  | error n => exact ⟨h, small0Y⟩
/-- The row of two values' expressions. -/
abbrev row8 (f g : Fld) : Array Value := #[.int .i64 (vK f), .int .i64 (vN f), sv (vS f), .slice none 0 0, .int .i64 (vK g), .int .i64 (vN g), sv (vS g), .slice none 0 0]
theorem val_at {w : World} {f : Fld} (h : small f) : ExAt w (valX f) none 0 := by
  refine .mk _ none 0 0 0 (fun _ => none) (fun _ => 0) ?_ (by omega) (fun h => absurd rfl h) ?_ ?_ ?_ (fun i hi => ?_) (fun i hi => ?_)
  · rw [valX_eq]; simp [Ex.args]
  · rw [valX_eq]; show I64 (vK f); unfold vK; split <;> exact ⟨by decide, by decide⟩
  · rw [valX_eq]; show I64 (vN f); unfold vN; split
    · exact zero64
    · exact h.2
  · rw [valX_eq]; show (vS f).length ≤ _; unfold vS; split
    · exact h.1
    · simp
  · rw [valX_eq] at hi; simp [Ex.args] at hi
  · rw [valX_eq] at hi; simp [Ex.args] at hi
theorem two_at {w : World} {gb : Nat} {k : Int} {f g : Fld} (h : w.heap[gb]? = some (.cells (row8 f g) 44 (0, 0))) (hk : I64 k) (hf : small f) (hg : small g) : ExAt w (twoX k f g) (some ⟨gb, 0, none⟩) 2 := by
  have at' : ∀ j u, (row8 f g)[j]? = some u → w.cell? ⟨gb, j, none⟩ = some u := fun j u hu => by
    simp only [World.cell?, h]
    simpa using hu
  refine .mk _ _ 2 gb 0 (fun _ => none) (fun _ => 0) (by simp [twoX, Ex.args]) (by omega) (fun _ => ⟨rfl, lt_of_block h⟩) hk zero64 (by simp [twoX, Ex.s]) (fun i hi => ?_) (fun i hi => ?_)
  · have hi2 : i = 0 ∨ i = 1 := by simp [twoX, Ex.args] at hi; omega
    rcases hi2 with rfl | rfl
    · have e : (twoX k f g).args[0] = valX f := rfl
      rw [e, valX_eq]
      exact ⟨at' 0 _ rfl, at' 1 _ rfl, at' 2 _ rfl, at' 3 _ rfl⟩
    · have e : (twoX k f g).args[1] = valX g := rfl
      rw [e, valX_eq]
      exact ⟨at' 4 _ rfl, at' 5 _ rfl, at' 6 _ rfl, at' 7 _ rfl⟩
  · have hi2 : i = 0 ∨ i = 1 := by simp [twoX, Ex.args] at hi; omega
    rcases hi2 with rfl | rfl
    · exact val_at hf
    · exact val_at hg

/-- What the statement 'p := Expr{..value(x), value(y)..}' leaves. -/
def TwR (w0 : World) (k : Int) (f g : Fld) (t : Value) (W : World) : Prop :=
  ∃ q gb, t = .pointer (some ⟨q, 0, none⟩) ∧ W.heap[q]? = some (.cells #[.int .i64 k, .int .i64 0, .string ⟨#[]⟩, .slice (some ⟨gb, 0, none⟩) 2 2] 44 (0, 0)) ∧ W.heap[gb]? = some (.cells (row8 f g) 44 (0, 0)) ∧ Below w0.heap.size w0 W
theorem TwR.new {w0 W : World} {k : Int} {f g : Fld} (b : Below w0.heap.size w0 W) : TwR w0 k f g (.pointer (some ⟨W.heap.size + 1, 0, none⟩)) ((W.alloc (.cells (row8 f g) 44)).alloc (.cells #[.int .i64 k, .int .i64 0, .string ⟨#[]⟩, .slice (some ⟨W.heap.size, 0, none⟩) 2 2] 44)) := by
  obtain ⟨h1, h2⟩ := boxes2 W (.cells (row8 f g) 44) (.cells #[.int .i64 k, .int .i64 0, .string ⟨#[]⟩, .slice (some ⟨W.heap.size, 0, none⟩) 2 2] 44)
  exact ⟨_, _, rfl, h2, h1, b.trans ((below2 W _ _).mono b.size)⟩
theorem TwR.mid {w0 W : World} {k : Int} {f g : Fld} (b : Below w0.heap.size w0 W) : TwR w0 k f g (.pointer (some ⟨W.heap.size, 0, none⟩)) ((W.alloc (.cells #[.int .i64 k, .int .i64 0, .string ⟨#[]⟩, .slice (some ⟨W.heap.size + 1, 0, none⟩) 2 2] 44)).alloc (.cells (row8 f g) 44)) := by
  obtain ⟨h1, h2⟩ := boxes2 W (.cells #[.int .i64 k, .int .i64 0, .string ⟨#[]⟩, .slice (some ⟨W.heap.size + 1, 0, none⟩) 2 2] 44) (.cells (row8 f g) 44)
  exact ⟨_, _, rfl, h1, h2, b.trans ((below2 W _ _).mono b.size)⟩
theorem TwR.put {w0 W : World} {k : Int} {f g : Fld} {q : Nat} {y0 y1 y2 y3 : Value} (b : Below w0.heap.size w0 W) (hq : w0.heap.size ≤ q) (h0 : W.heap[q]? = some (.cells #[y0, y1, y2, y3] 44 (0, 0))) : TwR w0 k f g (.pointer (some ⟨q, 0, none⟩)) (put4 (W.alloc (.cells (row8 f g) 44)) q (.int .i64 k) (.int .i64 0) (.string ⟨#[]⟩) (.slice (some ⟨W.heap.size, 0, none⟩) 2 2)) := by
  have hql := lt_of_block h0
  have bA : Below W.heap.size W (W.alloc (.cells (row8 f g) 44)) := (Below.refl _ _).alloc (Nat.le_refl _) _
  have h1 := rowKept h0 bA (Nat.le_refl _)
  have h2 : (W.alloc (.cells (row8 f g) 44)).heap[W.heap.size]? = some (.cells (row8 f g) 44 (0, 0)) := heap_alloc_new _ _
  refine ⟨q, W.heap.size, rfl, ?_, ?_, below_put4 (b.trans (bA.mono b.size)) hq _ _ _ _⟩
  · rw [heap_setCell_same _ q 3 _ _ _ (heap_setCell_same _ q 2 _ _ _ (heap_setCell_same _ q 1 _ _ _ (heap_setCell_same _ q 0 _ _ _ h1)))]; rfl
  · rw [heap_put4 _ (by omega)]; exact h2

theorem calls_eq {F : Nat} {args : Array Value} {W : World} {R R' : Except Int Fld} (he : R = R') (h : Calls Tryz.prog F args W fun e w' => CaughtF R e ∧ Below W.heap.size W w') : Calls Tryz.prog F args W fun e w' => e = .returned (.tuple #[.agg (fv (valY R')), .int .i64 (errY R')]) ∧ Below W.heap.size W w' := by
  subst he
  exact h.mono fun e w' q => ⟨(caughtY_two q.1).1, q.2⟩
theorem exV_two (k : Int) (f g : Fld) (gb : Nat) : exV (twoX k f g) (some ⟨gb, 0, none⟩) 2 = #[.int .i64 k, .int .i64 0, .string ⟨#[]⟩, .slice (some ⟨gb, 0, none⟩) 2 2] := rfl
theorem two_go (st : List UInt8) (l m : List Fld) (la : Option Addr) (lc : Nat) (ma : Option Addr) (mc : Nat) (k : Int) (f g : Fld) (gb : Nat) (W : World) (hx : ExAt W (twoX k f g) (some ⟨gb, 0, none⟩) 2) (hl : FdL W (.slice la l.length lc) l) (hm : FdL W (.slice ma m.length mc) m) (hst : st.length ≤ 140737488355328) (hfs : ∀ f ∈ l, small f) (hfg : ∀ f ∈ m, small f) (hva : Vars W) (hk : k = 6 ∨ k = 7 ∨ k = 8) : Calls Tryz.prog 13 #[.agg #[.int .i64 k, .int .i64 0, .string ⟨#[]⟩, .slice (some ⟨gb, 0, none⟩) 2 2], sv st, .slice la l.length lc, .slice ma m.length mc] W fun e w' => e = .returned (.tuple #[.agg (fv (valY (twR k f g))), .int .i64 (errY (twR k f g))]) ∧ Below W.heap.size W w' := by
  rw [← exV_two k f g gb]
  exact calls_eq (R := evalE st l m (twoX k f g)) (R' := twR k f g) (evalE_two st l m hk f g) (Eval_any st l m la lc ma mc (twoX k f g) (some ⟨gb, 0, none⟩) 2 W hx hl hm hst hfs hfg hva)
theorem isSoR_err {st : List UInt8} {l m : List Fld} {d : Cd} {n : Int} (h : isSoR ⟨st, l, m, none, 0, none, 0, 0⟩ d = .error n) : n ≠ 0 := by
  unfold isSoR at h
  split at h
  · unfold hasR at h
    split at h
    · cases h
    · cases h; decide
  · split at h
    · split at h
      · rename_i e he
        cases h
        exact evalE_err (show evalE st l m d.A = _ from he)
      · split at h
        · rename_i e he
          cases h
          exact evalE_err (show evalE st l m d.B = _ from he)
        · unfold cmpR at h
          (repeat' split at h) <;> cases h <;> decide
    · cases h; decide
theorem cbox_frozen {w : World} {q : Nat} {d : Cd} {a : Option Addr} {c : Nat} {a' : Option Addr} {c' : Nat} (h : CBox w q d a c a' c') : ∀ i, w.frozen? ⟨q, i, none⟩ = false := fun i => by simp [World.frozen?, show w.heap[q]? = _ from h]
def bY (R : Except Int Bool) : Bool := match R with | .ok b => b | .error _ => false
def nY (R : Except Int Bool) : Int := match R with | .ok _ => 0 | .error n => n
theorem calls_b {F : Nat} {args : Array Value} {W : World} {R : Except Int Bool} {b : Bool} {n : Int} (hb : bY R = b) (hn : nY R = n) (h : Calls Tryz.prog F args W fun e w' => CaughtB R e ∧ Below W.heap.size W w') : Calls Tryz.prog F args W fun e w' => e = .returned (.tuple #[.bool b, .int .i64 n]) ∧ Below W.heap.size W w' := by
  subst hb hn
  refine h.mono fun e w' q => ⟨?_, q.2⟩
  have h1 := q.1
  cases R <;> exact h1
theorem not_two (st : List UInt8) (l m : List Fld) (d : Cd) : ∃ (b b2 : Bool) (n : Int), bY (holdsE st l m d) = b ∧ nY (holdsE st l m d) = n ∧ bY (holdsE st l m ⟨d.kind, !d.neg, d.A, d.B⟩) = b2 ∧ nY (holdsE st l m ⟨d.kind, !d.neg, d.A, d.B⟩) = n ∧ ((n = 0 ∧ b2 = !b) ∨ n ≠ 0) := by
  rcases holds_not st l m d with ⟨n, h1, h2⟩ | ⟨b, h1, h2⟩
  · refine ⟨false, false, n, by rw [h1]; rfl, by rw [h1]; rfl, by rw [h2]; rfl, by rw [h2]; rfl, .inr ?_⟩
    unfold holdsE holdsR at h1
    cases hs : isSoR ⟨st, l, m, none, 0, none, 0, 0⟩ d with
    | error e => rw [hs] at h1; cases h1; exact isSoR_err hs
    | ok b => rw [hs] at h1; cases h1
  · exact ⟨b, !b, 0, by rw [h1]; rfl, by rw [h1]; rfl, by rw [h2]; rfl, by rw [h2]; rfl, .inl ⟨rfl, rfl⟩⟩
/-- The values and errors of a difference and of that the other way round. -/
theorem sub_two (f g : Fld) : ∃ (u t : Fld) (n : Int), valY (twR 7 f g) = u ∧ errY (twR 7 f g) = n ∧ valY (twR 7 g f) = t ∧ errY (twR 7 g f) = n ∧ u.n = -t.n ∧ -1000000000000000 ≤ t.n ∧ t.n ≤ 1000000000000000 := by
  rcases twR_sub f g with ⟨n, h1, h2⟩ | ⟨z, hl, hu, h1, h2⟩
  · exact ⟨fld0, fld0, n, by rw [h1]; rfl, by rw [h1]; rfl, by rw [h2]; rfl, by rw [h2]; rfl, by decide, by decide, by decide⟩
  · exact ⟨⟨[], false, z, []⟩, ⟨[], false, -z, []⟩, 0, by rw [h1]; rfl, by rw [h1]; rfl, by rw [h2]; rfl, by rw [h2]; rfl, by show z = - -z; omega, by show _ ≤ -z; omega, by show -z ≤ _; omega⟩
/-- Where the law stands: its boxes of x and y. -/
structure TuSt (w1 W : World) (p q : Nat) (F G : Fld) : Prop where
  bel : Below w1.heap.size w1 W
  fx : FBox W p F
  gx : FBox W q G
theorem TuSt.grown {w1 W W' : World} {p q : Nat} {F G : Fld} (h : TuSt w1 W p q F G) (hb : Below W.heap.size W W') : TuSt w1 W' p q F G := ⟨h.bel.trans (hb.mono h.bel.size), h.fx.below hb (Nat.le_refl _), h.gx.below hb (Nat.le_refl _)⟩

set_option maxRecDepth 20000 in
set_option maxHeartbeats 16000000 in
theorem RuTurns.walk (xa : Ex) (aa : Option Addr) (ac : Nat) (xb : Ex) (ba : Option Addr) (bc : Nat) (d : Cd) (ca : Option Addr) (cc : Nat) (ca' : Option Addr) (cc' : Nat) (s : ByteArray) (la : Option Addr) (lc : Nat) (l : List Fld) (ma : Option Addr) (mc : Nat) (m : List Fld) (w : World)
    (hxa : ExAt w xa aa ac) (hxb : ExAt w xb ba bc) (hA : ExAt w d.A ca cc) (hB : ExAt w d.B ca' cc') (hst : s.data.toList.length ≤ 140737488355328) (hl : FdL w (.slice la l.length lc) l) (hfs : ∀ f ∈ l, small f) (hm : FdL w (.slice ma m.length mc) m) (hfg : ∀ f ∈ m, small f) (hva : Vars w) :
    Calls Tryz.prog 5 #[.agg (exV xa aa ac), .agg (exV xb ba bc), .agg (cdV d ca cc ca' cc'), .string s, .slice la l.length lc, .slice ma m.length mc] w fun e w' => e = .returned (.bool true) ∧ Below w.heap.size w w' := by
  rw [str_list s]
  obtain ⟨st, hste⟩ : ∃ st, st = s.data.toList := ⟨_, rfl⟩
  rw [← hste] at hst ⊢
  clear hste
  have hb1 := below3 w (.cells (exV xa aa ac) 44) (.cells (exV xb ba bc) 44) (.cells (cdV d ca cc ca' cc') 46)
  obtain ⟨h0, h1, h2⟩ := boxes3 w (.cells (exV xa aa ac) 44) (.cells (exV xb ba bc) 44) (.cells (cdV d ca cc ca' cc') 46)
  obtain ⟨w1, hw1⟩ : ∃ w1, w1 = ((w.alloc (.cells (exV xa aa ac) 44)).alloc (.cells (exV xb ba bc) 44)).alloc (.cells (cdV d ca cc ca' cc') 46) := ⟨_, rfl⟩
  rw [← hw1] at hb1 h0 h1 h2
  have HW := hide hw1
  obtain ⟨B, hB'⟩ : ∃ B, B = w.heap.size := ⟨_, rfl⟩
  rw [← hB'] at h0 h1 h2
  have HBe := hide hB'
  have hx0 : XBox w1 B xa aa ac := h0
  have hx1 : XBox w1 (B + 1) xb ba bc := h1
  have hx2 : CBox w1 (B + 2) d ca cc ca' cc' := h2
  have HX0 : Hid (∀ W, Below w1.heap.size w1 W → W.cell? ⟨B, 0, none⟩ = some (.int .i64 xa.kind) ∧ W.cell? ⟨B, 1, none⟩ = some (.int .i64 xa.n) ∧ W.cell? ⟨B, 2, none⟩ = some (sv xa.s) ∧ W.cell? ⟨B, 3, none⟩ = some (.slice aa xa.args.length ac)) := hide (fun W hW => by obtain ⟨a0, a1, a2, a3, -⟩ := (hx0.below hW (Nat.le_refl _)).cells; exact ⟨a0, a1, a2, a3⟩)
  have HX1 : Hid (∀ W, Below w1.heap.size w1 W → W.cell? ⟨B + 1, 0, none⟩ = some (.int .i64 xb.kind) ∧ W.cell? ⟨B + 1, 1, none⟩ = some (.int .i64 xb.n) ∧ W.cell? ⟨B + 1, 2, none⟩ = some (sv xb.s) ∧ W.cell? ⟨B + 1, 3, none⟩ = some (.slice ba xb.args.length bc)) := hide (fun W hW => by obtain ⟨a0, a1, a2, a3, -⟩ := (hx1.below hW (Nat.le_refl _)).cells; exact ⟨a0, a1, a2, a3⟩)
  have HX2 : Hid (∀ W, Below w1.heap.size w1 W → CBox W (B + 2) d ca cc ca' cc') := hide (fun W hW => hx2.below hW (Nat.le_refl _))
  have HBW : Hid (∀ W, Below w1.heap.size w1 W → Below w.heap.size w W) := hide (fun W hW => hb1.trans (hW.mono hb1.size))
  have HEv : Hid (∀ (W : World) (x : Ex) (a : Option Addr) (c : Nat), Below w1.heap.size w1 W → ExAt W x a c → Calls Tryz.prog 13 #[.agg (exV x a c), sv st, .slice la l.length lc, .slice ma m.length mc] W fun e w' => CaughtF (evalE st l m x) e ∧ Below W.heap.size W w') := hide (fun W x a c hW hx =>
    have h := hb1.trans (hW.mono hb1.size)
    Eval_any st l m la lc ma mc x a c W hx (hl.below h (Nat.le_refl _)) (hm.below h (Nat.le_refl _)) hst hfs hfg (hva.below h (Nat.le_refl _)))
  have HAt : Hid (∀ W, Below w1.heap.size w1 W → ExAt W xa aa ac ∧ ExAt W xb ba bc) := hide (fun W hW => ⟨hxa.grown (hb1.trans (hW.mono hb1.size)), hxb.grown (hb1.trans (hW.mono hb1.size))⟩)
  obtain ⟨bh, bn, nh, hn1, hn2, hn3, hn4, hnn⟩ := not_two st l m d
  have HH1 : Hid (∀ (W : World), Below w1.heap.size w1 W → Calls Tryz.prog 15 #[.agg (cdV d ca cc ca' cc'), sv st, .slice la l.length lc, .slice ma m.length mc] W fun e w' => e = .returned (.tuple #[.bool bh, .int .i64 nh]) ∧ Below W.heap.size W w') := hide (fun W hW => by
    have h := hb1.trans (hW.mono hb1.size)
    exact calls_b hn1 hn2 (Holds_any st l m la lc ma mc d ca cc ca' cc' W (hA.grown h) (hB.grown h) (hl.below h (Nat.le_refl _)) (hm.below h (Nat.le_refl _)) hst hfs hfg (hva.below h (Nat.le_refl _))))
  have HH2 : Hid (∀ (W : World), Below w1.heap.size w1 W → Calls Tryz.prog 15 #[.agg (cdV ⟨d.kind, !d.neg, d.A, d.B⟩ ca cc ca' cc'), sv st, .slice la l.length lc, .slice ma m.length mc] W fun e w' => e = .returned (.tuple #[.bool bn, .int .i64 nh]) ∧ Below W.heap.size W w') := hide (fun W hW => by
    have h := hb1.trans (hW.mono hb1.size)
    exact calls_b hn3 hn4 (Holds_any st l m la lc ma mc ⟨d.kind, !d.neg, d.A, d.B⟩ ca cc ca' cc' W (hA.grown h) (hB.grown h) (hl.below h (Nat.le_refl _)) (hm.below h (Nat.le_refl _)) hst hfs hfg (hva.below h (Nat.le_refl _))))
  have HNN := hide hnn
  clear hn1 hn2 hn3 hn4 hnn
  have HTv : Hid (∀ (W : World), Below w1.heap.size w1 W → ∀ (k : Int) (gb : Nat) (f g : Fld), (k = 6 ∨ k = 7 ∨ k = 8) → W.heap[gb]? = some (.cells (row8 f g) 44 (0, 0)) → small f → small g → Calls Tryz.prog 13 #[.agg #[.int .i64 k, .int .i64 0, .string ⟨#[]⟩, .slice (some ⟨gb, 0, none⟩) 2 2], sv st, .slice la l.length lc, .slice ma m.length mc] W fun e w' => e = .returned (.tuple #[.agg (fv (valY (twR k f g))), .int .i64 (errY (twR k f g))]) ∧ Below W.heap.size W w') := hide (fun W hW k gb f g hk hg hf hs => by
    have h := hb1.trans (hW.mono hb1.size)
    have hk64 : I64 k := by rcases hk with rfl | rfl | rfl <;> exact ⟨by decide, by decide⟩
    exact two_go st l m la lc ma mc k f g gb W (two_at hg hk64 hf hs) (hl.below h (Nat.le_refl _)) (hm.below h (Nat.le_refl _)) hst hfs hfg (hva.below h (Nat.le_refl _)) hk)
  have HSm : Hid (∀ (x : Ex) (f : Fld) (W : World) (a : Option Addr) (c : Nat), True → True) := hide (fun _ _ _ _ _ h => h)
  have HA := hide (uawake_go w1 (hva.below hb1 (Nat.le_refl _)))
  obtain ⟨ev, hev⟩ : ∃ ev, ev = evalE st l m := ⟨_, rfl⟩
  rw [← hev] at HEv
  obtain ⟨XA, hXA⟩ : ∃ XA, XA = ev xa := ⟨_, rfl⟩
  obtain ⟨XB, hXB⟩ : ∃ XB, XB = ev xb := ⟨_, rfl⟩
  obtain ⟨F, hF⟩ : ∃ F, F = valY XA := ⟨_, rfl⟩
  obtain ⟨G, hG⟩ : ∃ G, G = valY XB := ⟨_, rfl⟩
  obtain ⟨N, hN⟩ : ∃ N, N = errY XA := ⟨_, rfl⟩
  obtain ⟨M, hM⟩ : ∃ M, M = errY XB := ⟨_, rfl⟩
  have HC1 : Hid (∀ W, Below w1.heap.size w1 W → Calls Tryz.prog 13 #[.agg (exV xa aa ac), sv st, .slice la l.length lc, .slice ma m.length mc] W fun e w' => (e = .returned (.tuple #[.agg (fv F), .int .i64 N]) ∧ small F) ∧ Below W.heap.size W w') := hide (fun W hW => (unhide HEv W xa aa ac hW (unhide HAt W hW).1).mono fun e w' q => ⟨by rw [hF, hN, hXA]; exact caughtY_two q.1, q.2⟩)
  have HC2 : Hid (∀ W, Below w1.heap.size w1 W → Calls Tryz.prog 13 #[.agg (exV xb ba bc), sv st, .slice la l.length lc, .slice ma m.length mc] W fun e w' => (e = .returned (.tuple #[.agg (fv G), .int .i64 M]) ∧ small G) ∧ Below W.heap.size W w') := hide (fun W hW => (unhide HEv W xb ba bc hW (unhide HAt W hW).2).mono fun e w' q => ⟨by rw [hG, hM, hXB]; exact caughtY_two q.1, q.2⟩)
  obtain ⟨NL, hNL⟩ : ∃ NL, NL = l.length := ⟨_, rfl⟩
  obtain ⟨NM, hNM⟩ : ∃ NM, NM = m.length := ⟨_, rfl⟩
  rw [← hNL, ← hNM] at HEv HH1 HH2 HC1 HC2 HTv ⊢
  clear hw1 hb1 h0 h1 h2 hx0 hx1 hx2 hB' hxa hxb hA hB hst hl hfs hm hfg hva hev hXA hXB hF hG hN hM hNL hNM HSm HAt
  obtain ⟨fn, ft, fi, fz⟩ := F
  obtain ⟨gn, gt, gi, gz⟩ := G
  have HVf : Hid (∀ W, Calls Tryz.prog 14 #[.agg (fv ⟨fn, ft, fi, fz⟩)] W fun e w' => e = .returned (.agg #[.int .i64 (vK ⟨fn, ft, fi, fz⟩), .int .i64 (vN ⟨fn, ft, fi, fz⟩), sv (vS ⟨fn, ft, fi, fz⟩), .slice none 0 0]) ∧ Below W.heap.size W w') := hide (fun W => uvalue_any _ W)
  have HVg : Hid (∀ W, Calls Tryz.prog 14 #[.agg (fv ⟨gn, gt, gi, gz⟩)] W fun e w' => e = .returned (.agg #[.int .i64 (vK ⟨gn, gt, gi, gz⟩), .int .i64 (vN ⟨gn, gt, gi, gz⟩), sv (vS ⟨gn, gt, gi, gz⟩), .slice none 0 0]) ∧ Below W.heap.size W w') := hide (fun W => uvalue_any _ W)
  go_enter Tryz.func5, Tryz.ntmps5
  go_upto_region 1 with fail
  rw [show ((w.alloc (.cells #[Value.int IntKind.i64 xa.kind, .int .i64 xa.n, sv xa.s, .slice aa xa.args.length ac] 44)).alloc (.cells #[Value.int IntKind.i64 xb.kind, .int .i64 xb.n, sv xb.s, .slice ba xb.args.length bc] 44)).alloc (.cells #[Value.int IntKind.i64 d.kind, .bool d.neg, .int .i64 d.A.kind, .int .i64 d.A.n, sv d.A.s, .slice ca d.A.args.length cc, .int .i64 d.B.kind, .int .i64 d.B.n, sv d.B.s, .slice ca' d.B.args.length cc'] 46) = w1 from (unhide HW).symm]
  rw [← unhide HBe]
  go_upto_region 2 with (go_at_call 6; refine (unhide HA).mono ?_; rintro e w2 ⟨rfl, b2⟩; have HK2 := hide b2; clear b2)
  obtain ⟨x0, x1, x2, x3⟩ := unhide HX0 w2 (unhide HK2)
  have C1 := hide (unhide HC1 w2 (unhide HK2))
  go_upto_region 3 with (go_at_call 13; refine (unhide C1).mono ?_; rintro e w3 ⟨⟨rfl, hsmF⟩, b3⟩; have HSF := hide hsmF; have HK3 := hide ((unhide HK2).trans (b3.mono (unhide HK2).size)); clear b3 hsmF)
  have hb4 : Below w1.heap.size w1 (w3.alloc (.cells (fv ⟨fn, ft, fi, fz⟩) 48)) := (unhide HK3).alloc (unhide HK3).size _
  have hf4 := FBox.new w3 ⟨fn, ft, fi, fz⟩
  obtain ⟨w4, hw4⟩ : ∃ w4, w4 = w3.alloc (.cells (fv ⟨fn, ft, fi, fz⟩) 48) := ⟨_, rfl⟩
  rw [show w3.alloc (.cells #[Value.string ⟨fn.toArray⟩, .bool ft, .int .i64 fi, .string ⟨fz.toArray⟩] 48) = w4 from hw4.symm]
  rw [← hw4] at hb4 hf4
  obtain ⟨p, hp⟩ : ∃ p, p = w3.heap.size := ⟨_, rfl⟩
  rw [← hp] at hf4 ⊢
  have HK4 := hide hb4
  have HF4 := hide hf4
  clear x0 x1 x2 x3 hb4 hf4 hw4 hp C1
  obtain ⟨x0, x1, x2, x3⟩ := unhide HX1 w4 (unhide HK4)
  have C2 := hide (unhide HC2 w4 (unhide HK4))
  go_upto_region 4 with (go_at_call 13; refine (unhide C2).mono ?_; rintro e w5 ⟨⟨rfl, hsmG⟩, b5⟩; have HSG := hide hsmG; have HK5 := hide ((unhide HK4).trans (b5.mono (unhide HK4).size)); have HF5 := hide ((unhide HF4).below b5 (Nat.le_refl _)); clear b5 hsmG)
  have hb6 : Below w1.heap.size w1 (w5.alloc (.cells (fv ⟨gn, gt, gi, gz⟩) 48)) := (unhide HK5).alloc (unhide HK5).size _
  have hg6 := FBox.new w5 ⟨gn, gt, gi, gz⟩
  have hf6 := (unhide HF5).below (show Below w5.heap.size w5 (w5.alloc (.cells (fv ⟨gn, gt, gi, gz⟩) 48)) from (Below.refl _ _).alloc (Nat.le_refl _) _) (Nat.le_refl _)
  obtain ⟨w6, hw6⟩ : ∃ w6, w6 = w5.alloc (.cells (fv ⟨gn, gt, gi, gz⟩) 48) := ⟨_, rfl⟩
  rw [show w5.alloc (.cells #[Value.string ⟨gn.toArray⟩, .bool gt, .int .i64 gi, .string ⟨gz.toArray⟩] 48) = w6 from hw6.symm]
  rw [← hw6] at hb6 hg6 hf6
  obtain ⟨q, hq⟩ : ∃ q, q = w5.heap.size := ⟨_, rfl⟩
  rw [← hq] at hg6 ⊢
  have HS6 : Hid (TuSt w1 w6 p q ⟨fn, ft, fi, fz⟩ ⟨gn, gt, gi, gz⟩) := hide ⟨hb6, hf6, hg6⟩
  clear x0 x1 x2 x3 hb6 hg6 hf6 hw6 hq C2 HF5 HF4 HK5
  obtain ⟨bb, hbb⟩ : ∃ bb, bb = (decide (N = 0) && decide (M = 0)) := ⟨_, rfl⟩
  go_cut [59] from 54 to 59 (fun t W => t = .bool bb ∧ W = w6)
  case first =>
    by_cases hN : N = 0
    · subst hN
      by_cases hM : M = 0
      · subst hM
        go_wp2_with fail
        go_meet
        exact ⟨by rw [hbb]; rfl, rfl⟩
      · have hMb : (M == 0) = false := by simpa using hM
        go_wp2_with fail
        go_meet
        exact ⟨by rw [hbb]; simp [hM], rfl⟩
    · have hNb : (N == 0) = false := by simpa using hN
      go_wp2_with fail
      go_meet
      exact ⟨by rw [hbb]; simp [hN], rfl⟩
  case rest =>
    obtain ⟨rfl, rfl⟩ := hcut
    rename World => w6
    clear hbb
    go_upto_if 59 with fail
    go_cut [13] from 60 to 149 (fun t W => t = .bool true ∧ Hid (TuSt w1 W p q ⟨fn, ft, fi, fz⟩ ⟨gn, gt, gi, gz⟩))
    case first =>
      cases bb with
      | false =>
        go_wp2_with fail
        go_meet
        exact ⟨rfl, HS6⟩
      | true =>
        go_upto_region 6 with fail
        have hb7 : Below w6.heap.size w6 (w6.alloc (.cells #[.int .i64 6, .int .i64 8] 3)) := (Below.refl _ _).alloc (Nat.le_refl _) _
        have hi7 : (w6.alloc (.cells #[.int .i64 6, .int .i64 8] 3)).heap[w6.heap.size]? = some (.cells #[.int .i64 6, .int .i64 8] 3 (0, 0)) := heap_alloc_new _ _
        have HS7 := hide ((unhide HS6).grown hb7)
        obtain ⟨w7, hw7⟩ : ∃ w7, w7 = w6.alloc (.cells #[.int .i64 6, .int .i64 8] 3) := ⟨_, rfl⟩
        rw [show w6.alloc (.cells #[Value.int .i64 6, .int .i64 8] 3) = w7 from hw7.symm]
        rw [← hw7] at hi7 HS7
        obtain ⟨ib, hib⟩ : ∃ ib, ib = w6.heap.size := ⟨_, rfl⟩
        rw [← hib] at hi7 ⊢
        have HI7 : Hid (∀ W, Below w7.heap.size w7 W → W.cell? ⟨ib, 0, none⟩ = some (.int .i64 6) ∧ W.cell? ⟨ib, 1, none⟩ = some (.int .i64 8)) := hide (fun W hW => ⟨kept hW ((cell_of_row _ _ _ _ _ _ hi7).trans rfl), kept hW ((cell_of_row _ _ _ _ _ _ hi7).trans rfl)⟩)
        clear hb7 hi7 hw7 hib HS6
        go_wp2_with fail
        go_loopw [19, 20, 21, 22, 23, 24, 25] (fun i _ _ _ _ _ _ wr => ∃ (j : Nat), j ≤ 2 ∧ i = .int .i64 j ∧ Hid (TuSt w1 wr p q ⟨fn, ft, fi, fz⟩ ⟨gn, gt, gi, gz⟩) ∧ Hid (Below w7.heap.size w7 wr)) (fun i _ _ _ _ _ _ _ => 2 - (intOf i).toNat)
        case atStart => exact ⟨0, by omega, rfl, HS7, hide (Below.refl _ _)⟩
        case round =>
          clear HS7
          obtain ⟨j, hj, rfl, HS, HB7⟩ := hrel
          by_cases hlt : j < 2
          · obtain ⟨KK, hKK, hKc⟩ : ∃ KK : Int, (KK = 6 ∨ KK = 8) ∧ ∀ W, Below w7.heap.size w7 W → W.cell? ⟨ib, j, none⟩ = some (.int .i64 KK) := by
              have hj2 : j = 0 ∨ j = 1 := by omega
              rcases hj2 with rfl | rfl
              · exact ⟨6, .inl rfl, fun W hW => (unhide HI7 W hW).1⟩
              · exact ⟨8, .inr rfl, fun W hW => (unhide HI7 W hW).2⟩
            have HIb := hide (hKc wr (unhide HB7))
            have HKc := hide hKc
            have hj3 : (j : Int) < 2 := by omega
            have hj4 : ¬ (j : Int) < 0 := by omega
            clear hKc
            obtain ⟨⟨vn, vt, vi, vz⟩, hV⟩ : ∃ V, V = valY (twR KK ⟨fn, ft, fi, fz⟩ ⟨gn, gt, gi, gz⟩) := ⟨_, rfl⟩
            obtain ⟨EE, hE⟩ : ∃ EE, EE = errY (twR KK ⟨fn, ft, fi, fz⟩ ⟨gn, gt, gi, gz⟩) := ⟨_, rfl⟩
            have hk3 : KK = 6 ∨ KK = 7 ∨ KK = 8 := by omega
            have HT8' : Hid (∀ (W : World) (gb : Nat), Below w1.heap.size w1 W → W.heap[gb]? = some (.cells (row8 ⟨fn, ft, fi, fz⟩ ⟨gn, gt, gi, gz⟩) 44 (0, 0)) → Calls Tryz.prog 13 #[.agg #[.int .i64 KK, .int .i64 0, .string ⟨#[]⟩, .slice (some ⟨gb, 0, none⟩) 2 2], sv st, .slice la NL lc, .slice ma NM mc] W fun e w' => e = .returned (.tuple #[.agg (fv ⟨vn, vt, vi, vz⟩), .int .i64 EE]) ∧ Below W.heap.size W w') := hide (fun W gb hW hg => by
              rw [hV, hE]
              exact unhide HTv W hW KK gb _ _ hk3 hg (unhide HSF) (unhide HSG))
            have HT9' : Hid (∀ (W : World) (gb : Nat), Below w1.heap.size w1 W → W.heap[gb]? = some (.cells (row8 ⟨gn, gt, gi, gz⟩ ⟨fn, ft, fi, fz⟩) 44 (0, 0)) → Calls Tryz.prog 13 #[.agg #[.int .i64 KK, .int .i64 0, .string ⟨#[]⟩, .slice (some ⟨gb, 0, none⟩) 2 2], sv st, .slice la NL lc, .slice ma NM mc] W fun e w' => e = .returned (.tuple #[.agg (fv ⟨vn, vt, vi, vz⟩), .int .i64 EE]) ∧ Below W.heap.size W w') := hide (fun W gb hW hg => by
              rw [hV, hE, twR_turn hKK]
              exact unhide HTv W hW KK gb _ _ hk3 hg (unhide HSG) (unhide HSF))
            clear hV hE hk3 hKK
            have HSV : Hid (∀ V, Below wr.heap.size wr V → V.cell? ⟨ib, j, none⟩ = some (.int .i64 KK) ∧ V.cell? ⟨p, 0, none⟩ = some (sv fn) ∧ V.cell? ⟨p, 1, none⟩ = some (.bool ft) ∧ V.cell? ⟨p, 2, none⟩ = some (.int .i64 fi) ∧ V.cell? ⟨p, 3, none⟩ = some (sv fz) ∧ V.cell? ⟨q, 0, none⟩ = some (sv gn) ∧ V.cell? ⟨q, 1, none⟩ = some (.bool gt) ∧ V.cell? ⟨q, 2, none⟩ = some (.int .i64 gi) ∧ V.cell? ⟨q, 3, none⟩ = some (sv gz)) := hide (fun V hV => by
              have h := (unhide HS).grown hV
              obtain ⟨a0, a1, a2, a3, -⟩ := h.fx.cells
              obtain ⟨b0, b1, b2, b3, -⟩ := h.gx.cells
              exact ⟨kept hV (unhide HIb), a0, a1, a2, a3, b0, b1, b2, b3⟩)
            have R0 : Hid (Below wr.heap.size wr wr.drew) := hide (Below.refl _ _).drew
            have RA : Hid (Below wr.heap.size wr (wr.alloc (.cells ex0 44)).drew) := hide (((Below.refl _ _).alloc (Nat.le_refl _) _).drew)
            have S0 := hide (unhide HSV _ (unhide R0))
            have SA := hide (unhide HSV _ (unhide RA))
            have SB := hide (unhide HSV _ (Below.refl _ _))
            have ZA : Hid ((wr.alloc (.cells ex0 44)).drew.heap[wr.heap.size]? = some (.cells ex0 44 (0, 0))) := hide (heap_alloc_new wr _)
            go_upto_region 9 with fail
            go_cut [20] from 61 to 110 (fun t W => TwR wr KK ⟨fn, ft, fi, fz⟩ ⟨gn, gt, gi, gz⟩ t W)
            case first =>
              go_region_held3 (fun V => V.cell? ⟨ib, j, none⟩ = some (.int .i64 KK) ∧ V.cell? ⟨p, 0, none⟩ = some (sv fn) ∧ V.cell? ⟨p, 1, none⟩ = some (.bool ft) ∧ V.cell? ⟨p, 2, none⟩ = some (.int .i64 fi) ∧ V.cell? ⟨p, 3, none⟩ = some (sv fz) ∧ V.cell? ⟨q, 0, none⟩ = some (sv gn) ∧ V.cell? ⟨q, 1, none⟩ = some (.bool gt) ∧ V.cell? ⟨q, 2, none⟩ = some (.int .i64 gi) ∧ V.cell? ⟨q, 3, none⟩ = some (sv gz))
                (first | with_reducible exact unhide SB | with_reducible exact unhide S0 | with_reducible exact unhide SA | (refine unhide HSV _ ?_; first | with_reducible exact unhide B6 | with_reducible exact unhide B5 | with_reducible exact (unhide B5).alloc (unhide B5).size _ | with_reducible exact (unhide B6).alloc (unhide B6).size _ | with_reducible exact ((unhide B6).alloc (unhide B6).size _).alloc (by simp; have := (unhide B6).size; omega) _ | (have h := (unhide B6).alloc (unhide B6).size (.cells (row8 ⟨fn, ft, fi, fz⟩ ⟨gn, gt, gi, gz⟩) 44); exact below_put4 h (unhide HQ) _ _ _ _) | (have h := ((unhide B6).alloc (unhide B6).size (.cells ex0 44)).alloc (by simp; have := (unhide B6).size; omega) (.cells (row8 ⟨fn, ft, fi, fz⟩ ⟨gn, gt, gi, gz⟩) 44); exact below_put4 h (unhide B6).size _ _ _ _)))
                ((go_at_call 14; (first
                  | ((with_reducible refine (unhide HVf _).mono ?_); rintro e w5 ⟨rfl, b5⟩; (first | (have B5 := hide ((unhide R0).trans (b5.mono (unhide R0).size)); clear b5) | (have B5 := hide ((unhide RA).trans (b5.mono (unhide RA).size)); have Z5 := hide (rowKept (unhide ZA) b5 (Nat.le_refl _)); have HQ := hide (Nat.le_refl wr.heap.size); clear b5)))
                  | ((with_reducible refine (unhide HVg _).mono ?_); rintro e w6 ⟨rfl, b6⟩; (first | (have B6 := hide ((unhide B5).trans (b6.mono (unhide B5).size)); (first | (have Z6 := hide (rowKept (unhide Z5) b6 (Nat.le_refl _))) | skip); clear b6) | (have B6 := hide (((unhide B5).alloc (unhide B5).size (.cells ex0 44)).trans (b6.mono (by have := (unhide B5).size; simp; omega))); have Z6 := hide (rowKept (heap_alloc_new w5 (.cells ex0 44 (0, 0))) b6 (Nat.le_refl _)); have HQ := hide (unhide B5).size; clear b6)); (first | (have hz6 := unhide Z6; obtain ⟨m0, m1, m2, m3, m4⟩ := cells4 (rowKept hz6 ((Below.refl _ w6).alloc (Nat.le_refl _) (.cells (row8 ⟨fn, ft, fi, fz⟩ ⟨gn, gt, gi, gz⟩) 44)) (Nat.le_refl _))) | skip); obtain ⟨k0, k1, k2, k3, k4⟩ := cells4 (rowKept (heap_alloc_new w6 (.cells ex0 44 (0, 0))) ((Below.refl _ (w6.alloc (.cells ex0 44))).alloc (Nat.le_refl _) (.cells (row8 ⟨fn, ft, fi, fz⟩ ⟨gn, gt, gi, gz⟩) 44)) (Nat.le_refl _))))))
              all_goals
                rename_i hh
                clear hh
                try clear m0 m1 m2 m3 m4
                try clear k0 k1 k2 k3 k4
                go_wp2
                go_meet
                first
                  | with_reducible exact TwR.new (unhide B6)
                  | with_reducible exact TwR.mid (unhide B6)
                  | with_reducible exact TwR.put (unhide B6) (unhide HQ) (unhide Z6)
            case rest =>
              obtain ⟨q8, g8, rfl, hx8, hg8, hb8⟩ := hcut
              rename World => W8
              have HX8 := hide hx8
              have HG8 := hide hg8
              have HBn8 := hide hb8
              have HS := hide ((unhide HS).grown hb8)
              clear hx8 hg8 hb8 HSV R0 RA S0 SA SB ZA
              have HIb := hide (unhide HKc W8 ((unhide HB7).trans ((unhide HBn8).mono (unhide HB7).size)))
              have HSV : Hid (∀ V, Below W8.heap.size W8 V → V.cell? ⟨ib, j, none⟩ = some (.int .i64 KK) ∧ V.cell? ⟨p, 0, none⟩ = some (sv fn) ∧ V.cell? ⟨p, 1, none⟩ = some (.bool ft) ∧ V.cell? ⟨p, 2, none⟩ = some (.int .i64 fi) ∧ V.cell? ⟨p, 3, none⟩ = some (sv fz) ∧ V.cell? ⟨q, 0, none⟩ = some (sv gn) ∧ V.cell? ⟨q, 1, none⟩ = some (.bool gt) ∧ V.cell? ⟨q, 2, none⟩ = some (.int .i64 gi) ∧ V.cell? ⟨q, 3, none⟩ = some (sv gz)) := hide (fun V hV => by
                have h := (unhide HS).grown hV
                obtain ⟨a0, a1, a2, a3, -⟩ := h.fx.cells
                obtain ⟨b0, b1, b2, b3, -⟩ := h.gx.cells
                exact ⟨kept hV (unhide HIb), a0, a1, a2, a3, b0, b1, b2, b3⟩)
              have R0 : Hid (Below W8.heap.size W8 W8.drew) := hide (Below.refl _ _).drew
              have RA : Hid (Below W8.heap.size W8 (W8.alloc (.cells ex0 44)).drew) := hide (((Below.refl _ _).alloc (Nat.le_refl _) _).drew)
              have S0 := hide (unhide HSV _ (unhide R0))
              have SA := hide (unhide HSV _ (unhide RA))
              have SB := hide (unhide HSV _ (Below.refl _ _))
              have ZA : Hid ((W8.alloc (.cells ex0 44)).drew.heap[W8.heap.size]? = some (.cells ex0 44 (0, 0))) := hide (heap_alloc_new W8 _)
              go_upto_region 10 with fail
              go_cut [21] from 61 to 110 (fun t W => TwR W8 KK ⟨gn, gt, gi, gz⟩ ⟨fn, ft, fi, fz⟩ t W)
              case first =>
                go_region_held3 (fun V => V.cell? ⟨ib, j, none⟩ = some (.int .i64 KK) ∧ V.cell? ⟨p, 0, none⟩ = some (sv fn) ∧ V.cell? ⟨p, 1, none⟩ = some (.bool ft) ∧ V.cell? ⟨p, 2, none⟩ = some (.int .i64 fi) ∧ V.cell? ⟨p, 3, none⟩ = some (sv fz) ∧ V.cell? ⟨q, 0, none⟩ = some (sv gn) ∧ V.cell? ⟨q, 1, none⟩ = some (.bool gt) ∧ V.cell? ⟨q, 2, none⟩ = some (.int .i64 gi) ∧ V.cell? ⟨q, 3, none⟩ = some (sv gz))
                  (first | with_reducible exact unhide SB | with_reducible exact unhide S0 | with_reducible exact unhide SA | (refine unhide HSV _ ?_; first | with_reducible exact unhide B6 | with_reducible exact unhide B5 | with_reducible exact (unhide B5).alloc (unhide B5).size _ | with_reducible exact (unhide B6).alloc (unhide B6).size _ | with_reducible exact ((unhide B6).alloc (unhide B6).size _).alloc (by simp; have := (unhide B6).size; omega) _ | (have h := (unhide B6).alloc (unhide B6).size (.cells (row8 ⟨gn, gt, gi, gz⟩ ⟨fn, ft, fi, fz⟩) 44); exact below_put4 h (unhide HQ) _ _ _ _) | (have h := ((unhide B6).alloc (unhide B6).size (.cells ex0 44)).alloc (by simp; have := (unhide B6).size; omega) (.cells (row8 ⟨gn, gt, gi, gz⟩ ⟨fn, ft, fi, fz⟩) 44); exact below_put4 h (unhide B6).size _ _ _ _)))
                  ((go_at_call 14; (first
                    | ((with_reducible refine (unhide HVg _).mono ?_); rintro e w5 ⟨rfl, b5⟩; (first | (have B5 := hide ((unhide R0).trans (b5.mono (unhide R0).size)); clear b5) | (have B5 := hide ((unhide RA).trans (b5.mono (unhide RA).size)); have Z5 := hide (rowKept (unhide ZA) b5 (Nat.le_refl _)); have HQ := hide (Nat.le_refl W8.heap.size); clear b5)))
                    | ((with_reducible refine (unhide HVf _).mono ?_); rintro e w6 ⟨rfl, b6⟩; (first | (have B6 := hide ((unhide B5).trans (b6.mono (unhide B5).size)); (first | (have Z6 := hide (rowKept (unhide Z5) b6 (Nat.le_refl _))) | skip); clear b6) | (have B6 := hide (((unhide B5).alloc (unhide B5).size (.cells ex0 44)).trans (b6.mono (by have := (unhide B5).size; simp; omega))); have Z6 := hide (rowKept (heap_alloc_new w5 (.cells ex0 44 (0, 0))) b6 (Nat.le_refl _)); have HQ := hide (unhide B5).size; clear b6)); (first | (have hz6 := unhide Z6; obtain ⟨m0, m1, m2, m3, m4⟩ := cells4 (rowKept hz6 ((Below.refl _ w6).alloc (Nat.le_refl _) (.cells (row8 ⟨gn, gt, gi, gz⟩ ⟨fn, ft, fi, fz⟩) 44)) (Nat.le_refl _))) | skip); obtain ⟨k0, k1, k2, k3, k4⟩ := cells4 (rowKept (heap_alloc_new w6 (.cells ex0 44 (0, 0))) ((Below.refl _ (w6.alloc (.cells ex0 44))).alloc (Nat.le_refl _) (.cells (row8 ⟨gn, gt, gi, gz⟩ ⟨fn, ft, fi, fz⟩) 44)) (Nat.le_refl _))))))
                all_goals
                  rename_i hh
                  clear hh
                  try clear m0 m1 m2 m3 m4
                  try clear k0 k1 k2 k3 k4
                  go_wp2
                  go_meet
                  first
                    | with_reducible exact TwR.new (unhide B6)
                    | with_reducible exact TwR.mid (unhide B6)
                    | with_reducible exact TwR.put (unhide B6) (unhide HQ) (unhide Z6)
              case rest =>
                obtain ⟨q9, g9, rfl, hx9, hg9, hb9⟩ := hcut
                rename World => W9
                have HX9 := hide hx9
                have HG9 := hide hg9
                have HBn9 := hide hb9
                have HS := hide ((unhide HS).grown hb9)
                clear hx9 hg9 hb9 HSV R0 RA S0 SA SB ZA
                have HX8 := hide (rowKept (unhide HX8) (unhide HBn9) (Nat.le_refl _))
                have HG8 := hide (rowKept (unhide HG8) (unhide HBn9) (Nat.le_refl _))
                have HB79 := hide (((unhide HB7).trans ((unhide HBn8).mono (unhide HB7).size)).trans ((unhide HBn9).mono ((unhide HB7).trans ((unhide HBn8).mono (unhide HB7).size)).size))
                have HT8 := hide (fun (W : World) h1 h2 => unhide HT8' W g8 h1 h2)
                have HT9 := hide (fun (W : World) h1 h2 => unhide HT9' W g9 h1 h2)
                obtain ⟨b0, b1, b2, b3, -⟩ := cells4 (unhide HX8)
                have CC := hide (unhide HT8 W9 (unhide HS).bel (unhide HG8))
                go_upto_region 12 with (go_at_call 13; refine (unhide CC).mono ?_; rintro e w5 ⟨rfl, b5⟩; have HB5 := hide b5; clear b5)
                have hb6 : Below W9.heap.size W9 (w5.alloc (.cells (fv ⟨vn, vt, vi, vz⟩) 48)) := (unhide HB5).alloc (unhide HB5).size _
                have hf6 := FBox.new w5 ⟨vn, vt, vi, vz⟩
                obtain ⟨Wa, hWa⟩ : ∃ Wa, Wa = w5.alloc (.cells (fv ⟨vn, vt, vi, vz⟩) 48) := ⟨_, rfl⟩
                rw [show w5.alloc (.cells #[Value.string ⟨vn.toArray⟩, .bool vt, .int .i64 vi, .string ⟨vz.toArray⟩] 48) = Wa from hWa.symm]
                rw [← hWa] at hb6 hf6
                obtain ⟨cWa, hcWa⟩ : ∃ cWa, cWa = w5.heap.size := ⟨_, rfl⟩
                rw [← hcWa] at hf6 ⊢
                have HFWa := hide hf6
                have HBWa := hide hb6
                have HS := hide ((unhide HS).grown hb6)
                clear b0 b1 b2 b3 hb6 hf6 hWa hcWa CC
                have HX9 := hide (rowKept (unhide HX9) (unhide HBWa) (Nat.le_refl _))
                have HG9 := hide (rowKept (unhide HG9) (unhide HBWa) (Nat.le_refl _))
                obtain ⟨b0, b1, b2, b3, -⟩ := cells4 (unhide HX9)
                have CC := hide (unhide HT9 Wa (unhide HS).bel (unhide HG9))
                go_upto_region 13 with (go_at_call 13; refine (unhide CC).mono ?_; rintro e w5 ⟨rfl, b5⟩; have HB5 := hide b5; clear b5)
                have hb6 : Below Wa.heap.size Wa (w5.alloc (.cells (fv ⟨vn, vt, vi, vz⟩) 48)) := (unhide HB5).alloc (unhide HB5).size _
                have hf6 := FBox.new w5 ⟨vn, vt, vi, vz⟩
                obtain ⟨Wb, hWb⟩ : ∃ Wb, Wb = w5.alloc (.cells (fv ⟨vn, vt, vi, vz⟩) 48) := ⟨_, rfl⟩
                rw [show w5.alloc (.cells #[Value.string ⟨vn.toArray⟩, .bool vt, .int .i64 vi, .string ⟨vz.toArray⟩] 48) = Wb from hWb.symm]
                rw [← hWb] at hb6 hf6
                obtain ⟨cWb, hcWb⟩ : ∃ cWb, cWb = w5.heap.size := ⟨_, rfl⟩
                rw [← hcWb] at hf6 ⊢
                have HFWb := hide hf6
                have HBWb := hide hb6
                have HS := hide ((unhide HS).grown hb6)
                clear b0 b1 b2 b3 hb6 hf6 hWb hcWb CC
                have hfa := (unhide HFWa).below (unhide HBWb) (Nat.le_refl _)
                obtain ⟨y0, y1, y2, y3, -⟩ := hfa.cells
                obtain ⟨z0, z1, z2, z3, -⟩ := (unhide HFWb).cells
                simp only at y0 y1 y2 y3 z0 z1 z2 z3
                have HB7b := hide (((unhide HB79).trans ((unhide HBWa).mono (unhide HB79).size)).trans ((unhide HBWb).mono ((unhide HB79).trans ((unhide HBWa).mono (unhide HB79).size)).size))
                clear hfa
                go_wp2_with fail
                go_roundw
                case rel => exact ⟨j + 1, by omega, by go_num, HS, HB7b⟩
                case measure => simp [intOf]; omega

          · have hj5 : ¬ (j : Int) < 2 := by omega
            obtain ⟨⟨un, ut, ui, uz⟩, ⟨tn, tt, ti, tz⟩, EE, hU, hE, hT, hE2, hui, htl, htu⟩ := sub_two ⟨fn, ft, fi, fz⟩ ⟨gn, gt, gi, gz⟩
            simp only at hui htl htu
            subst hui
            have HTc' : Hid (∀ (W : World) (gb : Nat), Below w1.heap.size w1 W → W.heap[gb]? = some (.cells (row8 ⟨fn, ft, fi, fz⟩ ⟨gn, gt, gi, gz⟩) 44 (0, 0)) → Calls Tryz.prog 13 #[.agg #[.int .i64 7, .int .i64 0, .string ⟨#[]⟩, .slice (some ⟨gb, 0, none⟩) 2 2], sv st, .slice la NL lc, .slice ma NM mc] W fun e w' => e = .returned (.tuple #[.agg (fv ⟨un, ut, -ti, uz⟩), .int .i64 EE]) ∧ Below W.heap.size W w') := hide (fun W gb hW hg => by
              rw [← hU, ← hE]
              exact unhide HTv W hW 7 gb _ _ (.inr (.inl rfl)) hg (unhide HSF) (unhide HSG))
            have HTd' : Hid (∀ (W : World) (gb : Nat), Below w1.heap.size w1 W → W.heap[gb]? = some (.cells (row8 ⟨gn, gt, gi, gz⟩ ⟨fn, ft, fi, fz⟩) 44 (0, 0)) → Calls Tryz.prog 13 #[.agg #[.int .i64 7, .int .i64 0, .string ⟨#[]⟩, .slice (some ⟨gb, 0, none⟩) 2 2], sv st, .slice la NL lc, .slice ma NM mc] W fun e w' => e = .returned (.tuple #[.agg (fv ⟨tn, tt, ti, tz⟩), .int .i64 EE]) ∧ Below W.heap.size W w') := hide (fun W gb hW hg => by
              rw [← hT, ← hE2]
              exact unhide HTv W hW 7 gb _ _ (.inr (.inl rfl)) hg (unhide HSG) (unhide HSF))
            clear hU hE hT hE2 hlt hj
            have HSV : Hid (∀ V, Below wr.heap.size wr V → V.cell? ⟨p, 0, none⟩ = some (sv fn) ∧ V.cell? ⟨p, 1, none⟩ = some (.bool ft) ∧ V.cell? ⟨p, 2, none⟩ = some (.int .i64 fi) ∧ V.cell? ⟨p, 3, none⟩ = some (sv fz) ∧ V.cell? ⟨q, 0, none⟩ = some (sv gn) ∧ V.cell? ⟨q, 1, none⟩ = some (.bool gt) ∧ V.cell? ⟨q, 2, none⟩ = some (.int .i64 gi) ∧ V.cell? ⟨q, 3, none⟩ = some (sv gz)) := hide (fun V hV => by
              have h := (unhide HS).grown hV
              obtain ⟨a0, a1, a2, a3, -⟩ := h.fx.cells
              obtain ⟨b0, b1, b2, b3, -⟩ := h.gx.cells
              exact ⟨a0, a1, a2, a3, b0, b1, b2, b3⟩)
            have R0 : Hid (Below wr.heap.size wr wr.drew) := hide (Below.refl _ _).drew
            have RA : Hid (Below wr.heap.size wr (wr.alloc (.cells ex0 44)).drew) := hide (((Below.refl _ _).alloc (Nat.le_refl _) _).drew)
            have S0 := hide (unhide HSV _ (unhide R0))
            have SA := hide (unhide HSV _ (unhide RA))
            have SB := hide (unhide HSV _ (Below.refl _ _))
            have ZA : Hid ((wr.alloc (.cells ex0 44)).drew.heap[wr.heap.size]? = some (.cells ex0 44 (0, 0))) := hide (heap_alloc_new wr _)
            go_upto_region 15 with fail
            go_cut [26] from 111 to 149 (fun t W => TwR wr 7 ⟨fn, ft, fi, fz⟩ ⟨gn, gt, gi, gz⟩ t W)
            case first =>
              go_region_held3 (fun V => V.cell? ⟨p, 0, none⟩ = some (sv fn) ∧ V.cell? ⟨p, 1, none⟩ = some (.bool ft) ∧ V.cell? ⟨p, 2, none⟩ = some (.int .i64 fi) ∧ V.cell? ⟨p, 3, none⟩ = some (sv fz) ∧ V.cell? ⟨q, 0, none⟩ = some (sv gn) ∧ V.cell? ⟨q, 1, none⟩ = some (.bool gt) ∧ V.cell? ⟨q, 2, none⟩ = some (.int .i64 gi) ∧ V.cell? ⟨q, 3, none⟩ = some (sv gz))
                (first | with_reducible exact unhide SB | with_reducible exact unhide S0 | with_reducible exact unhide SA | (refine unhide HSV _ ?_; first | with_reducible exact unhide B6 | with_reducible exact unhide B5 | with_reducible exact (unhide B5).alloc (unhide B5).size _ | with_reducible exact (unhide B6).alloc (unhide B6).size _ | with_reducible exact ((unhide B6).alloc (unhide B6).size _).alloc (by simp; have := (unhide B6).size; omega) _ | (have h := (unhide B6).alloc (unhide B6).size (.cells (row8 ⟨fn, ft, fi, fz⟩ ⟨gn, gt, gi, gz⟩) 44); exact below_put4 h (unhide HQ) _ _ _ _) | (have h := ((unhide B6).alloc (unhide B6).size (.cells ex0 44)).alloc (by simp; have := (unhide B6).size; omega) (.cells (row8 ⟨fn, ft, fi, fz⟩ ⟨gn, gt, gi, gz⟩) 44); exact below_put4 h (unhide B6).size _ _ _ _)))
                ((go_at_call 14; (first
                  | ((with_reducible refine (unhide HVf _).mono ?_); rintro e w5 ⟨rfl, b5⟩; (first | (have B5 := hide ((unhide R0).trans (b5.mono (unhide R0).size)); clear b5) | (have B5 := hide ((unhide RA).trans (b5.mono (unhide RA).size)); have Z5 := hide (rowKept (unhide ZA) b5 (Nat.le_refl _)); have HQ := hide (Nat.le_refl wr.heap.size); clear b5)))
                  | ((with_reducible refine (unhide HVg _).mono ?_); rintro e w6 ⟨rfl, b6⟩; (first | (have B6 := hide ((unhide B5).trans (b6.mono (unhide B5).size)); (first | (have Z6 := hide (rowKept (unhide Z5) b6 (Nat.le_refl _))) | skip); clear b6) | (have B6 := hide (((unhide B5).alloc (unhide B5).size (.cells ex0 44)).trans (b6.mono (by have := (unhide B5).size; simp; omega))); have Z6 := hide (rowKept (heap_alloc_new w5 (.cells ex0 44 (0, 0))) b6 (Nat.le_refl _)); have HQ := hide (unhide B5).size; clear b6)); (first | (have hz6 := unhide Z6; obtain ⟨m0, m1, m2, m3, m4⟩ := cells4 (rowKept hz6 ((Below.refl _ w6).alloc (Nat.le_refl _) (.cells (row8 ⟨fn, ft, fi, fz⟩ ⟨gn, gt, gi, gz⟩) 44)) (Nat.le_refl _))) | skip); obtain ⟨k0, k1, k2, k3, k4⟩ := cells4 (rowKept (heap_alloc_new w6 (.cells ex0 44 (0, 0))) ((Below.refl _ (w6.alloc (.cells ex0 44))).alloc (Nat.le_refl _) (.cells (row8 ⟨fn, ft, fi, fz⟩ ⟨gn, gt, gi, gz⟩) 44)) (Nat.le_refl _))))))
              all_goals
                rename_i hh
                clear hh
                try clear m0 m1 m2 m3 m4
                try clear k0 k1 k2 k3 k4
                go_wp2
                go_meet
                first
                  | with_reducible exact TwR.new (unhide B6)
                  | with_reducible exact TwR.mid (unhide B6)
                  | with_reducible exact TwR.put (unhide B6) (unhide HQ) (unhide Z6)
            case rest =>
              obtain ⟨qc, gc, rfl, hxc, hgc, hbc⟩ := hcut
              rename World => Wc
              have HXc := hide hxc
              have HGc := hide hgc
              have HBnc := hide hbc
              have HS := hide ((unhide HS).grown hbc)
              clear hxc hgc hbc HSV R0 RA S0 SA SB ZA
              have HSV : Hid (∀ V, Below Wc.heap.size Wc V → V.cell? ⟨p, 0, none⟩ = some (sv fn) ∧ V.cell? ⟨p, 1, none⟩ = some (.bool ft) ∧ V.cell? ⟨p, 2, none⟩ = some (.int .i64 fi) ∧ V.cell? ⟨p, 3, none⟩ = some (sv fz) ∧ V.cell? ⟨q, 0, none⟩ = some (sv gn) ∧ V.cell? ⟨q, 1, none⟩ = some (.bool gt) ∧ V.cell? ⟨q, 2, none⟩ = some (.int .i64 gi) ∧ V.cell? ⟨q, 3, none⟩ = some (sv gz)) := hide (fun V hV => by
                have h := (unhide HS).grown hV
                obtain ⟨a0, a1, a2, a3, -⟩ := h.fx.cells
                obtain ⟨b0, b1, b2, b3, -⟩ := h.gx.cells
                exact ⟨a0, a1, a2, a3, b0, b1, b2, b3⟩)
              have R0 : Hid (Below Wc.heap.size Wc Wc.drew) := hide (Below.refl _ _).drew
              have RA : Hid (Below Wc.heap.size Wc (Wc.alloc (.cells ex0 44)).drew) := hide (((Below.refl _ _).alloc (Nat.le_refl _) _).drew)
              have S0 := hide (unhide HSV _ (unhide R0))
              have SA := hide (unhide HSV _ (unhide RA))
              have SB := hide (unhide HSV _ (Below.refl _ _))
              have ZA : Hid ((Wc.alloc (.cells ex0 44)).drew.heap[Wc.heap.size]? = some (.cells ex0 44 (0, 0))) := hide (heap_alloc_new Wc _)
              go_upto_region 16 with fail
              go_cut [27] from 111 to 149 (fun t W => TwR Wc 7 ⟨gn, gt, gi, gz⟩ ⟨fn, ft, fi, fz⟩ t W)
              case first =>
                go_region_held3 (fun V => V.cell? ⟨p, 0, none⟩ = some (sv fn) ∧ V.cell? ⟨p, 1, none⟩ = some (.bool ft) ∧ V.cell? ⟨p, 2, none⟩ = some (.int .i64 fi) ∧ V.cell? ⟨p, 3, none⟩ = some (sv fz) ∧ V.cell? ⟨q, 0, none⟩ = some (sv gn) ∧ V.cell? ⟨q, 1, none⟩ = some (.bool gt) ∧ V.cell? ⟨q, 2, none⟩ = some (.int .i64 gi) ∧ V.cell? ⟨q, 3, none⟩ = some (sv gz))
                  (first | with_reducible exact unhide SB | with_reducible exact unhide S0 | with_reducible exact unhide SA | (refine unhide HSV _ ?_; first | with_reducible exact unhide B6 | with_reducible exact unhide B5 | with_reducible exact (unhide B5).alloc (unhide B5).size _ | with_reducible exact (unhide B6).alloc (unhide B6).size _ | with_reducible exact ((unhide B6).alloc (unhide B6).size _).alloc (by simp; have := (unhide B6).size; omega) _ | (have h := (unhide B6).alloc (unhide B6).size (.cells (row8 ⟨gn, gt, gi, gz⟩ ⟨fn, ft, fi, fz⟩) 44); exact below_put4 h (unhide HQ) _ _ _ _) | (have h := ((unhide B6).alloc (unhide B6).size (.cells ex0 44)).alloc (by simp; have := (unhide B6).size; omega) (.cells (row8 ⟨gn, gt, gi, gz⟩ ⟨fn, ft, fi, fz⟩) 44); exact below_put4 h (unhide B6).size _ _ _ _)))
                  ((go_at_call 14; (first
                    | ((with_reducible refine (unhide HVg _).mono ?_); rintro e w5 ⟨rfl, b5⟩; (first | (have B5 := hide ((unhide R0).trans (b5.mono (unhide R0).size)); clear b5) | (have B5 := hide ((unhide RA).trans (b5.mono (unhide RA).size)); have Z5 := hide (rowKept (unhide ZA) b5 (Nat.le_refl _)); have HQ := hide (Nat.le_refl Wc.heap.size); clear b5)))
                    | ((with_reducible refine (unhide HVf _).mono ?_); rintro e w6 ⟨rfl, b6⟩; (first | (have B6 := hide ((unhide B5).trans (b6.mono (unhide B5).size)); (first | (have Z6 := hide (rowKept (unhide Z5) b6 (Nat.le_refl _))) | skip); clear b6) | (have B6 := hide (((unhide B5).alloc (unhide B5).size (.cells ex0 44)).trans (b6.mono (by have := (unhide B5).size; simp; omega))); have Z6 := hide (rowKept (heap_alloc_new w5 (.cells ex0 44 (0, 0))) b6 (Nat.le_refl _)); have HQ := hide (unhide B5).size; clear b6)); (first | (have hz6 := unhide Z6; obtain ⟨m0, m1, m2, m3, m4⟩ := cells4 (rowKept hz6 ((Below.refl _ w6).alloc (Nat.le_refl _) (.cells (row8 ⟨gn, gt, gi, gz⟩ ⟨fn, ft, fi, fz⟩) 44)) (Nat.le_refl _))) | skip); obtain ⟨k0, k1, k2, k3, k4⟩ := cells4 (rowKept (heap_alloc_new w6 (.cells ex0 44 (0, 0))) ((Below.refl _ (w6.alloc (.cells ex0 44))).alloc (Nat.le_refl _) (.cells (row8 ⟨gn, gt, gi, gz⟩ ⟨fn, ft, fi, fz⟩) 44)) (Nat.le_refl _))))))
                all_goals
                  rename_i hh
                  clear hh
                  try clear m0 m1 m2 m3 m4
                  try clear k0 k1 k2 k3 k4
                  go_wp2
                  go_meet
                  first
                    | with_reducible exact TwR.new (unhide B6)
                    | with_reducible exact TwR.mid (unhide B6)
                    | with_reducible exact TwR.put (unhide B6) (unhide HQ) (unhide Z6)
              case rest =>
                obtain ⟨qd, gd, rfl, hxd, hgd, hbd⟩ := hcut
                rename World => Wd
                have HXd := hide hxd
                have HGd := hide hgd
                have HBnd := hide hbd
                have HS := hide ((unhide HS).grown hbd)
                clear hxd hgd hbd HSV R0 RA S0 SA SB ZA
                have HXc := hide (rowKept (unhide HXc) (unhide HBnd) (Nat.le_refl _))
                have HGc := hide (rowKept (unhide HGc) (unhide HBnd) (Nat.le_refl _))
                have HTc := hide (fun (W : World) h1 h2 => unhide HTc' W gc h1 h2)
                have HTd := hide (fun (W : World) h1 h2 => unhide HTd' W gd h1 h2)
                obtain ⟨b0, b1, b2, b3, -⟩ := cells4 (unhide HXc)
                have CC := hide (unhide HTc Wd (unhide HS).bel (unhide HGc))
                go_upto_region 18 with (go_at_call 13; refine (unhide CC).mono ?_; rintro e w5 ⟨rfl, b5⟩; have HB5 := hide b5; clear b5)
                have hb6 : Below Wd.heap.size Wd (w5.alloc (.cells (fv ⟨un, ut, (-ti), uz⟩) 48)) := (unhide HB5).alloc (unhide HB5).size _
                have hf6 := FBox.new w5 ⟨un, ut, (-ti), uz⟩
                obtain ⟨We, hWe⟩ : ∃ We, We = w5.alloc (.cells (fv ⟨un, ut, (-ti), uz⟩) 48) := ⟨_, rfl⟩
                rw [show w5.alloc (.cells #[Value.string ⟨un.toArray⟩, .bool ut, .int .i64 (-ti), .string ⟨uz.toArray⟩] 48) = We from hWe.symm]
                rw [← hWe] at hb6 hf6
                obtain ⟨cWe, hcWe⟩ : ∃ cWe, cWe = w5.heap.size := ⟨_, rfl⟩
                rw [← hcWe] at hf6 ⊢
                have HFWe := hide hf6
                have HBWe := hide hb6
                have HS := hide ((unhide HS).grown hb6)
                clear b0 b1 b2 b3 hb6 hf6 hWe hcWe CC
                have HXd := hide (rowKept (unhide HXd) (unhide HBWe) (Nat.le_refl _))
                have HGd := hide (rowKept (unhide HGd) (unhide HBWe) (Nat.le_refl _))
                obtain ⟨b0, b1, b2, b3, -⟩ := cells4 (unhide HXd)
                have CC := hide (unhide HTd We (unhide HS).bel (unhide HGd))
                go_upto_region 19 with (go_at_call 13; refine (unhide CC).mono ?_; rintro e w5 ⟨rfl, b5⟩; have HB5 := hide b5; clear b5)
                have hb6 : Below We.heap.size We (w5.alloc (.cells (fv ⟨tn, tt, ti, tz⟩) 48)) := (unhide HB5).alloc (unhide HB5).size _
                have hf6 := FBox.new w5 ⟨tn, tt, ti, tz⟩
                obtain ⟨Wf, hWf⟩ : ∃ Wf, Wf = w5.alloc (.cells (fv ⟨tn, tt, ti, tz⟩) 48) := ⟨_, rfl⟩
                rw [show w5.alloc (.cells #[Value.string ⟨tn.toArray⟩, .bool tt, .int .i64 ti, .string ⟨tz.toArray⟩] 48) = Wf from hWf.symm]
                rw [← hWf] at hb6 hf6
                obtain ⟨cWf, hcWf⟩ : ∃ cWf, cWf = w5.heap.size := ⟨_, rfl⟩
                rw [← hcWf] at hf6 ⊢
                have HFWf := hide hf6
                have HBWf := hide hb6
                have HS := hide ((unhide HS).grown hb6)
                clear b0 b1 b2 b3 hb6 hf6 hWf hcWf CC
                have hfa := (unhide HFWe).below (unhide HBWf) (Nat.le_refl _)
                obtain ⟨y0, y1, y2, y3, -⟩ := hfa.cells
                obtain ⟨z0, z1, z2, z3, -⟩ := (unhide HFWf).cells
                simp only at y0 y1 y2 y3 z0 z1 z2 z3
                clear hfa
                go_wp2_with fail
                go_meet
                exact ⟨rfl, HS⟩
    case rest =>
      obtain ⟨rfl, HS⟩ := hcut
      rename World => W1
      have hbel := (unhide HS).bel
      have hcb := unhide HX2 W1 hbel
      obtain ⟨⟨c0, c1⟩, ⟨c2, c3, c4, c5⟩, c6, c7, c8, c9⟩ := hcb.cells
      go_upto_region 22 with fail
      clear c0 c1 c2 c3 c4 c5 c6 c7 c8 c9 hcb
      have hb2 : Below w1.heap.size w1 (W1.alloc (.cells (cdV d ca cc ca' cc') 46)) := hbel.alloc hbel.size _
      have hx2 : CBox (W1.alloc (.cells (cdV d ca cc ca' cc') 46)) W1.heap.size d ca cc ca' cc' := heap_alloc_new _ _
      obtain ⟨W2, hW2⟩ : ∃ W2, W2 = W1.alloc (.cells (cdV d ca cc ca' cc') 46) := ⟨_, rfl⟩
      rw [show W1.alloc (.cells #[Value.int .i64 d.kind, .bool d.neg, .int .i64 d.A.kind, .int .i64 d.A.n, sv d.A.s, .slice ca d.A.args.length cc, .int .i64 d.B.kind, .int .i64 d.B.n, sv d.B.s, .slice ca' d.B.args.length cc'] 46) = W2 from hW2.symm]
      rw [← hW2] at hb2 hx2
      obtain ⟨r, hr⟩ : ∃ r, r = W1.heap.size := ⟨_, rfl⟩
      rw [← hr] at hx2 ⊢
      have hrr : w1.heap.size ≤ r := by have := hbel.size; omega
      clear hr hW2
      have hx3 : CBox (W2.setCell ⟨r, 1, none⟩ (.bool (!d.neg))) r ⟨d.kind, !d.neg, d.A, d.B⟩ ca cc ca' cc' := (heap_setCell_same _ r 1 _ _ _ hx2).trans rfl
      have hb3 : Below w1.heap.size w1 (W2.setCell ⟨r, 1, none⟩ (.bool (!d.neg))) := hb2.setCell (p := ⟨r, 1, none⟩) hrr _
      have HX3 := hide hx3
      have HB3 := hide hb3
      obtain ⟨⟨-, k1⟩, -⟩ := hx2.cells
      have kf := cbox_frozen hx2
      obtain ⟨⟨-, c1⟩, -⟩ := (unhide HX2 W2 hb2).cells
      clear hx3 hb3 hrr hbel hb2 hx2
      go_upto_region 23 with fail
      clear k1 c1 kf
      obtain ⟨W3, hW3⟩ : ∃ W3, W3 = W2.setCell ⟨r, 1, none⟩ (.bool (!d.neg)) := ⟨_, rfl⟩
      rw [← hW3]
      rw [← hW3] at HX3 HB3
      clear hW3
      obtain ⟨⟨c0, c1⟩, ⟨c2, c3, c4, c5⟩, c6, c7, c8, c9⟩ := (unhide HX2 W3 (unhide HB3)).cells
      have C3 := hide (unhide HH1 W3 (unhide HB3))
      go_upto_region 24 with (go_at_call 15; refine (unhide C3).mono ?_; rintro e w4 ⟨rfl, b4⟩; have HB4 := hide ((unhide HB3).trans (b4.mono (unhide HB3).size)); have HX4 := hide ((unhide HX3).below b4 (Nat.le_refl _)); clear b4)
      clear c0 c1 c2 c3 c4 c5 c6 c7 c8 c9 C3
      obtain ⟨⟨c0, c1⟩, ⟨c2, c3, c4, c5⟩, c6, c7, c8, c9⟩ := (unhide HX4).cells
      have C4 := hide (unhide HH2 w4 (unhide HB4))
      go_upto_region 25 with (go_at_call 15; refine (unhide C4).mono ?_; rintro e w5 ⟨rfl, b5⟩; have HB5 := hide (unhide HBW _ ((unhide HB4).trans (b5.mono (unhide HB4).size))); clear b5)
      clear c0 c1 c2 c3 c4 c5 c6 c7 c8 c9 C4
      rcases unhide HNN with ⟨rfl, rfl⟩ | hne
      · cases bh <;> (go_wp2_with fail; go_ret; exact ⟨rfl, unhide HB5⟩)
      · have hne2 : (nh != 0) = true := by simpa using hne
        go_wp2_with fail
        go_ret
        exact ⟨rfl, unhide HB5⟩

set_option maxRecDepth 100000 in
theorem RuTurns.lifted (os : Os) (started : os.Started) (H : Type) (enc : TypeId × Value → H) :
    ReturnsInHanded {} Tryz.checked os 5 .any (fun w args => (Rows.rulesTurnsSpec.pre enc Tryz.prog Tryz.f5 [] false w args ∧ laidMetH Tryz.prog seatLaid w) ∧ sizedMet enc Tryz.prog Tryz.f5 (OpenSpec.ofChange Rows.rulesTurnsSpec) false w args)
      (Rows.rulesTurnsSpec.post enc Tryz.prog Tryz.f5 false true false false) := by
  refine returnsInHanded_of_change_and (C := Tryz.checked) (X := fun w _ => laidMetH Tryz.prog seatLaid w) (fun _ _ _ hh h => h.of_heap hh) own_knob started (by kernel_rfl) Tryz.func5
    (ChangeSpec.witness_at (enc := enc) (C := Tryz.checked) (os := os) (X := fun w _ => laidMetH Tryz.prog seatLaid w) false (laidWorld os) #[.agg (exV (.mk 0 0 [] []) none 0), .agg (exV (.mk 0 0 [] []) none 0), .agg (cdV ⟨0, false, .mk 0 0 [] [], .mk 0 0 [] []⟩ none 0 none 0), .string ⟨#[]⟩, .slice none 0 0, .slice none 0 0] 8 rfl (by kernel_rfl) (by kernel_rfl) (by kernel_rfl) (by kernel_rfl) (by kernel_rfl) (laidWorld_met os _)) ?_
  intro W base args ds gs before hval0 hW _ hsz0 hL _
  have hval : ∀ (j : Nat) t v, Tryz.f5.params[j]? = some t → args[j]? = some v → Value.okWide Tryz.prog W .any base t v := hval0
  have hsz : (DataW.weightsEach Tryz.prog (Tryz.f5.params.toList ++ Rows.rulesTurnsSpec.plain.varTypes Tryz.prog) (ds ++ gs)).all (· ≤ reachBytes) = true := hsz0
  have hW' := hW
  obtain ⟨p, q, hA0, hV, rfl, hfz, hnd⟩ := hW
  have hA : DataW.TrodAll enc Tryz.prog W 0 (fun _ => true) true Tryz.f5.params.toList args.toList ds p := hA0
  rw [Tryz.params5] at hA hval hsz
  obtain ⟨v0, vs0, d0, ds0, p0, q0, e0, rfl, rfl, h0, hA⟩ := trodAll_cons hA
  obtain ⟨v1, vs1, d1, ds1, p1, q1, rfl, rfl, rfl, h1, hA⟩ := trodAll_cons hA
  obtain ⟨v2, vs2, d2, ds2, p2, q2, rfl, rfl, rfl, h2, hA⟩ := trodAll_cons hA
  obtain ⟨v3, vs3, d3, ds3, p3, q3, rfl, rfl, rfl, h3, hA⟩ := trodAll_cons hA
  obtain ⟨v4, vs4, d4, ds4, p4, q4, rfl, rfl, rfl, h4, hA⟩ := trodAll_cons hA
  obtain ⟨v5, vs5, d5, ds5, p5, q5, rfl, rfl, rfl, h5, hA⟩ := trodAll_cons hA
  obtain ⟨rfl, rfl, rfl⟩ := trodAll_nil hA
  obtain rfl : args = #[v0, v1, v2, v3, v4, v5] := by cases args; simp_all
  obtain ⟨rfl, rfl⟩ := trodVars_none hV
  have k0 := h0
  have lt0 : ∀ x ∈ p0, x.block < W.heap.size := by obtain ⟨m, hm⟩ := k0; exact DataW.trod_lt m _ _ _ hm
  obtain ⟨x0, a0, c0, rfl, g0⟩ := open_exA hsz (j := 0) rfl rfl (hval 0 44 v0 rfl rfl) h0
  have k1 := h1
  have lt1 : ∀ x ∈ p1, x.block < W.heap.size := by obtain ⟨m, hm⟩ := k1; exact DataW.trod_lt m _ _ _ hm
  obtain ⟨x1, a1, c1, rfl, g1⟩ := open_exA hsz (j := 1) rfl rfl (hval 1 44 v1 rfl rfl) h1
  have k2 := h2
  have lt2 : ∀ x ∈ p2, x.block < W.heap.size := by obtain ⟨m, hm⟩ := k2; exact DataW.trod_lt m _ _ _ hm
  obtain ⟨x2, a2, c2, m2, r2, rfl, g2, f2⟩ := open_cdA hsz (j := 2) rfl rfl (hval 2 46 v2 rfl rfl) h2
  obtain ⟨s3, rfl, rfl, rfl, hs3⟩ := open_string Tryz.underlying9 (hval 3 9 v3 rfl rfl) h3
  have ls3 : s3.data.toList.length ≤ 140737488351232 := by
    have := sized_string hsz (j := 3) (t := 9) rfl rfl
    simp only [reachBytes] at this
    omega
  have k4 := h4
  have lt4 : ∀ x ∈ p4, x.block < W.heap.size := by obtain ⟨m, hm⟩ := k4; exact DataW.trod_lt m _ _ _ hm
  obtain ⟨a4, c4, l4, rfl, g4, f4, b4⟩ := open_sfl hsz (j := 4) rfl rfl (okWide_slice Tryz.underlying30 (hval 4 30 v4 rfl rfl)) h4
  have k5 := h5
  have lt5 : ∀ x ∈ p5, x.block < W.heap.size := by obtain ⟨m, hm⟩ := k5; exact DataW.trod_lt m _ _ _ hm
  obtain ⟨a5, c5, l5, rfl, g5, f5, b5⟩ := open_sfl hsz (j := 5) rfl rfl (okWide_slice Tryz.underlying30 (hval 5 30 v5 rfl rfl)) h5
  clear hA0 hval0 hsz0
  refine (RuTurns.walk x0 a0 c0 x1 a1 c1 x2 a2 c2 m2 r2 s3 a4 c4 l4 a5 c5 l5 W g0 g1 g2 f2 (by omega) g4.1 (fun f hf => (f4 f hf).small) g5.1 (fun f hf => (f5 f hf).small) (vars_of_laid hL)).mono fun e W' ⟨he, bel⟩ => ?_
  subst he
  exact ⟨_, rfl, _, _, _, [], _, [], hW', trodAll_mk1 (shut_bool Tryz.underlying4 _), (trodAll_cons_mk (Below.trod laid_out (by kernel_rfl) (of_decide_eq_true (by kernel_rfl)) k0 bel lt0) (trodAll_cons_mk (Below.trod laid_out (by kernel_rfl) (of_decide_eq_true (by kernel_rfl)) k1 bel lt1) (trodAll_cons_mk (Below.trod laid_out (by kernel_rfl) (of_decide_eq_true (by kernel_rfl)) k2 bel lt2) (trodAll_cons_mk (shut_string Tryz.underlying9 hs3) (trodAll_cons_mk (Below.trod laid_out (by kernel_rfl) (of_decide_eq_true (by kernel_rfl)) k4 bel lt4) (trodAll_cons_mk (Below.trod laid_out (by kernel_rfl) (of_decide_eq_true (by kernel_rfl)) k5 bel lt5) trodAll_mk0)))))), rfl, bel.frame _, fun h => by cases h⟩

theorem rulesTurns_holds : Rows.RulesTurnsSaid :=
  OpenClaim.holds_of_wide 5 Tryz.f5 rfl rfl rfl rfl rfl rfl rfl ⟨rfl, rfl, rfl, rfl, rfl⟩ rfl rfl rfl rfl rfl (by kernel_rfl) Tryz.func5 (by kernel_rfl)
    (of_decide_eq_true (by kernel_rfl)) (by unfold Func.isWrapper; first | (rw [if_pos (by decide +kernel)]; kernel_rfl) | (rw [if_neg (by decide +kernel)]; exact ⟨rfl, rfl⟩))
    (fun os started H enc _ => RuTurns.lifted os started H enc)

theorem rulesTurnsCard_holds : Rows.RulesTurnsCardSaid :=
  Claim7.holds_tied_plain_at .later [] _ _ _ _
    rulesTurns_holds (fun _ h => by cases h) (by kernel_rfl) (fun _ h => by cases h) rulesTurns_row_tie rfl ⟨rfl, rfl⟩ (by kernel_rfl) rfl
    (fun f fn hf hfn => by
      obtain rfl : f = 5 := Option.some.inj ((show Tryz.prog.funcNamed "cartulary/cartularylaw13.RulesTurns" = some 5 by kernel_rfl).symm.trans hf) |>.symm
      obtain rfl : fn = Tryz.f5 := (Option.some.inj (Tryz.func5.symm.trans hfn)).symm
      exact ⟨by kernel_rfl, fun j t ht => by
        rw [Tryz.params5] at ht
        have h0 : ∀ (t : TypeId), t ∈ ([44, 44, 46, 9, 30, 30] : List TypeId) → Tryz.prog.wantsStandIn t = false := by
          intro t ht
          simp only [List.mem_cons, List.not_mem_nil, or_false] at ht
          rcases ht with rfl | rfl | rfl | rfl | rfl | rfl <;> kernel_rfl
        exact h0 t (List.mem_of_getElem? (by simpa using ht))⟩)
    (by kernel_rfl)
#print axioms rulesTurnsCard_holds
end Go.Proofs.YtingpmgpjmlioaaGreatDoor
