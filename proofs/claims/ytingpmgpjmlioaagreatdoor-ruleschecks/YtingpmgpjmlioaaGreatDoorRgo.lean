/-
  DERIVED. A range over a function whose rounds change nothing that lay ahead of them: the iterator's word, and the law for the statement.
-/
import Derived.RangeFuncNested
import Derived.RangeFuncBound
import Derived.RangeFuncCalls
import Derived.RangeFuncLeaves
import Derived.Shelf.Abstract
import Derived.Shelf.RegionOpen
import Derived.OwnWalkIn
import Derived.TacticsInMore
import Derived.LoopNIn
import Derived.LoopIn
namespace Go.Proofs.YtingpmgpjmlioaaGreatDoor
open Go.RowKit Go.Shelf
set_option linter.unusedVariables false

/-- What stays where all that lay below a block's number stays. -/
def Stays {β : Type} (B : Nat) (J : β → World → Prop) : Prop := ∀ s X Y, J s X → Below B X Y → J s Y
theorem Stays.mono {β : Type} {B B' : Nat} {J : β → World → Prop} (h : Stays B J) (hB : B ≤ B') : Stays B' J := fun s X Y hj hb => h s X Y hj (hb.mono hB)

theorem round_any {m m' : Nat} {P : Program} {l : Nat} {f : FuncId} {tmps : Array Value} {assign body : Code} {w : World} {R : Ending → World → Prop}
    (h : RoundIn Fence.wide m P l f tmps assign body w R) : RoundIn Fence.wide m' P l f tmps assign body w R := ⟨h.1, fun c cs _ => h.2 c cs (fun d hd => by cases hd)⟩

/-- What lay from a block on lies as it lay. -/
structure KeepUp (lo : Nat) (W W' : World) : Prop where
  size : W.heap.size ≤ W'.heap.size
  same : ∀ k, lo ≤ k → k < W.heap.size → W'.heap[k]? = W.heap[k]?
theorem KeepUp.of_below {lo : Nat} {W W' : World} (h : Below W.heap.size W W') : KeepUp lo W W' := ⟨h.size, fun k _ hk => h.block k hk⟩
theorem KeepUp.mono {lo lo' : Nat} {W W' : World} (h : KeepUp lo W W') (hl : lo ≤ lo') : KeepUp lo' W W' := ⟨h.size, fun k h1 h2 => h.same k (by omega) h2⟩
theorem KeepUp.trans {lo : Nat} {A B C : World} (h : KeepUp lo A B) (k : KeepUp lo B C) : KeepUp lo A C := ⟨Nat.le_trans h.size k.size, fun i h1 h2 => (k.same i h1 (Nat.lt_of_lt_of_le h2 h.size)).trans (h.same i h1 h2)⟩
theorem KeepUp.set {lo : Nat} {A B : World} (h : KeepUp lo A B) {p : Addr} (hp : p.block < lo) (u : Value) : KeepUp lo A (B.setCell p u) := ⟨by have := h.size; simp; exact this, fun i h1 h2 => (Below.heap_setCell _ _ _ _ (by omega)).trans (h.same i h1 h2)⟩

/-- An iterator's word: it hands on these things, one behind the other, till a round says no. -/
def Goes {α : Type} (P : Program) (g : Nat) (lb : Array Value) (enc : α → Array Value) (L : List α) (w : World) : Prop :=
  ∀ (n l : Nat) (J Jx : List α → World → Prop) (W : World), Below w.heap.size w W → Stays W.heap.size J → Stays W.heap.size Jx →
    (∀ pre x W1, J pre W1 → (pre ++ [x]) <+: L → YieldAt Fence.wide 0 P l #[.agg (enc x)] W1 fun e W' =>
      (e = .returned (.bool true) ∧ J (pre ++ [x]) W' ∧ Below W1.heap.size W1 W') ∨ (e = .returned (.bool false) ∧ Jx (pre ++ [x]) W' ∧ KeepUp W.heap.size W1 W')) →
    J [] W →
    CallsIn Fence.wide n P g (#[.func (.yield l) #[] #[]] ++ lb) W fun e W' => (∃ v, e = .returned v) ∧ (J L W' ∨ ∃ pre, pre <+: L ∧ Jx pre W')

/-- How the body of a round may be left. -/
def goPost {α : Type} (lo : Nat) (I : List α → World → Prop) (Ix : Code → List α → World → Prop) (xs : List α) (W : World) : Exit → Act → World → Prop
  | .normal, _, W' => Below W.heap.size W W' ∧ I xs W'
  | .ret, _, W' => KeepUp lo W W' ∧ Ix .ret xs W'
  | .exit id, _, W' => KeepUp lo W W' ∧ Ix (.exit id) xs W'
  | .goto t, _, W' => KeepUp lo W W' ∧ Ix (.goto t) xs W'
  | .panic _, _, _ => False
  | .outgrown, _, _ => False

theorem below_turn {B : Nat} {W : World} {l : Nat} {o : Obj} (o' : Obj) (hB : B ≤ l) (h : W.heap[l]? = some o) : Below B W (W.putObj l o') :=
  (Below.refl B W).grown (grownBy_putObj' W l o') (by have := (Array.getElem?_eq_some_iff.1 h).1; omega) (fun k e => by cases e; exact hB)

/-- The activation at a round's beginning. -/
abbrev rdAct (a : Act) (p v : Tmp) (C : Array Value) (q : Nat) : Act := { tmps := (a.tmps.setIfInBounds p (.agg C)).setIfInBounds v (.pointer (some ⟨q, 0, none⟩)), defers := [] }

theorem range_box {α : Type} {n : Nat} {P : Program} {g : Operand} {p : Tmp} {assign body : Code} {Q : Exit → Act → World → Prop} {a : Act} {w : World}
    {gf : Nat} {lb : Array Value} (hg : a.eval g = .func (.func gf) #[] lb) (eg : ∀ args w, (callFunc gf args).run P w = .ok (.enter gf args) w)
    {enc : α → Array Value} {L : List α} {w0 : World} (hseq : Goes P gf lb enc L w0) (hb0 : Below w0.heap.size w0 w)
    (I : List α → World → Prop) (Ix : Code → List α → World → Prop) (hI : Stays w.heap.size I) (hIx : ∀ c, Stays w.heap.size (Ix c)) (h0 : I [] w)
    (t : TypeId) (v : Tmp)
    (hassign : ∀ (l : Nat) (x : α) (W : World) (K : Act → World → Prop), K (rdAct a p v (enc x) W.heap.size) (W.alloc (.cells (enc x) t (0, 0))) →
      assign.wpIn (Fence.wide.inRound l) n P (Exit.then K (fun _ _ _ => False)) { tmps := a.tmps.setIfInBounds p (.agg (enc x)), defers := [] } W)
    (hbody : ∀ (l : Nat) (pre : List α) (x : α) (Bx : Nat) (W : World), I pre W → W.heap[Bx]? = some (.cells (enc x) t (0, 0)) → (pre ++ [x]) <+: L → body.wpIn (Fence.wide.inRound l) n P (goPost w.heap.size I Ix (pre ++ [x]) W) (rdAct a p v (enc x) Bx) W)
    (hdone : ∀ (D : Nat) (W : World), w.heap.size ≤ D → I L W → W.heap[D]? = some (.deferred (some [])) → Q .normal { a with defers := { target := .collected D, args := #[] } :: a.defers } W)
    (hstop : ∀ (D : Nat) (c : Code) (pre : List α) (W : World), w.heap.size ≤ D → pre <+: L → Ix c pre W → W.heap[D]? = some (.deferred (some [])) → c.wpIn Fence.wide n P Q { a with defers := { target := .collected D, args := #[] } :: a.defers } W) :
    (Code.rangeFunc g #[p] assign body).wpIn Fence.wide n P Q a w := by
  refine wpIn_rangeFunc ?_
  intro fn hfn
  obtain ⟨rec, hrec⟩ : ∃ rec : LoopState → Option Code → Loop, rec = fun st pe => { state := st, pending := pe, fn, tmps := a.tmps, params := #[p], assign, body, defers := w.heap.size } := ⟨_, rfl⟩
  obtain ⟨W1, hW1⟩ : ∃ W1, (w.alloc (.deferred (some []))).alloc (.loop (rec .ready none)) = W1 := ⟨_, rfl⟩
  have hL1 : W1.heap[w.heap.size + 1]? = some (.loop (rec .ready none)) := by
    rw [← hW1]; have := World.alloc_heap_new (w.alloc (.deferred (some []))) (.loop (rec .ready none)); rwa [World.size_alloc] at this
  have hK1 : W1.heap[w.heap.size]? = some (.deferred (some [])) := by
    rw [← hW1]; exact (Below.heap_alloc _ _ _ (by simp)).trans (World.alloc_heap_new w _)
  have hs1 : W1.heap.size = w.heap.size + 2 := by rw [← hW1]; simp
  have hbw : Below w.heap.size w W1 := by
    rw [← hW1]; exact ((Below.refl _ w).alloc (Nat.le_refl _) _).alloc (by simp) _
  have hI1 : I [] W1 := hI _ _ _ h0 hbw
  have hb1 : Below w0.heap.size w0 W1 := hb0.trans (hbw.mono hb0.size)
  refine ⟨w.heap.size + 1, [{ target := .collected w.heap.size, args := #[] }], W1, { target := .fn (.func gf) lb, args := #[.func (.yield (w.heap.size + 1)) #[] #[]] }, W1, gf,
    #[.func (.yield (w.heap.size + 1)) #[] #[]] ++ lb, W1, ?_, ?_, ?_, ?_, fun h => (by cases h), ?_⟩
  · rw [← hW1, hrec]; exact run_enterLoop_outer _ _ _ _ _
  · simp only [resolve, hg]
    simp [go_sem]
  · intro f' hf'; trivial
  · simp [invoke, go_sem, eg]
  · refine (hseq (n - 1) (w.heap.size + 1)
      (fun pre W => I pre W ∧ W.heap[w.heap.size + 1]? = some (.loop (rec .ready none)) ∧ W.heap[w.heap.size]? = some (.deferred (some [])))
      (fun pre W => ∃ c, Ix c pre W ∧ W.heap[w.heap.size + 1]? = some (.loop (rec .done (some c))) ∧ W.heap[w.heap.size]? = some (.deferred (some [])))
      W1 hb1
      (fun s X Y hs hb => ⟨hI s X Y hs.1 (hb.mono (by omega)), (hb.block _ (by omega)).trans hs.2.1, (hb.block _ (by omega)).trans hs.2.2⟩)
      (fun s X Y hs hb => by
        obtain ⟨c, hc, hl, hk⟩ := hs
        exact ⟨c, hIx c s X Y hc (hb.mono (by omega)), (hb.block _ (by omega)).trans hl, (hb.block _ (by omega)).trans hk⟩)
      ?_ ⟨hI1, hL1, hK1⟩).mono ?_
    · rintro pre x W ⟨hi, hl, hk⟩ hlen
      have hy : (Instr.yield (w.heap.size + 1) #[.agg (enc x)]).run P W = .ok (.round (w.heap.size + 1) fn (a.tmps.setIfInBounds p (.agg (enc x))) assign body) W := by
        have hy := run_yield (P := P) (args := #[.agg (enc x)]) hl (by rw [hrec]; rfl)
        rw [hrec] at hy
        simpa using hy
      refine ⟨fn, _, assign, body, hy, round_any (m := n) (roundIn_of_wpIn hfn (hassign _ x W _ ?_))⟩
      clear hy
      have hlt0 : w.heap.size + 1 < W.heap.size := (Array.getElem?_eq_some_iff.1 hl).1
      obtain ⟨Wa, hWa⟩ : ∃ Wa, Wa = W.alloc (.cells (enc x) t (0, 0)) := ⟨_, rfl⟩
      have hba : Below W.heap.size W Wa := by rw [hWa]; exact (Below.refl _ W).alloc (Nat.le_refl _) _
      have hxa : Wa.heap[W.heap.size]? = some (.cells (enc x) t (0, 0)) := by rw [hWa]; exact World.alloc_heap_new W _
      rw [← hWa]
      have hla := (hba.block _ hlt0).trans hl
      have hka := (hba.block _ (by omega : w.heap.size < W.heap.size)).trans hk
      have hlt : w.heap.size + 1 < Wa.heap.size := (Array.getElem?_eq_some_iff.1 hla).1
      refine ⟨_, run_beginRound hla (by rw [hrec]), ?_⟩
      obtain ⟨Wb, hWb⟩ : ∃ Wb, Wb = Wa.putObj (w.heap.size + 1) (.loop { rec .ready none with state := .busy }) := ⟨_, rfl⟩
      have hl2 : Wb.heap[w.heap.size + 1]? = some (.loop { rec .ready none with state := .busy }) := by rw [hWb]; exact World.putObj_heap_same hlt
      have ho2 : ∀ k, k ≠ w.heap.size + 1 → Wb.heap[k]? = Wa.heap[k]? := fun k hk' => by rw [hWb]; exact World.putObj_heap_other hk'
      have hbb : Below w.heap.size Wa Wb := by rw [hWb]; exact below_turn _ (by omega) hla
      have hsb : Wb.heap.size = Wa.heap.size := by rw [hWb]; simp
      rw [← hWb]
      refine wpIn_mono (hbody _ pre x W.heap.size Wb (hI _ _ _ (hI _ _ _ hi (hba.mono (by omega))) hbb) ((ho2 _ (by omega)).trans hxa) hlen) ?_
      have fin : ∀ (jump : Option Code) (W3 : World), KeepUp w.heap.size Wb W3 →
          (Instr.endRound (w.heap.size + 1) jump).run P W3 = .ok (.bool jump.isNone) (W3.putObj (w.heap.size + 1) (.loop (rec (if jump.isNone then .ready else .done) jump))) ∧
          Below w.heap.size W3 (W3.putObj (w.heap.size + 1) (.loop (rec (if jump.isNone then .ready else .done) jump))) ∧
          (W3.putObj (w.heap.size + 1) (.loop (rec (if jump.isNone then .ready else .done) jump))).heap[w.heap.size + 1]? = some (.loop (rec (if jump.isNone then .ready else .done) jump)) ∧
          (W3.putObj (w.heap.size + 1) (.loop (rec (if jump.isNone then .ready else .done) jump))).heap[w.heap.size]? = some (.deferred (some [])) := fun jump W3 hk3 => by
        have hl3 := (hk3.same _ (by omega) (by omega)).trans hl2
        have := run_endRound (P := P) jump hl3
        have hbl := below_turn (B := w.heap.size) (.loop (rec (if jump.isNone then .ready else .done) jump)) (by omega) hl3
        rw [hrec] at this hbl ⊢
        exact ⟨this, hbl, World.putObj_heap_same (Array.getElem?_eq_some_iff.1 hl3).1, (World.putObj_heap_other (by omega)).trans ((hk3.same _ (by omega) (by omega)).trans ((ho2 _ (by omega)).trans hka))⟩
      have up : ∀ (W3 : World) (jump : Option Code), KeepUp w.heap.size Wb W3 → KeepUp W1.heap.size W (W3.putObj (w.heap.size + 1) (.loop (rec (if jump.isNone then .ready else .done) jump))) := fun W3 jump hk3 => by
        have h1 := hk3.size
        have h2 := hba.size
        refine ⟨by simp; omega, fun k hk1 hk2 => ?_⟩
        exact (World.putObj_heap_other (by omega)).trans ((hk3.same k (by omega) (by omega)).trans ((ho2 k (by omega)).trans (hba.block k hk2)))
      rintro e a3 W3 hp
      cases e with
      | normal =>
        obtain ⟨hk3, hi3⟩ := hp
        obtain ⟨hr, hbl, hl4, hk4⟩ := fin none W3 (KeepUp.of_below hk3)
        refine ⟨_, _, hr, .inl ⟨rfl, ⟨hI _ _ _ hi3 hbl, hl4, hk4⟩, ?_⟩⟩
        have hsz := hk3.size
        have hsz0 := hba.size
        refine ⟨hk3.os.trans ((by rw [hWb]; rfl : Wb.os = Wa.os).trans hba.os), hk3.tape.trans ((by rw [hWb]; rfl : Wb.tape = Wa.tape).trans hba.tape), hk3.output.trans ((by rw [hWb]; rfl : Wb.output = Wa.output).trans hba.output), by simp; omega, fun k hk' => ?_⟩
        by_cases e : k = w.heap.size + 1
        · subst e
          exact hl4.trans hl.symm
        · exact (World.putObj_heap_other e).trans ((hk3.block k (by omega)).trans ((ho2 k e).trans (hba.block k hk')))
      | ret =>
        obtain ⟨hk3, hi3⟩ := hp
        obtain ⟨hr, hbl, hl4, hk4⟩ := fin (some .ret) W3 hk3
        have hup := up W3 (some .ret) hk3
        exact ⟨_, _, hr, .inr ⟨rfl, ⟨.ret, hIx _ _ _ _ hi3 hbl, hl4, hk4⟩, hup⟩⟩
      | exit id =>
        obtain ⟨hk3, hi3⟩ := hp
        obtain ⟨hr, hbl, hl4, hk4⟩ := fin (some (.exit id)) W3 hk3
        have hup := up W3 (some (.exit id)) hk3
        exact ⟨_, _, hr, .inr ⟨rfl, ⟨.exit id, hIx _ _ _ _ hi3 hbl, hl4, hk4⟩, hup⟩⟩
      | goto t =>
        obtain ⟨hk3, hi3⟩ := hp
        obtain ⟨hr, hbl, hl4, hk4⟩ := fin (some (.goto t)) W3 hk3
        have hup := up W3 (some (.goto t)) hk3
        exact ⟨_, _, hr, .inr ⟨rfl, ⟨.goto t, hIx _ _ _ _ hi3 hbl, hl4, hk4⟩, hup⟩⟩
      | panic ch => exact hp.elim
      | outgrown => exact hp.elim
    · rintro e W2 ⟨⟨v, rfl⟩, (⟨hi, hl, hk⟩ | ⟨pre, hSp, c, hi, hl, hk⟩)⟩
      · exact ⟨none, _, by have := run_endLoop (P := P) hl (by rw [hrec]; simp); rw [hrec] at this; exact this, hdone _ _ (Nat.le_refl _) (hI _ _ _ hi (below_turn _ (by omega) hl)) ((World.putObj_heap_other (by omega)).trans hk)⟩
      · exact ⟨some c, _, by have := run_endLoop (P := P) hl (by rw [hrec]; simp); rw [hrec] at this; exact this, hstop _ c pre _ (Nat.le_refl _) hSp (hIx _ _ _ _ hi (below_turn _ (by omega) hl)) ((World.putObj_heap_other (by omega)).trans hk)⟩
end Go.Proofs.YtingpmgpjmlioaaGreatDoor
