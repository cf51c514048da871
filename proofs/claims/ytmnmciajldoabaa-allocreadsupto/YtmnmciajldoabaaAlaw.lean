/-
  DERIVED. A range over a function whose body writes its own loop variable (which lies in a box): what a round keeps is said from the call of yield to its return, not within the body alone.
-/
import Derived.Test.YtmnmciajldoabaaAall
namespace Go.Proofs.Ytmnmciajldoabaa
open Go.RowKit Go.Shelf
set_option linter.unusedVariables false

/-- How a round may be left: W0 is where yield was called, W where the body began. -/
def roundLeft {α : Type} (B : Nat) (Kr : World → World → Prop) (I : List α → World → Prop) (Ix : Code → List α → World → Prop) (xs : List α) (W0 W : World) : Exit → Act → World → Prop
  | .normal, _, X => (KeepsFrom B W X ∧ Kr W0 X) ∧ I xs X
  | .ret, _, X => KeepsFrom B W X ∧ Ix .ret xs X
  | .exit i, _, X => KeepsFrom B W X ∧ Ix (.exit i) xs X
  | .goto t, _, X => KeepsFrom B W X ∧ Ix (.goto t) xs X
  | .panic _, _, _ => False
  | .outgrown, _, _ => False

section
variable {n : Nat} {α : Type} {g : Operand} {ps : Array Tmp} {assign body : Code} {Q : Exit → Act → World → Prop} {a : Act} {w : World}

theorem range_boxed {gf : Nat} {lb : Array Value} (hg : a.eval g = .func (.func gf) #[] lb) (eg : ∀ args w, (callFunc gf args).run Try.prog w = .ok (.enter gf args) w)
    {encs : α → Array Value} {Kr : World → World → Prop} {S Sp : List α → Prop} {N : Nat} (hseq : SeqStopsK Fence.wide (n - 1) Try.prog gf lb encs Kr S Sp N w) (hps : ∀ x, (encs x).size = ps.size)
    (I : List α → World → Prop) (Ix : Code → List α → World → Prop) (Ax : α → World → Act → World → Prop)
    (hI : OwnFrom w.heap.size I) (hIx : ∀ c, OwnFrom w.heap.size (Ix c)) (hAx : ∀ x W0 a', OwnFrom w.heap.size (fun (_ : Unit) W => Ax x W0 a' W))
    (hKr : ∀ (W0 W : World) (l : Nat) (o o' : Obj), w.heap.size ≤ l → W.heap[l]? = some o → o.isCells = false → Kr W0 W → Kr W0 (W.putObj l o'))
    (h0 : I [] w)
    (hassign : ∀ (l : Nat) (pre : List α) (x : α) (W : World) (K : Act → World → Prop), I pre W → (∀ a' X, KeepsFrom w.heap.size W X → I pre X → Ax x W a' X → K a' X) →
      assign.wpIn (Fence.wide.inRound l) (n - 1 - 1) Try.prog (Exit.then K (fun _ _ _ => False)) { tmps := (ps.zip (encs x)).foldl (fun t (p, v) => t.setIfInBounds p v) a.tmps, defers := [] } W)
    (hbody : ∀ (l : Nat) (pre : List α) (x : α) (W0 : World) (a' : Act) (W : World), I pre W → Ax x W0 a' W → pre.length < N → body.wpIn (Fence.wide.inRound l) (n - 1 - 1) Try.prog (roundLeft w.heap.size Kr I Ix (pre ++ [x]) W0 W) a' W)
    (hdone : ∀ (D : Nat) (xs : List α) (W : World), w.heap.size ≤ D → S xs → I xs W → W.heap[D]? = some (.deferred (some [])) → Q .normal { a with defers := { target := .collected D, args := #[] } :: a.defers } W)
    (hstop : ∀ (D : Nat) (c : Code) (pre : List α) (W : World), w.heap.size ≤ D → Sp pre → Ix c pre W → W.heap[D]? = some (.deferred (some [])) → c.wpIn Fence.wide n Try.prog Q { a with defers := { target := .collected D, args := #[] } :: a.defers } W) :
    (Code.rangeFunc g ps assign body).wpIn Fence.wide n Try.prog Q a w := by
  refine wpIn_rangeFunc fun fn hfn => ?_
  -- the loop's record, by its state and the jump that waits
  let R : LoopState → Option Code → Loop := fun st j => { state := st, pending := j, fn := fn, tmps := a.tmps, params := ps, assign := assign, body := body, defers := w.heap.size }
  let D := w.heap.size
  let l := w.heap.size + 1
  obtain ⟨X, hX⟩ : ∃ X, X = (w.alloc (.deferred (some []))).alloc (.loop (R .ready none)) := ⟨_, rfl⟩
  have xl : X.heap[l]? = some (.loop (R .ready none)) := by
    rw [hX]
    have := World.alloc_heap_new (w.alloc (.deferred (some []))) (.loop (R .ready none))
    rwa [World.size_alloc] at this
  have xd : X.heap[D]? = some (.deferred (some [])) := by
    rw [hX]
    exact (Below.heap_alloc _ _ _ (by simp [D])).trans (World.alloc_heap_new w _)
  have xi : I [] X := by rw [hX]; exact hI.alloc _ (hI.alloc _ h0)
  have xb : Below w.heap.size w X := by rw [hX]; exact ((Below.refl _ w).alloc (Nat.le_refl _) _).alloc (by simp) _
  have xs : X.heap.size = w.heap.size + 2 := by rw [hX]; simp
  -- the two blocks of the loop's own stand where what is no cells stands
  have other : ∀ {A A' : World} {row : Option Nat}, A.grownBy A' row → (∀ r, row = some r → X.heap.size ≤ r ∧ ∃ o : Obj, A.heap[r]? = some o ∧ o.isWalk = true) → ∀ {k : Nat} {o : Obj}, k < X.heap.size → A.heap[k]? = some o → A'.heap[k]? = some o :=
    @fun A A' row hgr hr k o hk ho => (hgr.block k (Array.getElem?_eq_some_iff.1 ho).1 (fun e => by have := (hr k e.symm).1; omega)).trans ho
  have walks : ∀ {A : World} {row : Option Nat}, (∀ r, row = some r → X.heap.size ≤ r ∧ ∃ o : Obj, A.heap[r]? = some o ∧ o.isWalk = true) → ∀ r, row = some r → w.heap.size ≤ r ∧ ∃ o : Obj, A.heap[r]? = some o ∧ o.isCells = false :=
    fun hr r e => by
      obtain ⟨h1, o, h2, h3⟩ := hr r e
      exact ⟨by omega, o, h2, Obj.not_cells_of_walk h3⟩
  refine ⟨l, [{ target := .collected D, args := #[] }], X, { target := .fn (.func gf) lb, args := #[.func (.yield l) #[] #[]] }, X, gf, #[.func (.yield l) #[] #[]] ++ lb, X, ?_, ?_, fun _ _ => trivial, ?_, (fun h => by cases h), ?_⟩
  · rw [hX]
    exact run_enterLoop_outer fn a.tmps ps assign body
  · simp only [resolve, hg]
    simp [go_sem]
  · simp [invoke, go_sem, eg]
  · have hround : ∀ (pre : List α) (x : α) (W : World), (I pre W ∧ W.heap[l]? = some (.loop (R .ready none)) ∧ W.heap[D]? = some (.deferred (some []))) → pre.length < N →
        YieldAt Fence.wide (n - 1 - 1) Try.prog l (encs x) W fun e Z =>
          (e = .returned (.bool true) ∧ (I (pre ++ [x]) Z ∧ Z.heap[l]? = some (.loop (R .ready none)) ∧ Z.heap[D]? = some (.deferred (some []))) ∧ Kr W Z) ∨
          (e = .returned (.bool false) ∧ ∃ c, Ix c (pre ++ [x]) Z ∧ Z.heap[l]? = some (.loop (R .done (some c))) ∧ Z.heap[D]? = some (.deferred (some []))) := by
      rintro pre x W ⟨hi, hl, hd⟩ hlen
      refine ⟨fn, _, assign, body, run_yield (P := Try.prog) (args := encs x) hl (hps x), roundIn_of_wpIn hfn (hassign l pre x W _ hi fun a' Y ky iy ay => ?_)⟩
      have yl := ky.same l _ (by simp [l]) hl rfl
      have yd := ky.same D _ (Nat.le_refl _) hd rfl
      have hlt : l < Y.heap.size := (Array.getElem?_eq_some_iff.1 yl).1
      refine ⟨_, run_beginRound yl rfl, ?_⟩
      obtain ⟨Z, hZ⟩ : ∃ Z, Z = Y.putObj l (.loop { R .ready none with state := .busy }) := ⟨_, rfl⟩
      have zl : Z.heap[l]? = some (.loop { R .ready none with state := .busy }) := by rw [hZ]; exact World.putObj_heap_same hlt
      have zd : Z.heap[D]? = some (.deferred (some [])) := by rw [hZ]; exact (World.putObj_heap_other (show D ≠ l by simp [D, l])).trans yd
      have zi : I pre Z := by rw [hZ]; exact hI.putObj _ iy (by simp [l]) yl rfl
      have za : Ax x W a' Z := by rw [hZ]; exact (hAx x W a').putObj (s := ()) _ ay (by simp [l]) yl rfl
      rw [← hZ]
      refine wpIn_mono (hbody l pre x W a' Z zi za hlen) fun e a3 T hT => ?_
      -- a round that goes on, and one that does not
      have goes : KeepsFrom w.heap.size Z T → ∀ j, (Instr.endRound l j).run Try.prog T = .ok (.bool j.isNone) (T.putObj l (.loop (R (if j.isNone then .ready else .done) j))) ∧ T.heap[l]? = some (.loop { R .ready none with state := .busy }) ∧
          (T.putObj l (.loop (R (if j.isNone then .ready else .done) j))).heap[l]? = some (.loop (R (if j.isNone then .ready else .done) j)) ∧ (T.putObj l (.loop (R (if j.isNone then .ready else .done) j))).heap[D]? = some (.deferred (some [])) := fun kt j => by
        have tl := kt.same l _ (by simp [l]) zl rfl
        have td := kt.same D _ (Nat.le_refl _) zd rfl
        exact ⟨run_endRound (P := Try.prog) j tl, tl, World.putObj_heap_same (Array.getElem?_eq_some_iff.1 tl).1, (World.putObj_heap_other (show D ≠ l by simp [D, l])).trans td⟩
      have leaves : ∀ c, KeepsFrom w.heap.size Z T → Ix c (pre ++ [x]) T → ∃ v Z', (Instr.endRound l (some c)).run Try.prog T = .ok v Z' ∧ ((Ending.returned v = .returned (.bool true) ∧ (I (pre ++ [x]) Z' ∧ Z'.heap[l]? = some (.loop (R .ready none)) ∧ Z'.heap[D]? = some (.deferred (some []))) ∧ Kr W Z') ∨
          (Ending.returned v = .returned (.bool false) ∧ ∃ c, Ix c (pre ++ [x]) Z' ∧ Z'.heap[l]? = some (.loop (R .done (some c))) ∧ Z'.heap[D]? = some (.deferred (some [])))) := fun c kt ix => by
        obtain ⟨r1, r2, r3, r4⟩ := goes kt (some c)
        exact ⟨_, _, r1, .inr ⟨rfl, c, (hIx c).putObj _ ix (by simp [l]) r2 rfl, r3, r4⟩⟩
      cases e with
      | normal =>
        obtain ⟨⟨kt, kr⟩, it⟩ := hT
        obtain ⟨r1, r2, r3, r4⟩ := goes kt none
        exact ⟨_, _, r1, .inl ⟨rfl, ⟨hI.putObj _ it (by simp [l]) r2 rfl, r3, r4⟩, hKr W T l _ _ (by simp [l]) r2 rfl kr⟩⟩
      | ret => exact leaves _ hT.1 hT.2
      | exit i => exact leaves _ hT.1 hT.2
      | goto t => exact leaves _ hT.1 hT.2
      | panic c => exact hT.elim
      | outgrown => exact hT.elim
    refine (hseq l (fun pre W => I pre W ∧ W.heap[l]? = some (.loop (R .ready none)) ∧ W.heap[D]? = some (.deferred (some []))) (fun pre W => ∃ c, Ix c pre W ∧ W.heap[l]? = some (.loop (R .done (some c))) ∧ W.heap[D]? = some (.deferred (some []))) X xb ?_ ?_ hround ⟨xi, xl, xd⟩).mono ?_
    · rintro s A A' row ⟨h1, h2, h3⟩ hgr hr
      exact ⟨hI s A A' row h1 hgr (walks hr), other hgr hr (by rw [xs]; simp [l]) h2, other hgr hr (by rw [xs]; simp [D]) h3⟩
    · rintro s A A' row ⟨c, h1, h2, h3⟩ hgr hr
      exact ⟨c, hIx c s A A' row h1 hgr (walks hr), other hgr hr (by rw [xs]; simp [l]) h2, other hgr hr (by rw [xs]; simp [D]) h3⟩
    · rintro e Z ⟨⟨v, rfl⟩, (⟨ys, hS, h1, h2, h3⟩ | ⟨pre, hS, c, h1, h2, h3⟩)⟩
      · exact ⟨none, _, run_endLoop (P := Try.prog) h2 (by simp [R]), hdone D ys _ (Nat.le_refl _) hS (hI.putObj _ h1 (by simp [l]) h2 rfl) ((World.putObj_heap_other (show D ≠ l by simp [D, l])).trans h3)⟩
      · exact ⟨some c, _, run_endLoop (P := Try.prog) h2 (by simp [R]), hstop D c pre _ (Nat.le_refl _) hS ((hIx c).putObj _ h1 (by simp [l]) h2 rfl) ((World.putObj_heap_other (show D ≠ l by simp [D, l])).trans h3)⟩
end
end Go.Proofs.Ytmnmciajldoabaa
