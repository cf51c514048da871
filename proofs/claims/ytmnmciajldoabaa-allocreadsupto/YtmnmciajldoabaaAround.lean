/-
  DERIVED. One round of Take, by worlds.
-/
import Derived.Test.YtmnmciajldoabaaAapp
namespace Go.Proofs.Ytmnmciajldoabaa
open Go.RowKit Go.Shelf
set_option linter.unusedVariables false

theorem RBox.set {W : World} {Bx : Nat} {x : Nat × Nat} (h : RBox W Bx x) (k : Nat) : RBox (W.setCell ⟨Bx, 1, none⟩ (.int .i64 (k : Int))) Bx (x.1, k) := by
  unfold RBox
  rw [heap_setCell_same W Bx 1 _ _ _ h]
  rfl

theorem Kp.turn {w0 tb : Nat} {W0 : World} {N : Nat} (htb : tb < N) (W : World) (l : Nat) (o o' : Obj) (hl : N ≤ l) (h : W.heap[l]? = some o) (hc : o.isCells = false) (hk : Kp w0 tb W0 W) : Kp w0 tb W0 (W.putObj l o') := by
  have hg := grownBy_putObj' W l o'
  refine hk.trans ⟨hg.size, fun j C t fr _ hj _ => hg.block j (lt_of_block hj) (fun e => ?_), fun j ha => .inl ((arr_of_cell (World.cell?_of_block ?_)).1 ha)⟩
  · cases e
    rw [hj] at h
    cases h
    cases hc
  · exact World.putObj_heap_other (show tb ≠ l by omega)

/-- Two boxes of other types are two. -/
theorem box_ne {X : World} {i j : Nat} {t s : TypeId} {C D : Array Value} {fr gr : Nat × Nat} (hi : X.heap[i]? = some (.cells C t fr)) (hj : X.heap[j]? = some (.cells D s gr)) (h : t ≠ s) : i ≠ j := by
  rintro rfl
  rw [hi] at hj
  cases hj
  exact h rfl

/-- What a round of Take has at its beginning: W0 is where yield was called, W where the body begins; r lies at W0's end. -/
structure TRd (w : World) (b B n mb nb tb : Nat) (U V : Nat → Bool) (xs : List (Nat × Nat)) (y : Nat × Nat) (v : Value) (W0 W : World) : Prop where
  st : TSt w b B n mb nb tb U V xs W
  box : RBox W W0.heap.size y
  kc : ∀ (j : Nat) (C : Array Value) (t : TypeId) (fr : Nat × Nat), W0.heap[j]? = some (Obj.cells C t fr) → W.heap[j]? = W0.heap[j]?
  tv0 : Boxed W0 tb 28 v
  wt : w.heap.size ≤ tb
  wn : w.heap.size ≤ nb
  nt : nb ≤ tb
  tv : Boxed W tb 28 v
  to : ROwn W w.heap.size v (cut n xs)
  low : ∀ g, v.ownBlock = some g → g < W0.heap.size
  tlt : tb < W0.heap.size
  lt : total xs < n
  yin : 1 ≤ y.2 ∧ y.1 + y.2 ≤ 512
  cnt : xs.length ≤ 511
  sml : n ≤ 512
  bw : b < w.heap.size

/-- Where all is taken a further run changes nothing. -/
theorem TSt.stay {w : World} {b B n mb nb tb : Nat} {U V : Nat → Bool} {xs : List (Nat × Nat)} {W : World} (h : TSt w b B n mb nb tb U V xs W) (hn : n ≤ total xs) (y : Nat × Nat) : TSt w b B n mb nb tb U V (xs ++ [y]) W := by
  have e : cut n (xs ++ [y]) = cut n xs := cut_full xs [y] n hn
  have e2 : n - total (xs ++ [y]) = n - total xs := by rw [total_append]; omega
  exact ⟨by rw [e]; exact h.map, by rw [e2]; exact h.num, h.ptr, by rw [e]; exact h.got, h.grown, h.size⟩

section
variable {w : World} {b B n mb nb tb : Nat} {U V : Nat → Bool} {xs : List (Nat × Nat)} {y : Nat × Nat} {v : Value} {W0 W : World}

/-- The run that is taken. -/
def tz (n : Nat) (xs : List (Nat × Nat)) (y : Nat × Nat) : Nat × Nat := (y.1, min y.2 (n - total xs))
theorem tz_in (h : TRd w b B n mb nb tb U V xs y v W0 W) : (tz n xs y).1 + (tz n xs y).2 ≤ 512 ∧ 1 ≤ (tz n xs y).2 := by
  have h1 := h.yin
  have h2 := h.lt
  simp only [tz]
  omega
theorem tz_cut (h : TRd w b B n mb nb tb U V xs y v W0 W) : cut n (xs ++ [y]) = cut n xs ++ [tz n xs y] := cut_snoc xs y n h.lt
theorem cut_len (xs : List (Nat × Nat)) : ∀ n, (cut n xs).length ≤ xs.length := by
  induction xs with
  | nil => intro n; simp [cut]
  | cons x xs ih =>
    intro n
    simp only [cut]
    split
    · simp
    · have := ih (n - min x.2 n)
      simp
      omega

/-- Behind use. -/
structure TUse (b B n : Nat) (U V : Nat → Bool) (xs : List (Nat × Nat)) (y : Nat × Nat) (W0 W Wu : World) : Prop where
  map : MapAt Wu b B (mark (marks U (cut n xs)) (tz n xs y)) V
  grown : (W.setCell ⟨W0.heap.size, 1, none⟩ (.int .i64 ((tz n xs y).2 : Int))).grownBy Wu (some b)

theorem TRd.set (h : TRd w b B n mb nb tb U V xs y v W0 W) : MapAt (W.setCell ⟨W0.heap.size, 1, none⟩ (.int .i64 ((tz n xs y).2 : Int))) b B (marks U (cut n xs)) V := by
  refine h.st.map.of (Below.heap_setCell _ _ _ _ ?_)
  exact box_ne h.st.map.blk h.box (by decide)
theorem TUse.keep (h : TRd w b B n mb nb tb U V xs y v W0 W) {Wu : World} (hu : TUse b B n U V xs y W0 W Wu) {j : Nat} {C : Array Value} {t : TypeId} {fr : Nat × Nat} (hj : W.heap[j]? = some (.cells C t fr)) (hne : j ≠ W0.heap.size) (hb : j ≠ b) : Wu.heap[j]? = W.heap[j]? := by
  have e := Below.heap_setCell W ⟨W0.heap.size, 1, none⟩ (.int .i64 ((tz n xs y).2 : Int)) j hne
  rw [hu.grown.block j (by have := lt_of_block hj; simpa using this) (by simpa using hb), e]
theorem TRd.ne (h : TRd w b B n mb nb tb U V xs y v W0 W) {j : Nat} {C : Array Value} {t : TypeId} {fr : Nat × Nat} (hj : W.heap[j]? = some (.cells C t fr)) (ht : t ≠ 36) : j ≠ W0.heap.size := by
  rintro rfl
  have := hj.symm.trans h.box
  cases this
  exact ht rfl
theorem TRd.nm (h : TRd w b B n mb nb tb U V xs y v W0 W) {j : Nat} {C : Array Value} {t : TypeId} {fr : Nat × Nat} (hj : W.heap[j]? = some (.cells C t fr)) (ht : t ≠ 52) : j ≠ b := by
  rintro rfl
  have := hj.symm.trans h.st.map.blk
  cases this
  exact ht rfl
theorem TUse.box (h : TRd w b B n mb nb tb U V xs y v W0 W) {Wu : World} (hu : TUse b B n U V xs y W0 W Wu) : RBox Wu W0.heap.size (tz n xs y) := by
  have hs := h.box.set (tz n xs y).2
  refine (hu.grown.block _ (lt_of_block hs) ?_).trans hs
  intro e
  exact h.nm h.box (by decide) (by simpa using e)
theorem TUse.num (h : TRd w b B n mb nb tb U V xs y v W0 W) {Wu : World} (hu : TUse b B n U V xs y W0 W Wu) : Boxed Wu nb 3 (.int .i64 ((n - total xs : Nat) : Int)) := (hu.keep h h.st.num (h.ne h.st.num (by decide)) (h.nm h.st.num (by decide))).trans h.st.num
theorem TUse.ptr (h : TRd w b B n mb nb tb U V xs y v W0 W) {Wu : World} (hu : TUse b B n U V xs y W0 W Wu) : Boxed Wu mb 24 (.pointer (some ⟨b, 0, none⟩)) := (hu.keep h h.st.ptr (h.ne h.st.ptr (by decide)) (h.nm h.st.ptr (by decide))).trans h.st.ptr
theorem TUse.tv (h : TRd w b B n mb nb tb U V xs y v W0 W) {Wu : World} (hu : TUse b B n U V xs y W0 W Wu) : Boxed Wu tb 28 v := (hu.keep h h.tv (h.ne h.tv (by decide)) (h.nm h.tv (by decide))).trans h.tv
theorem TUse.to (h : TRd w b B n mb nb tb U V xs y v W0 W) {Wu : World} (hu : TUse b B n U V xs y W0 W Wu) : ROwn Wu w.heap.size v (cut n xs) := by
  obtain ⟨h1, h2⟩ := h.to
  refine ⟨h1, ?_⟩
  rcases h2 with h2 | ⟨g, cap, cur, rfl, hb, hg, r⟩
  · exact .inl h2
  · refine .inr ⟨g, cap, cur, rfl, hb, (hu.keep h hg ?_ (h.nm hg (by decide))).trans hg, r⟩
    have := h.low g rfl
    omega
theorem TUse.size (h : TRd w b B n mb nb tb U V xs y v W0 W) {Wu : World} (hu : TUse b B n U V xs y W0 W Wu) : W0.heap.size < Wu.heap.size := lt_of_block (hu.box h)

/-- Behind append. -/
structure TApp (w : World) (n : Nat) (xs : List (Nat × Nat)) (y : Nat × Nat) (v v' : Value) (Wu X : World) : Prop where
  to : ROwn X w.heap.size v' (cut n xs ++ [tz n xs y])
  grown : (Wu.alloc (.cells #[.int .i64 ((tz n xs y).1 : Int), .int .i64 ((tz n xs y).2 : Int)] 36)).grownBy X v.ownBlock
  blk : v'.ownBlock = v.ownBlock ∨ ∃ g, v'.ownBlock = some g ∧ Wu.heap.size ≤ g

theorem TApp.keep (h : TRd w b B n mb nb tb U V xs y v W0 W) {Wu X : World} {v' : Value} (hu : TUse b B n U V xs y W0 W Wu) (ha : TApp w n xs y v v' Wu X) {j : Nat} (hj : j < Wu.heap.size) (hne : v.ownBlock ≠ some j) : X.heap[j]? = Wu.heap[j]? :=
  (ha.grown.block j (by simp; omega) (fun e => hne e.symm)).trans (Below.heap_alloc _ _ _ hj)
theorem TApp.keepT (h : TRd w b B n mb nb tb U V xs y v W0 W) {Wu X : World} {v' : Value} (hu : TUse b B n U V xs y W0 W Wu) (ha : TApp w n xs y v v' Wu X) {j : Nat} {C : Array Value} {t : TypeId} {fr : Nat × Nat} (hj : Wu.heap[j]? = some (.cells C t fr)) (ht : t ≠ 36) : X.heap[j]? = Wu.heap[j]? :=
  ha.keep h hu (lt_of_block hj) (fun e => (hu.to h).ne e hj ht rfl)
theorem TApp.num (h : TRd w b B n mb nb tb U V xs y v W0 W) {Wu X : World} {v' : Value} (hu : TUse b B n U V xs y W0 W Wu) (ha : TApp w n xs y v v' Wu X) : Boxed X nb 3 (.int .i64 ((n - total xs : Nat) : Int)) := (ha.keepT h hu (hu.num h) (by decide)).trans (hu.num h)
theorem TApp.tv (h : TRd w b B n mb nb tb U V xs y v W0 W) {Wu X : World} {v' : Value} (hu : TUse b B n U V xs y W0 W Wu) (ha : TApp w n xs y v v' Wu X) : Boxed X tb 28 v := (ha.keepT h hu (hu.tv h) (by decide)).trans (hu.tv h)
theorem TApp.box (h : TRd w b B n mb nb tb U V xs y v W0 W) {Wu X : World} {v' : Value} (hu : TUse b B n U V xs y W0 W Wu) (ha : TApp w n xs y v v' Wu X) : RBox X W0.heap.size (tz n xs y) := (ha.keep h hu (hu.size h) (fun e => by have := h.low _ e; omega)).trans (hu.box h)

theorem take_round (h : TRd w b B n mb nb tb U V xs y v W0 W) {Wu X : World} {v' : Value} (hu : TUse b B n U V xs y W0 W Wu) (ha : TApp w n xs y v v' Wu X) (N : Nat) (hN : tb < N) :
    TSt w b B n mb nb tb U V (xs ++ [y]) ((X.setCell ⟨tb, 0, none⟩ v').setCell ⟨nb, 0, none⟩ (.int .i64 ((n - total xs : Nat) - ((tz n xs y).2 : Int)))) ∧
      KeepsFrom N W ((X.setCell ⟨tb, 0, none⟩ v').setCell ⟨nb, 0, none⟩ (.int .i64 ((n - total xs : Nat) - ((tz n xs y).2 : Int)))) ∧ Kp (tb + 1) tb W0 ((X.setCell ⟨tb, 0, none⟩ v').setCell ⟨nb, 0, none⟩ (.int .i64 ((n - total xs : Nat) - ((tz n xs y).2 : Int)))) := by
  have hz := tz_in h
  have hnt := box_ne (ha.num h hu) (ha.tv h hu) (by decide)
  have hmap1 : MapAt X b B (mark (marks U (cut n xs)) (tz n xs y)) V := hu.map.of (ha.keepT h hu hu.map.blk (by decide))
  have hptr1 : Boxed X mb 24 (.pointer (some ⟨b, 0, none⟩)) := (ha.keepT h hu (hu.ptr h) (by decide)).trans (hu.ptr h)
  have hbt := box_ne hmap1.blk (ha.tv h hu) (by decide)
  have hbn := box_ne hmap1.blk (ha.num h hu) (by decide)
  have hmt := box_ne hptr1 (ha.tv h hu) (by decide)
  have hmn := box_ne hptr1 (ha.num h hu) (by decide)
  have hrem : ((n - total xs : Nat) : Int) - ((tz n xs y).2 : Int) = ((n - total (xs ++ [y]) : Nat) : Int) := by
    have := h.lt
    rw [total_append]
    simp only [tz, total, List.map_cons, List.map_nil, List.sum_cons, List.sum_nil] at *
    omega
  rw [hrem]
  have far : ∀ q, q ≠ tb → q ≠ nb → ((X.setCell ⟨tb, 0, none⟩ v').setCell ⟨nb, 0, none⟩ (.int .i64 ((n - total (xs ++ [y]) : Nat) : Int))).heap[q]? = X.heap[q]? := fun q h1 h2 => by
    rw [Below.heap_setCell _ _ _ _ h2, Below.heap_setCell _ _ _ _ h1]
  have tb1 : Boxed ((X.setCell ⟨tb, 0, none⟩ v').setCell ⟨nb, 0, none⟩ (.int .i64 ((n - total (xs ++ [y]) : Nat) : Int))) tb 28 v' := (Below.heap_setCell _ _ _ _ (fun e => hnt e.symm)).trans ((ha.tv h hu).set v')
  have w0 : w.heap.size ≤ W0.heap.size := by have := h.tlt; have := h.wt; omega
  have all : ∀ k, k < W.heap.size → k ≠ W0.heap.size → k ≠ b → v.ownBlock ≠ some k → k ≠ tb → k ≠ nb → ((X.setCell ⟨tb, 0, none⟩ v').setCell ⟨nb, 0, none⟩ (.int .i64 ((n - total (xs ++ [y]) : Nat) : Int))).heap[k]? = W.heap[k]? := fun k hk h1 h2 h3 h4 h5 => by
    have hs : k < Wu.heap.size := by have := hu.grown.size; simp at this; omega
    rw [far k h4 h5, ha.keep h hu hs h3, hu.grown.block k (by simpa using hk) (by simpa using h2)]
    exact Below.heap_setCell W ⟨W0.heap.size, 1, none⟩ _ k h1
  have sizes : W.heap.size ≤ Wu.heap.size ∧ Wu.heap.size < X.heap.size := ⟨by have := hu.grown.size; simpa using this, by have := ha.grown.size; simp at this; omega⟩
  have hW0 : W0.heap.size < W.heap.size := h.box.lt
  have vrow : ∀ q, v'.ownBlock = some q → q ≠ tb ∧ q ≠ nb := fun q hq => ⟨ha.to.ne hq (ha.tv h hu) (by decide), ha.to.ne hq (ha.num h hu) (by decide)⟩
  refine ⟨⟨?_, ?_, ?_, ⟨v', tb1, ?_⟩, ?_, ?_⟩, ?_, ?_⟩
  · rw [tz_cut h, marks_snoc]
    exact hmap1.of (far b hbt hbn)
  · exact Boxed.set _ ((ha.num h hu).other (fun e => hnt e) v')
  · exact (far mb hmt hmn).trans hptr1
  · rw [tz_cut h]
    obtain ⟨h1, h2⟩ := ha.to
    refine ⟨h1, ?_⟩
    rcases h2 with h2 | ⟨g, cap, cur, rfl, hb, hg, r⟩
    · exact .inl h2
    · exact .inr ⟨g, cap, cur, rfl, hb, (far g (vrow g rfl).1 (vrow g rfl).2).trans hg, r⟩
  · -- what lay ahead of Take
    have hw : w.heap.size ≤ W.heap.size := h.st.grown.size
    refine ⟨?_, ?_, ?_, by simp; omega, fun k hk hkb => ?_⟩
    · exact ha.grown.os.trans (hu.grown.os.trans h.st.grown.os)
    · exact ha.grown.tape.trans (hu.grown.tape.trans h.st.grown.tape)
    · exact ha.grown.output.trans (hu.grown.output.trans h.st.grown.output)
    · have hkb' : k ≠ b := by simpa using hkb
      have := h.wt
      have := h.wn
      rw [all k (by omega) (by omega) hkb' (fun e => by have := (h.to.row e).1; omega) (by omega) (by omega)]
      exact h.st.grown.block k hk hkb
  · simp
    have := h.tlt
    omega
  · refine ⟨by simp; omega, fun k o hk ho hc => ?_⟩
    have nc : ∀ {q : Nat} {C : Array Value} {t : TypeId} {fr : Nat × Nat}, W.heap[q]? = some (Obj.cells C t fr) → k ≠ q := @fun q C t fr hq e => by
      rw [e, hq] at ho
      cases ho
      cases hc
    rw [all k (Array.getElem?_eq_some_iff.1 ho).1 (nc h.box) (nc h.st.map.blk) (fun e => by obtain ⟨_, cur, hq⟩ := h.to.row e; exact nc hq rfl) (nc h.tv) (nc h.st.num)]
    exact ho
  · have isv : ∀ {j : Nat} {u : Value} {A : World} {ys : List (Nat × Nat)}, ROwn A w.heap.size u ys → u.ownBlock = some j → ∃ len cap, u = .slice (some ⟨j, 0, none⟩) len cap := @fun j u A ys hu2 hj => by
      rcases hu2.2 with ⟨rfl, _⟩ | ⟨g, cap, cur, rfl, _⟩
      · cases hj
      · cases hj; exact ⟨_, _, rfl⟩
    have toArr : ∀ j, v.ownBlock = some j → arr tb W0 j := fun j hj => by
      obtain ⟨len, cap, e⟩ := isv h.to hj
      exact ⟨len, cap, by rw [h.tv0.cell, e]⟩
    refine ⟨by simp; omega, fun j C t fr hj hc hna => ?_, fun j hj => ?_⟩
    · have hl := lt_of_block hc
      have := h.wt
      have := h.nt
      have := h.bw
      rw [all j (by omega) (by omega) (by omega) (fun e => hna (toArr j e)) (by omega) (by omega)]
      exact h.kc j C t fr hc
    · obtain ⟨len, cap, e⟩ := hj
      rw [tb1.cell] at e
      cases e
      rcases ha.blk with hb | ⟨g, hb, hg⟩
      · exact .inl (toArr j hb.symm)
      · have hgj : j = g := by simpa [Value.ownBlock] using hb
        subst hgj
        have s1 := sizes.1
        refine .inr ⟨by omega, ?_⟩
        obtain ⟨_, cur, hq⟩ := ha.to.row rfl
        have := lt_of_block hq
        simpa using this
end
end Go.Proofs.Ytmnmciajldoabaa
