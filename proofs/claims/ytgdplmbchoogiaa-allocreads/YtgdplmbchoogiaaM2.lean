/-
  DERIVED. One round of Take, by worlds.
-/
import Derived.Test.YtgdplmbchoogiaaM1
import Derived.Deep.RegionLaw
import Derived.BigQuiet
import Derived.Maps.AppendAt
import Derived.Maps.Range
namespace Go.Proofs.Ytgdplmbchoogiaa
open Go.RowKit Go.Shelf
set_option linter.unusedVariables false

theorem RBox.set {W : World} {Bx : Nat} {x : Nat × Nat} (h : RBox W Bx x) (k : Nat) : RBox (W.setCell ⟨Bx, 1, none⟩ (.int .i64 (k : Int))) Bx (x.1, k) := by
  unfold RBox
  rw [heap_setCell_same W Bx 1 _ _ _ h]
  rfl

theorem Kp.turn {w0 tb : Nat} {W0 : World} {N : Nat} (htb : tb < N) (W : World) (l : Nat) (o o' : Obj) (hl : N ≤ l) (h : W.heap[l]? = some o) (hc : o.isCells = false) (hk : Kp w0 tb W0 W) : Kp w0 tb W0 (W.putObj l o') := by
  have hg := grownBy_putObj' W l o'
  refine hk.trans ⟨hg.size, fun j C t fr _ hj _ => hg.block j (lt_of_block hj) (fun e => ?_), fun j ha => .inl ((arr_of_cell (World.cell?_of_block ?_)).1 ha)⟩
  · cases e
    rw [hj] at h
    cases h
    cases hc
  · exact World.putObj_heap_other (show tb ≠ l by omega)

/-- Two boxes of other types are two. -/
theorem box_ne {X : World} {i j : Nat} {t s : TypeId} {C D : Array Value} {fr gr : Nat × Nat} (hi : X.heap[i]? = some (.cells C t fr)) (hj : X.heap[j]? = some (.cells D s gr)) (h : t ≠ s) : i ≠ j := by
  rintro rfl
  rw [hi] at hj
  cases hj
  exact h rfl

/-- What a round of Take has at its beginning: W0 is where yield was called, W where the body begins; r lies at W0's end. -/
structure TRd (w : World) (b B n mb nb tb : Nat) (U V : Nat → Bool) (xs : List (Nat × Nat)) (y : Nat × Nat) (v : Value) (W0 W : World) : Prop where
  st : TSt w b B n mb nb tb U V xs W
  box : RBox W W0.heap.size y
  kc : ∀ (j : Nat) (C : Array Value) (t : TypeId) (fr : Nat × Nat), W0.heap[j]? = some (Obj.cells C t fr) → W.heap[j]? = W0.heap[j]?
  tv0 : Boxed W0 tb 28 v
  wt : w.heap.size ≤ tb
  wn : w.heap.size ≤ nb
  nt : nb ≤ tb
  tv : Boxed W tb 28 v
  to : ROwn W w.heap.size v (cut n xs)
  low : ∀ g, v.ownBlock = some g → g < W0.heap.size
  tlt : tb < W0.heap.size
  lt : total xs < n
  yin : 1 ≤ y.2 ∧ y.1 + y.2 ≤ 512
  cnt : xs.length ≤ 511
  sml : n ≤ 512
  bw : b < w.heap.size

/-- Where all is taken a further run changes nothing. -/
theorem TSt.stay {w : World} {b B n mb nb tb : Nat} {U V : Nat → Bool} {xs : List (Nat × Nat)} {W : World} (h : TSt w b B n mb nb tb U V xs W) (hn : n ≤ total xs) (y : Nat × Nat) : TSt w b B n mb nb tb U V (xs ++ [y]) W := by
  have e : cut n (xs ++ [y]) = cut n xs := cut_full xs [y] n hn
  have e2 : n - total (xs ++ [y]) = n - total xs := by rw [total_append]; omega
  exact ⟨by rw [e]; exact h.map, by rw [e2]; exact h.num, h.ptr, by rw [e]; exact h.got, h.grown, h.size⟩

section
variable {w : World} {b B n mb nb tb : Nat} {U V : Nat → Bool} {xs : List (Nat × Nat)} {y : Nat × Nat} {v : Value} {W0 W : World}

/-- The run that is taken. -/
def tz (n : Nat) (xs : List (Nat × Nat)) (y : Nat × Nat) : Nat × Nat := (y.1, min y.2 (n - total xs))
theorem tz_in (h : TRd w b B n mb nb tb U V xs y v W0 W) : (tz n xs y).1 + (tz n xs y).2 ≤ 512 ∧ 1 ≤ (tz n xs y).2 := by
  have h1 := h.yin
  have h2 := h.lt
  simp only [tz]
  omega
theorem tz_cut (h : TRd w b B n mb nb tb U V xs y v W0 W) : cut n (xs ++ [y]) = cut n xs ++ [tz n xs y] := cut_snoc xs y n h.lt
theorem cut_len (xs : List (Nat × Nat)) : ∀ n, (cut n xs).length ≤ xs.length := by
  induction xs with
  | nil => intro n; simp [cut]
  | cons x xs ih =>
    intro n
    simp only [cut]
    split
    · simp
    · have := ih (n - min x.2 n)
      simp
      omega

/-- Behind use. -/
structure TUse (b B n : Nat) (U V : Nat → Bool) (xs : List (Nat × Nat)) (y : Nat × Nat) (W0 W Wu : World) : Prop where
  map : MapAt Wu b B (mark (marks U (cut n xs)) (tz n xs y)) V
  grown : (W.setCell ⟨W0.heap.size, 1, none⟩ (.int .i64 ((tz n xs y).2 : Int))).grownBy Wu (some b)

theorem TRd.set (h : TRd w b B n mb nb tb U V xs y v W0 W) : MapAt (W.setCell ⟨W0.heap.size, 1, none⟩ (.int .i64 ((tz n xs y).2 : Int))) b B (marks U (cut n xs)) V := by
  refine h.st.map.of (Below.heap_setCell _ _ _ _ ?_)
  exact box_ne h.st.map.blk h.box (by decide)
theorem TUse.keep (h : TRd w b B n mb nb tb U V xs y v W0 W) {Wu : World} (hu : TUse b B n U V xs y W0 W Wu) {j : Nat} {C : Array Value} {t : TypeId} {fr : Nat × Nat} (hj : W.heap[j]? = some (.cells C t fr)) (hne : j ≠ W0.heap.size) (hb : j ≠ b) : Wu.heap[j]? = W.heap[j]? := by
  have e := Below.heap_setCell W ⟨W0.heap.size, 1, none⟩ (.int .i64 ((tz n xs y).2 : Int)) j hne
  rw [hu.grown.block j (by have := lt_of_block hj; simpa using this) (by simpa using hb), e]
theorem TRd.ne (h : TRd w b B n mb nb tb U V xs y v W0 W) {j : Nat} {C : Array Value} {t : TypeId} {fr : Nat × Nat} (hj : W.heap[j]? = some (.cells C t fr)) (ht : t ≠ 36) : j ≠ W0.heap.size := by
  rintro rfl
  have := hj.symm.trans h.box
  cases this
  exact ht rfl
theorem TRd.nm (h : TRd w b B n mb nb tb U V xs y v W0 W) {j : Nat} {C : Array Value} {t : TypeId} {fr : Nat × Nat} (hj : W.heap[j]? = some (.cells C t fr)) (ht : t ≠ 52) : j ≠ b := by
  rintro rfl
  have := hj.symm.trans h.st.map.blk
  cases this
  exact ht rfl
theorem TUse.box (h : TRd w b B n mb nb tb U V xs y v W0 W) {Wu : World} (hu : TUse b B n U V xs y W0 W Wu) : RBox Wu W0.heap.size (tz n xs y) := by
  have hs := h.box.set (tz n xs y).2
  refine (hu.grown.block _ (lt_of_block hs) ?_).trans hs
  intro e
  exact h.nm h.box (by decide) (by simpa using e)
theorem TUse.num (h : TRd w b B n mb nb tb U V xs y v W0 W) {Wu : World} (hu : TUse b B n U V xs y W0 W Wu) : Boxed Wu nb 3 (.int .i64 ((n - total xs : Nat) : Int)) := (hu.keep h h.st.num (h.ne h.st.num (by decide)) (h.nm h.st.num (by decide))).trans h.st.num
theorem TUse.ptr (h : TRd w b B n mb nb tb U V xs y v W0 W) {Wu : World} (hu : TUse b B n U V xs y W0 W Wu) : Boxed Wu mb 24 (.pointer (some ⟨b, 0, none⟩)) := (hu.keep h h.st.ptr (h.ne h.st.ptr (by decide)) (h.nm h.st.ptr (by decide))).trans h.st.ptr
theorem TUse.tv (h : TRd w b B n mb nb tb U V xs y v W0 W) {Wu : World} (hu : TUse b B n U V xs y W0 W Wu) : Boxed Wu tb 28 v := (hu.keep h h.tv (h.ne h.tv (by decide)) (h.nm h.tv (by decide))).trans h.tv
theorem TUse.to (h : TRd w b B n mb nb tb U V xs y v W0 W) {Wu : World} (hu : TUse b B n U V xs y W0 W Wu) : ROwn Wu w.heap.size v (cut n xs) := by
  obtain ⟨h1, h2⟩ := h.to
  refine ⟨h1, ?_⟩
  rcases h2 with h2 | ⟨g, cap, cur, rfl, hb, hg, r⟩
  · exact .inl h2
  · refine .inr ⟨g, cap, cur, rfl, hb, (hu.keep h hg ?_ (h.nm hg (by decide))).trans hg, r⟩
    have := h.low g rfl
    omega
theorem TUse.size (h : TRd w b B n mb nb tb U V xs y v W0 W) {Wu : World} (hu : TUse b B n U V xs y W0 W Wu) : W0.heap.size < Wu.heap.size := lt_of_block (hu.box h)

/-- Behind append. -/
structure TApp (w : World) (n : Nat) (xs : List (Nat × Nat)) (y : Nat × Nat) (v v' : Value) (Wu X : World) : Prop where
  to : ROwn X w.heap.size v' (cut n xs ++ [tz n xs y])
  grown : (Wu.alloc (.cells #[.int .i64 ((tz n xs y).1 : Int), .int .i64 ((tz n xs y).2 : Int)] 36)).grownBy X v.ownBlock
  blk : v'.ownBlock = v.ownBlock ∨ ∃ g, v'.ownBlock = some g ∧ Wu.heap.size ≤ g

theorem TApp.keep (h : TRd w b B n mb nb tb U V xs y v W0 W) {Wu X : World} {v' : Value} (hu : TUse b B n U V xs y W0 W Wu) (ha : TApp w n xs y v v' Wu X) {j : Nat} (hj : j < Wu.heap.size) (hne : v.ownBlock ≠ some j) : X.heap[j]? = Wu.heap[j]? :=
  (ha.grown.block j (by simp; omega) (fun e => hne e.symm)).trans (Below.heap_alloc _ _ _ hj)
theorem TApp.keepT (h : TRd w b B n mb nb tb U V xs y v W0 W) {Wu X : World} {v' : Value} (hu : TUse b B n U V xs y W0 W Wu) (ha : TApp w n xs y v v' Wu X) {j : Nat} {C : Array Value} {t : TypeId} {fr : Nat × Nat} (hj : Wu.heap[j]? = some (.cells C t fr)) (ht : t ≠ 36) : X.heap[j]? = Wu.heap[j]? :=
  ha.keep h hu (lt_of_block hj) (fun e => (hu.to h).ne e hj ht rfl)
theorem TApp.num (h : TRd w b B n mb nb tb U V xs y v W0 W) {Wu X : World} {v' : Value} (hu : TUse b B n U V xs y W0 W Wu) (ha : TApp w n xs y v v' Wu X) : Boxed X nb 3 (.int .i64 ((n - total xs : Nat) : Int)) := (ha.keepT h hu (hu.num h) (by decide)).trans (hu.num h)
theorem TApp.tv (h : TRd w b B n mb nb tb U V xs y v W0 W) {Wu X : World} {v' : Value} (hu : TUse b B n U V xs y W0 W Wu) (ha : TApp w n xs y v v' Wu X) : Boxed X tb 28 v := (ha.keepT h hu (hu.tv h) (by decide)).trans (hu.tv h)
theorem TApp.box (h : TRd w b B n mb nb tb U V xs y v W0 W) {Wu X : World} {v' : Value} (hu : TUse b B n U V xs y W0 W Wu) (ha : TApp w n xs y v v' Wu X) : RBox X W0.heap.size (tz n xs y) := (ha.keep h hu (hu.size h) (fun e => by have := h.low _ e; omega)).trans (hu.box h)

theorem take_round (h : TRd w b B n mb nb tb U V xs y v W0 W) {Wu X : World} {v' : Value} (hu : TUse b B n U V xs y W0 W Wu) (ha : TApp w n xs y v v' Wu X) (N : Nat) (hN : tb < N) :
    TSt w b B n mb nb tb U V (xs ++ [y]) ((X.setCell ⟨tb, 0, none⟩ v').setCell ⟨nb, 0, none⟩ (.int .i64 ((n - total xs : Nat) - ((tz n xs y).2 : Int)))) ∧
      KeepsFrom N W ((X.setCell ⟨tb, 0, none⟩ v').setCell ⟨nb, 0, none⟩ (.int .i64 ((n - total xs : Nat) - ((tz n xs y).2 : Int)))) ∧ Kp (tb + 1) tb W0 ((X.setCell ⟨tb, 0, none⟩ v').setCell ⟨nb, 0, none⟩ (.int .i64 ((n - total xs : Nat) - ((tz n xs y).2 : Int)))) := by
  have hz := tz_in h
  have hnt := box_ne (ha.num h hu) (ha.tv h hu) (by decide)
  have hmap1 : MapAt X b B (mark (marks U (cut n xs)) (tz n xs y)) V := hu.map.of (ha.keepT h hu hu.map.blk (by decide))
  have hptr1 : Boxed X mb 24 (.pointer (some ⟨b, 0, none⟩)) := (ha.keepT h hu (hu.ptr h) (by decide)).trans (hu.ptr h)
  have hbt := box_ne hmap1.blk (ha.tv h hu) (by decide)
  have hbn := box_ne hmap1.blk (ha.num h hu) (by decide)
  have hmt := box_ne hptr1 (ha.tv h hu) (by decide)
  have hmn := box_ne hptr1 (ha.num h hu) (by decide)
  have hrem : ((n - total xs : Nat) : Int) - ((tz n xs y).2 : Int) = ((n - total (xs ++ [y]) : Nat) : Int) := by
    have := h.lt
    rw [total_append]
    simp only [tz, total, List.map_cons, List.map_nil, List.sum_cons, List.sum_nil] at *
    omega
  rw [hrem]
  have far : ∀ q, q ≠ tb → q ≠ nb → ((X.setCell ⟨tb, 0, none⟩ v').setCell ⟨nb, 0, none⟩ (.int .i64 ((n - total (xs ++ [y]) : Nat) : Int))).heap[q]? = X.heap[q]? := fun q h1 h2 => by
    rw [Below.heap_setCell _ _ _ _ h2, Below.heap_setCell _ _ _ _ h1]
  have tb1 : Boxed ((X.setCell ⟨tb, 0, none⟩ v').setCell ⟨nb, 0, none⟩ (.int .i64 ((n - total (xs ++ [y]) : Nat) : Int))) tb 28 v' := (Below.heap_setCell _ _ _ _ (fun e => hnt e.symm)).trans ((ha.tv h hu).set v')
  have w0 : w.heap.size ≤ W0.heap.size := by have := h.tlt; have := h.wt; omega
  have all : ∀ k, k < W.heap.size → k ≠ W0.heap.size → k ≠ b → v.ownBlock ≠ some k → k ≠ tb → k ≠ nb → ((X.setCell ⟨tb, 0, none⟩ v').setCell ⟨nb, 0, none⟩ (.int .i64 ((n - total (xs ++ [y]) : Nat) : Int))).heap[k]? = W.heap[k]? := fun k hk h1 h2 h3 h4 h5 => by
    have hs : k < Wu.heap.size := by have := hu.grown.size; simp at this; omega
    rw [far k h4 h5, ha.keep h hu hs h3, hu.grown.block k (by simpa using hk) (by simpa using h2)]
    exact Below.heap_setCell W ⟨W0.heap.size, 1, none⟩ _ k h1
  have sizes : W.heap.size ≤ Wu.heap.size ∧ Wu.heap.size < X.heap.size := ⟨by have := hu.grown.size; simpa using this, by have := ha.grown.size; simp at this; omega⟩
  have hW0 : W0.heap.size < W.heap.size := h.box.lt
  have vrow : ∀ q, v'.ownBlock = some q → q ≠ tb ∧ q ≠ nb := fun q hq => ⟨ha.to.ne hq (ha.tv h hu) (by decide), ha.to.ne hq (ha.num h hu) (by decide)⟩
  refine ⟨⟨?_, ?_, ?_, ⟨v', tb1, ?_⟩, ?_, ?_⟩, ?_, ?_⟩
  · rw [tz_cut h, marks_snoc]
    exact hmap1.of (far b hbt hbn)
  · exact Boxed.set _ ((ha.num h hu).other (fun e => hnt e) v')
  · exact (far mb hmt hmn).trans hptr1
  · rw [tz_cut h]
    obtain ⟨h1, h2⟩ := ha.to
    refine ⟨h1, ?_⟩
    rcases h2 with h2 | ⟨g, cap, cur, rfl, hb, hg, r⟩
    · exact .inl h2
    · exact .inr ⟨g, cap, cur, rfl, hb, (far g (vrow g rfl).1 (vrow g rfl).2).trans hg, r⟩
  · -- what lay ahead of Take
    have hw : w.heap.size ≤ W.heap.size := h.st.grown.size
    refine ⟨?_, ?_, ?_, by simp; omega, fun k hk hkb => ?_⟩
    · exact ha.grown.os.trans (hu.grown.os.trans h.st.grown.os)
    · exact ha.grown.tape.trans (hu.grown.tape.trans h.st.grown.tape)
    · exact ha.grown.output.trans (hu.grown.output.trans h.st.grown.output)
    · have hkb' : k ≠ b := by simpa using hkb
      have := h.wt
      have := h.wn
      rw [all k (by omega) (by omega) hkb' (fun e => by have := (h.to.row e).1; omega) (by omega) (by omega)]
      exact h.st.grown.block k hk hkb
  · simp
    have := h.tlt
    omega
  · refine ⟨by simp; omega, fun k o hk ho hc => ?_⟩
    have nc : ∀ {q : Nat} {C : Array Value} {t : TypeId} {fr : Nat × Nat}, W.heap[q]? = some (Obj.cells C t fr) → k ≠ q := @fun q C t fr hq e => by
      rw [e, hq] at ho
      cases ho
      cases hc
    rw [all k (Array.getElem?_eq_some_iff.1 ho).1 (nc h.box) (nc h.st.map.blk) (fun e => by obtain ⟨_, cur, hq⟩ := h.to.row e; exact nc hq rfl) (nc h.tv) (nc h.st.num)]
    exact ho
  · have isv : ∀ {j : Nat} {u : Value} {A : World} {ys : List (Nat × Nat)}, ROwn A w.heap.size u ys → u.ownBlock = some j → ∃ len cap, u = .slice (some ⟨j, 0, none⟩) len cap := @fun j u A ys hu2 hj => by
      rcases hu2.2 with ⟨rfl, _⟩ | ⟨g, cap, cur, rfl, _⟩
      · cases hj
      · cases hj; exact ⟨_, _, rfl⟩
    have toArr : ∀ j, v.ownBlock = some j → arr tb W0 j := fun j hj => by
      obtain ⟨len, cap, e⟩ := isv h.to hj
      exact ⟨len, cap, by rw [h.tv0.cell, e]⟩
    refine ⟨by simp; omega, fun j C t fr hj hc hna => ?_, fun j hj => ?_⟩
    · have hl := lt_of_block hc
      have := h.wt
      have := h.nt
      have := h.bw
      rw [all j (by omega) (by omega) (by omega) (fun e => hna (toArr j e)) (by omega) (by omega)]
      exact h.kc j C t fr hc
    · obtain ⟨len, cap, e⟩ := hj
      rw [tb1.cell] at e
      cases e
      rcases ha.blk with hb | ⟨g, hb, hg⟩
      · exact .inl (toArr j hb.symm)
      · have hgj : j = g := by simpa [Value.ownBlock] using hb
        subst hgj
        have s1 := sizes.1
        refine .inr ⟨by omega, ?_⟩
        obtain ⟨_, cur, hq⟩ := ha.to.row rfl
        have := lt_of_block hq
        simpa using this
end
end Go.Proofs.Ytgdplmbchoogiaa

/-
  DERIVED. The law's listed: the runs that All gives, left behind so many.
-/
namespace Go.Proofs.Ytgdplmbchoogiaa
open Go.RowKit Go.Shelf
set_option linter.unusedVariables false
attribute [local go_sem] Oper.semAt_some

/-- Where listed stands: mb, tb the boxes of most and of the list. -/
structure LSt (w : World) (b B m mb tb : Nat) (U V : Nat → Bool) (xs : List (Nat × Nat)) (W : World) : Prop where
  map : MapAt W b B U V
  num : Boxed W mb 3 (.int .i64 (m : Int))
  got : ∃ v, Boxed W tb 28 v ∧ ROwn W w.heap.size v (xs.take m)
  grown : w.grownBy W none
  size : tb < W.heap.size
theorem LSt.own (w : World) (b B m mb tb : Nat) (U V : Nat → Bool) (N : Nat) (hN : w.heap.size ≤ N) : OwnFrom N (fun pre : List (Nat × Nat) => LSt w b B m mb tb U V (pre.map cl)) := fun s X Y row h hg hr => by
  have cells : ∀ {j : Nat} {C : Array Value} {t : TypeId} {fr : Nat × Nat}, X.heap[j]? = some (.cells C t fr) → Y.heap[j]? = X.heap[j]? := @fun j C t fr hj => hg.block j (lt_of_block hj) (fun e => by
    obtain ⟨_, o, ho, hc⟩ := hr j e.symm
    rw [hj] at ho
    cases ho
    cases hc)
  obtain ⟨v, hv1, hv2⟩ := h.got
  refine ⟨h.map.of (cells h.map.blk), (cells h.num).trans h.num, ⟨v, (cells hv1).trans hv1, hv2.kept hg fun q hq e => ?_⟩, h.grown.andThen hg (fun j e => .inl (by have := (hr j e).1; omega)), Nat.lt_of_lt_of_le h.size hg.size⟩
  obtain ⟨_, cur, hc⟩ := hv2.row hq
  obtain ⟨_, o, ho, hcc⟩ := hr q e.symm
  rw [hc] at ho
  cases ho
  cases hcc
/-- What a round has at its beginning. -/
structure LRd (w : World) (b B m mb tb : Nat) (U V : Nat → Bool) (xs : List (Nat × Nat)) (y : Nat × Nat) (v : Value) (W0 W : World) : Prop where
  st : LSt w b B m mb tb U V xs W
  box : RBox W W0.heap.size y
  kc : ∀ (j : Nat) (C : Array Value) (t : TypeId) (fr : Nat × Nat), W0.heap[j]? = some (Obj.cells C t fr) → W.heap[j]? = W0.heap[j]?
  tv0 : Boxed W0 tb 28 v
  wt : w.heap.size ≤ tb
  tv : Boxed W tb 28 v
  to : ROwn W w.heap.size v (xs.take m)
  low : ∀ g, v.ownBlock = some g → g < W0.heap.size
  tlt : tb < W0.heap.size
  lt : xs.length < m
theorem LSt.stay {w : World} {b B m mb tb : Nat} {U V : Nat → Bool} {xs : List (Nat × Nat)} {W : World} (h : LSt w b B m mb tb U V xs W) (hm : m ≤ xs.length) (y : Nat × Nat) : LSt w b B m mb tb U V (xs ++ [y]) W := by
  have e : (xs ++ [y]).take m = xs.take m := List.take_append_of_le_length hm
  exact ⟨h.map, h.num, by rw [e]; exact h.got, h.grown, h.size⟩
section
variable {w : World} {b B m mb tb : Nat} {U V : Nat → Bool} {xs : List (Nat × Nat)} {y : Nat × Nat} {v : Value} {W0 W : World}
/-- Behind append. -/
structure LApp (w : World) (m : Nat) (xs : List (Nat × Nat)) (y : Nat × Nat) (v v' : Value) (W X : World) : Prop where
  to : ROwn X w.heap.size v' (xs.take m ++ [y])
  grown : (W.alloc (.cells #[.int .i64 (y.1 : Int), .int .i64 (y.2 : Int)] 36)).grownBy X v.ownBlock
  blk : v'.ownBlock = v.ownBlock ∨ ∃ g, v'.ownBlock = some g ∧ W.heap.size ≤ g
theorem LApp.keep {X : World} {v' : Value} (ha : LApp w m xs y v v' W X) {j : Nat} (hj : j < W.heap.size) (hne : v.ownBlock ≠ some j) : X.heap[j]? = W.heap[j]? :=
  (ha.grown.block j (by simp; omega) (fun e => hne e.symm)).trans (Below.heap_alloc _ _ _ hj)
theorem LApp.keepT (h : LRd w b B m mb tb U V xs y v W0 W) {X : World} {v' : Value} (ha : LApp w m xs y v v' W X) {j : Nat} {C : Array Value} {t : TypeId} {fr : Nat × Nat} (hj : W.heap[j]? = some (.cells C t fr)) (ht : t ≠ 36) : X.heap[j]? = W.heap[j]? :=
  ha.keep (lt_of_block hj) (fun e => h.to.ne e hj ht rfl)
theorem LApp.tv (h : LRd w b B m mb tb U V xs y v W0 W) {X : World} {v' : Value} (ha : LApp w m xs y v v' W X) : Boxed X tb 28 v := (ha.keepT h h.tv (by decide)).trans h.tv
theorem list_round (h : LRd w b B m mb tb U V xs y v W0 W) {X : World} {v' : Value} (ha : LApp w m xs y v v' W X) (N : Nat) (hN : tb < N) :
    LSt w b B m mb tb U V (xs ++ [y]) (X.setCell ⟨tb, 0, none⟩ v') ∧ KeepsFrom N W (X.setCell ⟨tb, 0, none⟩ v') ∧ Kp (tb + 1) tb W0 (X.setCell ⟨tb, 0, none⟩ v') := by
  have etake : (xs ++ [y]).take m = xs.take m ++ [y] := by
    rw [List.take_of_length_le (by have := h.lt; omega : xs.length ≤ m), List.take_of_length_le (by have := h.lt; simp; omega)]
  have far : ∀ q, q ≠ tb → (X.setCell ⟨tb, 0, none⟩ v').heap[q]? = X.heap[q]? := fun q h1 => Below.heap_setCell _ _ _ _ h1
  have tb1 : Boxed (X.setCell ⟨tb, 0, none⟩ v') tb 28 v' := (ha.tv h).set v'
  have hmap1 : MapAt X b B U V := h.st.map.of (ha.keepT h h.st.map.blk (by decide))
  have hnum1 : Boxed X mb 3 (.int .i64 (m : Int)) := (ha.keepT h h.st.num (by decide)).trans h.st.num
  have hbt := box_ne hmap1.blk (ha.tv h) (by decide)
  have hmt := box_ne hnum1 (ha.tv h) (by decide)
  have all : ∀ k, k < W.heap.size → v.ownBlock ≠ some k → k ≠ tb → (X.setCell ⟨tb, 0, none⟩ v').heap[k]? = W.heap[k]? := fun k hk h3 h4 => by
    rw [far k h4, ha.keep hk h3]
  have sizes : W.heap.size < X.heap.size := by have := ha.grown.size; simp at this; omega
  have hW0 : W0.heap.size < W.heap.size := h.box.lt
  refine ⟨⟨hmap1.of (far b hbt), (far mb hmt).trans hnum1, ⟨v', tb1, ?_⟩, ?_, ?_⟩, ?_, ?_⟩
  · rw [etake]
    obtain ⟨h1, h2⟩ := ha.to
    refine ⟨h1, ?_⟩
    rcases h2 with h2 | ⟨g, cap, cur, rfl, hb, hg, r⟩
    · exact .inl h2
    · exact .inr ⟨g, cap, cur, rfl, hb, (far g (ha.to.ne rfl (ha.tv h) (by decide))).trans hg, r⟩
  · have hw : w.heap.size ≤ W.heap.size := h.st.grown.size
    refine ⟨ha.grown.os.trans h.st.grown.os, ha.grown.tape.trans h.st.grown.tape, ha.grown.output.trans h.st.grown.output, by simp; omega, fun k hk _ => ?_⟩
    have := h.wt
    rw [all k (by omega) (fun e => by have := (h.to.row e).1; omega) (by omega)]
    exact h.st.grown.block k hk (by simp)
  · simp
    have := h.tlt
    omega
  · refine ⟨by simp; omega, fun k o hk ho hc => ?_⟩
    have nc : ∀ {q : Nat} {C : Array Value} {t : TypeId} {fr : Nat × Nat}, W.heap[q]? = some (Obj.cells C t fr) → k ≠ q := @fun q C t fr hq e => by
      rw [e, hq] at ho
      cases ho
      cases hc
    rw [all k (Array.getElem?_eq_some_iff.1 ho).1 (fun e => by obtain ⟨_, cur, hq⟩ := h.to.row e; exact nc hq rfl) (nc h.tv)]
    exact ho
  · have isv : ∀ {j : Nat} {u : Value} {A : World} {ys : List (Nat × Nat)}, ROwn A w.heap.size u ys → u.ownBlock = some j → ∃ len cap, u = .slice (some ⟨j, 0, none⟩) len cap := @fun j u A ys hu2 hj => by
      rcases hu2.2 with ⟨rfl, _⟩ | ⟨g, cap, cur, rfl, _⟩
      · cases hj
      · cases hj; exact ⟨_, _, rfl⟩
    have toArr : ∀ j, v.ownBlock = some j → arr tb W0 j := fun j hj => by
      obtain ⟨len, cap, e⟩ := isv h.to hj
      exact ⟨len, cap, by rw [h.tv0.cell, e]⟩
    refine ⟨by simp; omega, fun j C t fr hj hc hna => ?_, fun j hj => ?_⟩
    · have hl := lt_of_block hc
      rw [all j (by omega) (fun e => hna (toArr j e)) (by omega)]
      exact h.kc j C t fr hc
    · obtain ⟨len, cap, e⟩ := hj
      rw [tb1.cell] at e
      cases e
      rcases ha.blk with hb | ⟨g, hb, hg⟩
      · exact .inl (toArr j hb.symm)
      · have hgj : j = g := by simpa [Value.ownBlock] using hb
        subst hgj
        refine .inr ⟨by omega, ?_⟩
        obtain ⟨_, cur, hq⟩ := ha.to.row rfl
        have := lt_of_block hq
        simpa using this
end

set_option maxRecDepth 100000 in
set_option maxHeartbeats 2000000 in
theorem listed_any (w : World) (b B m : Nat) (U V : Nat → Bool) (h : MapAt w b B U V) (hm : m ≤ 600) (hm1 : 1 ≤ m) :
    Calls Try.prog 31 #[.pointer (some ⟨b, 0, none⟩), .int .i64 (m : Int)] w fun e w' => ∃ v, e = .returned v ∧ ROwn w' w.heap.size v ((runsOf B U V).take m) ∧ w.grownBy w' none := by
  have hB := h.le
  have hmi : (m : Int) ≤ 600 := by omega
  refine (callsIn_wide (n := 3)).1 ?_
  refine callsIn_of_wp_marks Try.func31 rfl trivial ?_ rfl
  simp only [Try.ntmps31, List.size_toArray, List.length_cons, List.length_nil, Nat.reduceAdd, Nat.reduceSub, Array.replicate_succ, Array.replicate_zero, List.push_toArray, List.append_toArray, List.nil_append, List.cons_append]
  have HM := hide h
  clear h
  gi_wp2_with fail
  refine ⟨trivial, (callsIn_wide.2 (All_any _ _)).mono ?_⟩
  rintro e w' ⟨rfl, rfl⟩
  gi_wp2
  have bM := Boxed.new w 3 (.int .i64 (m : Int))
  have bT := Boxed.new (w.alloc (.cells #[.int .i64 (m : Int)] 3)) 28 (.slice none 0 0)
  have bA := Boxed.new ((w.alloc (.cells #[.int .i64 (m : Int)] 3)).alloc (.cells #[.slice none 0 0] 28)) 24 (.pointer (some ⟨b, 0, none⟩))
  rw [World.size_alloc] at bT
  rw [World.size_alloc, World.size_alloc] at bA
  obtain ⟨Wl, hWl⟩ : ∃ Wl, Wl = ((w.alloc (.cells #[.int .i64 (m : Int)] 3)).alloc (.cells #[.slice none 0 0] 28)).alloc (.cells #[.pointer (some ⟨b, 0, none⟩)] 24) := ⟨_, rfl⟩
  have hgwl : w.grownBy Wl none := by rw [hWl]; exact ((World.grownBy_alloc _ _ _).trans (World.grownBy_alloc _ _ _)).trans (World.grownBy_alloc _ _ _)
  have hsl : Wl.heap.size = w.heap.size + 3 := by rw [hWl]; simp
  have bMl : Boxed Wl w.heap.size 3 (.int .i64 (m : Int)) := by rw [hWl]; exact (bM.alloc _).alloc _
  have bTl : Boxed Wl (w.heap.size + 1) 28 (.slice none 0 0) := by rw [hWl]; exact bT.alloc _
  have hml : MapAt Wl b B U V := (unhide HM).grown hgwl (by simp)
  have hbw := (unhide HM).lt
  rw [← hWl] at bA ⊢
  clear hWl bM bT
  obtain ⟨tb, htb⟩ : ∃ tb, tb = w.heap.size + 1 := ⟨_, rfl⟩
  rw [← htb] at bTl bA ⊢
  have hsl2 : Wl.heap.size = tb + 2 := by omega
  have htw : w.heap.size ≤ tb := by omega
  have htw1 : w.heap.size < tb := by omega
  clear hsl
  have hst0 : LSt w b B m w.heap.size tb U V [] Wl := ⟨hml, bMl, ⟨_, bTl, by simp; exact World.ownsRow_nil _ _ _ _⟩, hgwl, by omega⟩
  clear htb
  refine range_boxed (n := 3) (gf := 40) (lb := #[.pointer (some ⟨tb + 1, 0, none⟩)]) rfl (enters_of Try.func40 (by kernel_rfl) rfl)
    (AllIt_stops 2 b B (tb + 1) tb (tb + 1) U V Wl bA.cell bA.lt hml (by omega) (by omega) (fun j => by rintro ⟨len, cap, e⟩; rw [bTl.cell] at e; cases e)) (fun _ => rfl)
    (fun pre => LSt w b B m w.heap.size tb U V (pre.map cl))
    (fun c pre W => (c = .exit 0 ∧ m ≤ (pre.map cl).length) ∧ LSt w b B m w.heap.size tb U V (pre.map cl) W)
    (fun x W0 a' W => (RBox W W0.heap.size (cl x) ∧ (∀ (j : Nat) (C : Array Value) (t : TypeId) (fr : Nat × Nat), W0.heap[j]? = some (Obj.cells C t fr) → W.heap[j]? = W0.heap[j]?)) ∧ (∃ pre, LSt w b B m w.heap.size tb U V pre W0) ∧ a' = { tmps := #[.pointer (some ⟨b, 0, none⟩), .int .i64 (m : Int), undef, .pointer (some ⟨w.heap.size, 0, none⟩), .slice none 0 0, .pointer (some ⟨tb, 0, none⟩), .pointer (some ⟨W0.heap.size, 0, none⟩), .pointer (some ⟨b, 0, none⟩), .func (.func 40) #[] #[.pointer (some ⟨tb + 1, 0, none⟩)], rv (cl x), undef, undef, undef, undef, undef, undef, undef, undef, undef], defers := [] })
    (LSt.own w b B m _ tb U V _ (by have := hgwl.size; omega))
    (fun c => OwnFrom.and (ownFrom_pure _ _) (LSt.own w b B m _ tb U V _ (by have := hgwl.size; omega)))
    (fun x W0 a' s A A' row hs hg hr => by
      obtain ⟨⟨h1, h2⟩, h3⟩ := hs
      have kc : ∀ (j : Nat) (C : Array Value) (t : TypeId) (fr : Nat × Nat), A.heap[j]? = some (Obj.cells C t fr) → A'.heap[j]? = A.heap[j]? := fun j C t fr hj => hg.block j (lt_of_block hj) (fun e => by
        obtain ⟨_, o, ho, hc⟩ := hr j e.symm
        rw [hj] at ho
        cases ho
        cases hc)
      exact ⟨⟨(kc _ _ _ _ h1).trans h1, fun j C t fr hj => (kc j C t fr ((h2 j C t fr hj).trans hj)).trans (h2 j C t fr hj)⟩, h3⟩)
    (fun W0 W l o o' hl ho hc hk => Kp.turn (N := Wl.heap.size) (by omega) W l o o' hl ho hc hk)
    hst0 ?assign ?body ?done ?stop
  case assign =>
    rintro l pre x W K hst hK
    have HK := hide hK
    have HS := hide hst
    have hx := cl_in x
    obtain ⟨y, hy⟩ : ∃ y, y = cl x := ⟨_, rfl⟩
    rw [← hy] at hx HK ⊢
    obtain ⟨y1, y2⟩ := y
    unfold rv at HK ⊢
    simp only at hx HK ⊢
    clear hy hK hst
    gi_wp2
    refine unhide HK _ _ ((KeepsOthers.alloc _ _).from _) ((LSt.own w b B m _ tb U V (w.heap.size) (Nat.le_refl _)).alloc (s := pre) _ (unhide HS)) ⟨⟨heap_alloc_new _ _, fun j C t fr hj => Below.heap_alloc _ _ _ (lt_of_block hj)⟩, ⟨_, unhide HS⟩, rfl⟩
  case body =>
    rintro l pre x W0 a' W hst ⟨⟨hbx, hkc⟩, ⟨pre0, hst0'⟩, rfl⟩ hlt
    have hlen := runs_len B U V hB
    obtain ⟨y, hy⟩ : ∃ y, y = cl x := ⟨_, rfl⟩
    obtain ⟨xs, hxs⟩ : ∃ xs, xs = pre.map cl := ⟨_, rfl⟩
    have hxl : xs.length = pre.length := by rw [hxs]; simp
    have hmap : (pre ++ [x]).map cl = xs ++ [y] := by rw [hxs, hy]; simp
    have HMp := hide hmap
    rw [← hy] at hbx ⊢
    rw [← hxs] at hst
    clear hy hxs hmap
    obtain ⟨v, hv1, hv2⟩ := hst.got
    obtain ⟨v0, hv01, hv02⟩ := hst0'.got
    obtain rfl : v0 = v := by
      have h1 := (hkc _ _ _ _ hv01).trans hv01
      have h2 := h1.symm.trans (show W.heap[tb]? = _ from hv1)
      simpa using h2
    have cN := hst.num.cell
    have cT := hv1.cell
    have hll : (xs.take m).length = min m xs.length := List.length_take
    by_cases hful : xs.length < m
    · have R : LRd w b B m w.heap.size tb U V xs y v0 W0 W := ⟨hst, hbx, hkc, hv01, by omega, hv1, hv2, fun g hg => by obtain ⟨_, cur, hq⟩ := hv02.row hg; exact lt_of_block hq, hst0'.size, hful⟩
      have c0 := hbx.c0
      have c1 := hbx.c1
      have vform : ∃ ao cap, v0 = .slice ao (xs.take m).length cap := by
        rcases hv2.2 with ⟨rfl, h0⟩ | ⟨g, cap, cur, rfl, _⟩
        · exact ⟨none, 0, by rw [h0]⟩
        · exact ⟨_, _, rfl⟩
      obtain ⟨vo, vcap, hvf⟩ := vform
      obtain ⟨nl, hnl⟩ : ∃ nl, nl = (xs.take m).length := ⟨_, rfl⟩
      rw [← hnl] at hvf hll
      subst hvf
      have hge : ¬ ((m : Int) ≤ (nl : Int)) := by omega
      have hni : (nl : Int) ≤ 600 := by omega
      have HO := hide hv2
      have HL : Hid ((xs.take m).length ≤ 512) := hide (by rw [← hnl]; omega)
      have HB : Hid (w.heap.size ≤ (W.alloc (.cells #[.int .i64 (y.1 : Int), .int .i64 (y.2 : Int)] 36)).heap.size) := hide (by have := hst.grown.size; simp; omega)
      have HC : Hid (∀ j u, ([.int .i64 (y.1 : Int), .int .i64 (y.2 : Int)] : List Value)[j]? = some u → (W.alloc (.cells #[.int .i64 (y.1 : Int), .int .i64 (y.2 : Int)] 36)).cell? ((⟨W.heap.size, 0, none⟩ : Addr).add j) = some u) := hide (fun j u hj => by
        rw [addr_add, cell_of_row _ _ _ _ _ _ (heap_alloc_new _ _)]
        simpa using hj)
      have HR := hide R
      clear R hv2 hv1 hv01 hv02 hst hst0' hnl hll hxl
      gi_wp2_with (gi_at_builtin; refine wpListIn_append_run rfl (.tmp 14) (.tmp 16) rfl w.heap.size (.slice vo nl vcap) (xs.take m) rfl (World.ownsRow.alloc (unhide HO) _) (unhide HB) (unhide HL) ⟨W.heap.size, 0, none⟩ 1 (y.1, y.2) rfl (unhide HC) ?_; intro v' X ho hgr hbk; have HA : LApp w m xs y (.slice vo nl vcap) v' W X := ⟨ho, hgr, hbk.imp id (fun ⟨g, h1, h2⟩ => ⟨g, h1, by simp at h2; omega⟩)⟩; obtain ⟨g', cap', hv'⟩ := ownsRow_succ (k := (xs.take m).length) (show X.ownsRow w.heap.size 36 2 v' ((xs.take m).length + 1) _ by have := ho; unfold ROwn at this; rw [List.length_append] at this; exact this); obtain ⟨n', hn'⟩ : ∃ n', v' = .slice (some ⟨g', 0, none⟩) n' cap' := ⟨_, hv'⟩; clear hv'; subst hn'; have bt := HA.tv (unhide HR); have e1 := bt.cell; have e2 := bt.frozen; have T := list_round (unhide HR) HA (tb + 2) (by omega); have HT := hide T; clear T HA ho hgr hbk)
      exact ⟨⟨by first | exact (unhide HT).2.1 | (rw [hsl2]; exact (unhide HT).2.1), (unhide HT).2.2⟩, by show LSt w b B m w.heap.size tb U V ((pre ++ [x]).map cl) _; rw [unhide HMp]; exact (unhide HT).1⟩
    · have vform : ∃ ao cap, v0 = .slice ao (xs.take m).length cap := by
        rcases hv2.2 with ⟨rfl, h0⟩ | ⟨g, cap, cur, rfl, _⟩
        · exact ⟨none, 0, by rw [h0]⟩
        · exact ⟨_, _, rfl⟩
      obtain ⟨vo, vcap, hvf⟩ := vform
      have hnl : (xs.take m).length = m := by omega
      rw [hnl] at hvf
      subst hvf
      have hge : ((m : Int) ≤ (m : Int)) := by omega
      have HS := hide (hst.stay (by omega) y)
      have HT : Hid (m ≤ (xs ++ [y]).length) := hide (by simp; omega)
      clear hst hst0' hkc hv2 hv1 hv01 hv02 hnl hll hxl
      gi_wp2
      exact ⟨KeepsFrom.refl _ _, ⟨rfl, by rw [unhide HMp]; exact unhide HT⟩, by rw [unhide HMp]; exact unhide HS⟩
  case done =>
    rintro D ys W hD rfl hst hK
    rw [cl_map (runsOf_in hB)] at hst
    obtain ⟨v, hv1, hv2⟩ := hst.got
    have c := hv1.cell
    gi_wp2
    refine ⟨by simp, .inl ⟨_, _, rfl, run_takeDeferred hK, ?_⟩⟩
    refine ⟨_, results_tmp rfl _ _ _, v, rfl, ownsRow_putObj hv2 _ hK rfl, ?_⟩
    exact hst.grown.andThen (grownBy_putObj' W D _) (fun j e => .inl (by cases e; have := hgwl.size; omega))
  case stop =>
    rintro D c pre W hD hpre ⟨⟨rfl, hful⟩, hst⟩ hK
    have hpin : ∀ x ∈ pre, 1 ≤ x.2 ∧ x.1 + x.2 ≤ 512 := fun x hx => runsOf_in hB x (hpre.subset hx)
    rw [cl_map hpin] at hst hful
    have hcut : pre.take m = (runsOf B U V).take m := by
      obtain ⟨r, hr⟩ := hpre
      rw [← hr, List.take_append_of_le_length hful]
    obtain ⟨v, hv1, hv2⟩ := hst.got
    rw [hcut] at hv2
    have c := hv1.cell
    gi_wp2
    refine ⟨by simp, .inl ⟨_, _, rfl, run_takeDeferred hK, ?_⟩⟩
    refine ⟨_, results_tmp rfl _ _ _, v, rfl, ownsRow_putObj hv2 _ hK rfl, ?_⟩
    exact hst.grown.andThen (grownBy_putObj' W D _) (fun j e => .inl (by cases e; have := hgwl.size; omega))
end Go.Proofs.Ytgdplmbchoogiaa

/-
  DERIVED. SameRuns; runs of one's own as they are read; Pick.
-/
namespace Go.Proofs.Ytgdplmbchoogiaa
open Go.RowKit
set_option linter.unusedVariables false

def toI (x : Nat × Nat) : Int × Int := ((x.1 : Int), (x.2 : Int))

theorem rcells_at : ∀ (xs : List (Nat × Nat)) (i : Nat) (h : i < xs.length), (rcells xs)[i * 2]? = some (.int .i64 (xs[i].1 : Int)) ∧ (rcells xs)[i * 2 + 1]? = some (.int .i64 (xs[i].2 : Int))
  | x :: xs, 0, _ => by simp [rcells]
  | x :: xs, i + 1, h => by
    have ih := rcells_at xs i (by simpa using h)
    have e : rcells (x :: xs) = .int .i64 (x.1 : Int) :: .int .i64 (x.2 : Int) :: rcells xs := by simp [rcells]
    rw [e, show (i + 1) * 2 = i * 2 + 1 + 1 by omega, show i * 2 + 1 + 1 + 1 = (i * 2 + 1) + 1 + 1 by omega]
    simp only [List.getElem?_cons_succ, List.getElem_cons_succ]
    exact ih

theorem ROwn.rn {w : World} {base : Nat} {v : Value} {xs : List (Nat × Nat)} (h : ROwn w base v xs) (hf : ∀ x ∈ xs, x.1 ≤ 512 ∧ x.2 ≤ 512) : Rn w v (xs.map toI) := by
  have hfit : ∀ x ∈ xs.map toI, fits x := fun x hx => by
    obtain ⟨y, hy, rfl⟩ := List.mem_map.1 hx
    have := hf y hy
    simp only [fits, toI]
    omega
  rcases h.2 with ⟨rfl, h0⟩ | ⟨g, cap, cur, rfl, hb, hg, hn, hm, hs, ht⟩
  · obtain rfl : xs = [] := List.eq_nil_of_length_eq_zero h0
    exact ⟨none, 0, rfl, by simp, by omega, hfit, fun h => absurd rfl h⟩
  · refine ⟨some ⟨g, 0, none⟩, cap, by simp, by simpa using hn, by unfold maxLen at hm; omega, hfit, fun _ => ⟨g, 0, rfl, lt_of_block hg, fun i hi => ?_⟩⟩
    have hi' : i < xs.length := by simpa using hi
    obtain ⟨e1, e2⟩ := rcells_at xs i hi'
    have at' : ∀ j, j < xs.length * 2 → cur[j]? = (rcells xs)[j]? := fun j hj => by
      have e : (cur.toList.take (xs.length * 2))[j]? = (rcells xs)[j]? := by rw [ht]
      rw [List.getElem?_take_of_lt (by omega)] at e
      simpa using e
    constructor
    · rw [cell_of_row _ _ _ _ _ _ hg, Nat.zero_add, at' _ (by omega), e1]
      simp [toI]
    · rw [cell_of_row _ _ _ _ _ _ hg, Nat.zero_add, at' _ (by omega), e2]
      simp [toI]

/-- One run in a block of its own. -/
theorem Rn.one (w : World) (x1 x2 : Int) (hf : fits (x1, x2)) : Rn (w.alloc (.cells #[.int .i64 x1, .int .i64 x2] 36)) (.slice (some ⟨w.heap.size, 0, none⟩) 1 1) [(x1, x2)] := by
  refine ⟨_, 1, rfl, by simp, by omega, fun x hx => by simp at hx; subst hx; exact hf, fun _ => ⟨w.heap.size, 0, rfl, by simp, fun i hi => ?_⟩⟩
  have : i = 0 := by simp at hi; omega
  subst this
  exact ⟨(cell_of_row _ _ _ _ _ _ (heap_alloc_new _ _)).trans rfl, (cell_of_row _ _ _ _ _ _ (heap_alloc_new _ _)).trans rfl⟩

theorem take_eq_step {α : Type} (l m : List α) (k : Nat) (h1 : k < l.length) (h2 : k < m.length) (h : l.take k = m.take k) (e : l[k] = m[k]) : l.take (k + 1) = m.take (k + 1) := by
  rw [List.take_succ_eq_append_getElem h1, List.take_succ_eq_append_getElem h2, h, e]

set_option maxHeartbeats 2000000 in
theorem SameRuns_any (w : World) (v u : Value) (l m : List (Int × Int)) (hv : Rn w v l) (hu : Rn w u m) :
    Calls Try.prog 10 #[v, u] w fun e w' => e = .returned (.bool (decide (l = m))) ∧ w.grownBy w' none := by
  have HV := hide hv
  have HU := hide hu
  obtain ⟨ao, cap, rfl, h1, h2, _, _⟩ := hv
  obtain ⟨bo, dap, rfl, k1, k2, _, _⟩ := hu
  by_cases hlen : l.length = m.length
  · obtain ⟨n, hn⟩ : ∃ n, n = l.length := ⟨_, rfl⟩
    have hnm : n = m.length := hn.trans hlen
    rw [← hn] at h1 HV ⊢
    rw [← hnm] at k1 HU ⊢
    have hni : (n : Int) ≤ 9223372036854775807 := by omega
    have Hn := hide hn
    have Hm := hide hnm
    clear hn hnm hlen
    go_enter Try.func10, Try.ntmps10
    go_wp2
    go_loopw [5] (fun i wr => ∃ k : Nat, i = .int .i64 (k : Int) ∧ k ≤ n ∧ Hid (l.take k = m.take k) ∧ w.grownBy wr none) (fun i _ => n - (intOf i).toNat)
    case atStart => exact ⟨0, rfl, by omega, hide (by simp), World.grownBy.refl _ _⟩
    case round =>
      obtain ⟨k, rfl, hk, HT, hg⟩ := hrel
      by_cases hlt : k < n
      · have hlt' : (k : Int) < (n : Int) := by omega
        have hkl : k < l.length := by rw [← unhide Hn]; exact hlt
        have hkm : k < m.length := by rw [← unhide Hm]; exact hlt
        obtain ⟨pb, off, hao, hpb, hc⟩ : ∃ pb off, ao = some ⟨pb, off, none⟩ ∧ pb < wr.heap.size ∧ ∀ i, (h : i < l.length) → wr.cell? ⟨pb, off + i * 2, none⟩ = some (.int .i64 l[i].1) ∧ wr.cell? ⟨pb, off + i * 2 + 1, none⟩ = some (.int .i64 l[i].2) := by
          obtain ⟨ao', cap', e, _, _, _, h4⟩ := (unhide HV).kept hg
          cases e
          exact h4 (by omega)
        obtain ⟨qb, qff, hbo, hqb, hd⟩ : ∃ pb off, bo = some ⟨pb, off, none⟩ ∧ pb < wr.heap.size ∧ ∀ i, (h : i < m.length) → wr.cell? ⟨pb, off + i * 2, none⟩ = some (.int .i64 m[i].1) ∧ wr.cell? ⟨pb, off + i * 2 + 1, none⟩ = some (.int .i64 m[i].2) := by
          obtain ⟨ao', cap', e, _, _, _, h4⟩ := (unhide HU).kept hg
          cases e
          exact h4 (by omega)
        subst hao hbo
        obtain ⟨c0, c1⟩ := hc k hkl
        obtain ⟨d0, d1⟩ := hd k hkm
        obtain ⟨x, hx⟩ : ∃ x, x = l[k] := ⟨_, rfl⟩
        obtain ⟨y, hy⟩ : ∃ y, y = m[k] := ⟨_, rfl⟩
        rw [← hx] at c0 c1
        rw [← hy] at d0 d1
        have HX := hide hx
        have HY := hide hy
        obtain ⟨x1, x2⟩ := x
        obtain ⟨y1, y2⟩ := y
        simp only at c0 c1 d0 d1
        have HG := hide hg
        clear hc hd hx hy hg
        by_cases he : x1 = y1 ∧ x2 = y2
        · obtain ⟨rfl, rfl⟩ := he
          have HT2 : Hid (l.take (k + 1) = m.take (k + 1)) := hide (take_eq_step l m k hkl hkm (unhide HT) ((unhide HX).symm.trans (unhide HY)))
          go_wp2_with fail
          go_quiet (fail)
          go_wp2
          go_roundw
          case rel => exact ⟨k + 1, rfl, by omega, HT2, grown_drewN (unhide HG) _⟩
          case measure => simp [intOf]; omega
        · have HF : Hid (decide (l = m) = false) := hide (decide_eq_false (fun e => by
            subst e
            have := (unhide HX).trans (unhide HY).symm
            simp only [Prod.mk.injEq] at this
            exact he this))
          by_cases h1' : x1 = y1
          · have h2' : ¬ x2 = y2 := fun e => he ⟨h1', e⟩
            have b1 : (x1 == y1) = true := beq_iff_eq.2 h1'
            have b2 : (x2 == y2) = false := beq_eq_false_iff_ne.2 h2'
            clear he
            go_wp2_with fail
            go_quiet (fail)
            go_wp2
            go_ret
            rw [unhide HF]
            exact ⟨rfl, grown_drewN (unhide HG) _⟩
          · have b1 : (x1 == y1) = false := beq_eq_false_iff_ne.2 h1'
            clear he
            go_wp2_with fail
            go_quiet (fail)
            go_wp2
            go_ret
            rw [unhide HF]
            exact ⟨rfl, grown_drewN (unhide HG) _⟩
      · have hlt' : ¬ (k : Int) < (n : Int) := by omega
        have HF : Hid (decide (l = m) = true) := hide (decide_eq_true (by
          have := unhide HT
          rw [List.take_of_length_le (by have := unhide Hn; omega), List.take_of_length_le (by have := unhide Hm; omega)] at this
          exact this))
        have HG := hide hg
        clear hg
        go_wp2
        go_ret
        rw [unhide HF]
        exact ⟨rfl, unhide HG⟩
  · have hli : (l.length : Int) ≠ (m.length : Int) := by omega
    have HF : Hid (decide (l = m) = false) := hide (decide_eq_false (fun e => hlen (by rw [e])))
    clear hlen
    go_enter Try.func10, Try.ntmps10
    go_wp2
    go_ret
    rw [unhide HF]
    exact ⟨rfl, World.grownBy.refl _ _⟩
end Go.Proofs.Ytgdplmbchoogiaa

/-
  DERIVED. Slices of numbers: of one's own, as they are read; appends.
-/
namespace Go.Proofs.Ytgdplmbchoogiaa
open Go.RowKit
set_option linter.unusedVariables false

theorem Try.infoInt : (Try.prog.info? 3).map (fun i => (i.zero, i.size, i.bytes)) = some (some (.int .i64 0), 1, 8) := by kernel_rfl
abbrev nv (n : Nat) : Value := .int .i64 (n : Int)
/-- A slice of numbers of one's own. -/
def NOwn (w : World) (base : Nat) (v : Value) (L : List Nat) : Prop := w.ownsRow base 3 1 v L.length (L.map nv)
theorem NOwn.nil (w : World) (base : Nat) : NOwn w base (.slice none 0 0) [] := World.ownsRow_nil w _ _ _
theorem NOwn.kept {W W' : World} {base : Nat} {v : Value} {xs : List Nat} {row : Option Nat} (h : NOwn W base v xs) (hg : W.grownBy W' row) (hne : ∀ q, v.ownBlock = some q → some q ≠ row) : NOwn W' base v xs := by
  obtain ⟨h1, h2⟩ := h
  refine ⟨h1, ?_⟩
  rcases h2 with h2 | ⟨g, cap, cur, rfl, hb, hgb, r⟩
  · exact .inl h2
  · exact .inr ⟨g, cap, cur, rfl, hb, (hg.block g (lt_of_block hgb) (hne g rfl)).trans hgb, r⟩
theorem NOwn.grown {W W' : World} {base : Nat} {v : Value} {xs : List Nat} (h : NOwn W base v xs) (hg : W.grownBy W' none) : NOwn W' base v xs := h.kept hg (fun q _ e => by cases e)
theorem NOwn.row {W : World} {base : Nat} {v : Value} {xs : List Nat} (h : NOwn W base v xs) {q : Nat} (hq : v.ownBlock = some q) : base ≤ q ∧ ∃ cur, W.heap[q]? = some (.cells cur 3 (0, 0)) := by
  rcases h.2 with ⟨rfl, _⟩ | ⟨g, cap, cur, rfl, hb, hg, r⟩
  · cases hq
  · cases hq; exact ⟨hb, cur, hg⟩
theorem NOwn.ne {W : World} {base : Nat} {v : Value} {xs : List Nat} (h : NOwn W base v xs) {q j : Nat} {C : Array Value} {t : TypeId} {fr : Nat × Nat} (hq : v.ownBlock = some q) (hj : W.heap[j]? = some (.cells C t fr)) (ht : t ≠ 3) : q ≠ j := by
  rintro rfl
  obtain ⟨_, cur, hc⟩ := h.row hq
  rw [hc] at hj
  cases hj
  exact ht rfl
theorem NOwn.form {w : World} {base : Nat} {v : Value} {xs : List Nat} (h : NOwn w base v xs) : ∃ ao cap, v = .slice ao xs.length cap ∧ xs.length ≤ cap ∧ cap ≤ 9223372036854775807 ∧ (xs.length ≠ 0 → ∃ g, ao = some ⟨g, 0, none⟩ ∧ g < w.heap.size ∧ ∀ i, (h : i < xs.length) → w.cell? ⟨g, i, none⟩ = some (.int .i64 (xs[i] : Int))) := by
  rcases h.2 with ⟨rfl, h0⟩ | ⟨g, cap, cur, rfl, hb, hg, hn, hm, hs, ht⟩
  · exact ⟨none, 0, by rw [h0], by omega, by omega, fun h => absurd h0 h⟩
  · refine ⟨some ⟨g, 0, none⟩, cap, rfl, hn, by unfold maxLen at hm; omega, fun _ => ⟨g, rfl, lt_of_block hg, fun i hi => ?_⟩⟩
    have e : (cur.toList.take (xs.length * 1))[i]? = (xs.map nv)[i]? := by rw [ht]
    rw [List.getElem?_take_of_lt (by omega)] at e
    rw [cell_of_row _ _ _ _ _ _ hg]
    simpa [hi] using e
theorem wpList_append_int {ops : Array Oper} {rest : List Oper} {o : Oper} {a : Act} {w : World} {Q : Exit → Act → World → Prop} (hgd : o.guard = none) (s x : Operand)
    (hop : o.op = Op.call { callee := Callee.builtin Builtin.append, args := #[s, x], argTypes := #[60, 60] }) (base : Nat) (v : Value) (xs : List Nat) (hs : a.eval s = v) (hown : NOwn w base v xs) (hb : base ≤ w.heap.size) (hl : xs.length ≤ 65536) (ad : Addr) (c : Nat) (y : Nat)
    (hx : a.eval x = .slice (some ad) 1 c) (hc : w.cell? ad = some (.int .i64 (y : Int)))
    (hK : ∀ v' w', NOwn w' base v' (xs ++ [y]) → w.grownBy w' v.ownBlock → wpList Try.prog ops Q rest (a.put o.dst v') w') :
    wpList Try.prog ops Q (o :: rest) a w := by
  obtain ⟨i0, hi, hz0, hz1, hz2⟩ := info_parts Try.infoInt
  refine wpList_append_own w hgd s x 60 hop base 3 i0 (.int .i64 0) 1 8 Try.underlying60 hi hz0 hz1 hz2 rfl (by decide) v xs.length (xs.map nv) hs hown ad 1 c [nv y] hx rfl ?_ ?_ (by unfold maxLen; omega) (by omega) hb ?_
  · intro j u hj
    match j with
    | 0 =>
      simp at hj
      subst hj
      simpa [Addr.add] using hc
    | j + 1 => simp at hj
  · intro u hu
    simp at hu
    subst hu
    rfl
  intro v' w' ho' hgr _
  refine hK v' w' ?_ hgr
  unfold NOwn
  rw [List.map_append, List.length_append]
  exact ho'

/-- A slice that reads as these numbers. -/
def Nr (w : World) (v : Value) (l : List Nat) : Prop :=
  ∃ ao cap, v = .slice ao l.length cap ∧ l.length ≤ cap ∧ cap ≤ 9223372036854775807 ∧ (l.length ≠ 0 → ∃ g off, ao = some ⟨g, off, none⟩ ∧ g < w.heap.size ∧ ∀ i, (h : i < l.length) → w.cell? ⟨g, off + i, none⟩ = some (.int .i64 (l[i] : Int)))
theorem Nr.kept {w w' : World} {v : Value} {l : List Nat} (h : Nr w v l) (hg : w.grownBy w' none) : Nr w' v l := by
  obtain ⟨ao, cap, e, h1, h2, h4⟩ := h
  refine ⟨ao, cap, e, h1, h2, fun hl => ?_⟩
  obtain ⟨g, off, e2, hb, hc⟩ := h4 hl
  exact ⟨g, off, e2, by have := hg.size; omega, fun i hi => hg.cell (hc i hi) (by simp)⟩
theorem NOwn.nr {w : World} {base : Nat} {v : Value} {xs : List Nat} (h : NOwn w base v xs) : Nr w v xs := by
  obtain ⟨ao, cap, e, h1, h2, h4⟩ := h.form
  refine ⟨ao, cap, e, h1, h2, fun hl => ?_⟩
  obtain ⟨g, e2, hb, hc⟩ := h4 hl
  exact ⟨g, 0, e2, hb, fun i hi => by rw [Nat.zero_add]; exact hc i hi⟩

/-- A piece of a slice of numbers of one's own. -/
theorem NOwn.piece {w : World} {base : Nat} {lo : Option Addr} {q cap : Nat} {L : List Nat} (h : NOwn w base (.slice lo q cap) L) (a z : Nat) (haz : a ≤ z) (hz : z ≤ L.length) :
    Nr w (.slice (lo.map fun x => x.add a) (z - a) (cap - a)) ((L.take z).drop a) := by
  obtain ⟨ao, cap', e, h1, h2, h4⟩ := h.form
  injection e with e1 e2 e3
  subst e1 e3
  have hl : ((L.take z).drop a).length = z - a := by rw [List.length_drop, List.length_take]; omega
  refine ⟨_, cap - a, by rw [hl], by rw [hl]; omega, by omega, fun hne => ?_⟩
  rw [hl] at hne
  obtain ⟨g, rfl, hg, hc⟩ := h4 (by omega)
  refine ⟨g, a, by simp [addr_add], hg, fun i hi => ?_⟩
  rw [hl] at hi
  rw [hc (a + i) (by omega)]
  simp

theorem Nr.empty (w : World) (A : Option Addr) (C : Nat) (hC : C ≤ 9223372036854775807) : Nr w (.slice A 0 C) [] := ⟨A, C, rfl, by simp, hC, fun h => absurd rfl h⟩
theorem NOwn.pieces {w : World} {base : Nat} {lo : Option Addr} {q cap : Nat} {L : List Nat} (h : NOwn w base (.slice lo q cap) L) (hq : q = L.length) (a z N C : Nat) (A : Option Addr) (haz : a ≤ z) (hz : z ≤ q) (hqc : q ≤ cap) (hN : N = z - a)
    (hA : (A = lo.map (fun x => x.add a) ∧ C = cap - a) ∨ (a = 0 ∧ A = lo ∧ C = cap) ∨ (cap = a ∧ C ≤ 9223372036854775807)) : Nr w (.slice A N C) ((L.take z).drop a) := by
  subst hN
  rcases hA with ⟨rfl, rfl⟩ | ⟨rfl, rfl, rfl⟩ | ⟨h1, h2⟩
  · exact h.piece a z haz (by omega)
  · have := h.piece 0 z haz (by omega)
    cases A with
    | none => simpa using this
    | some ad => simpa [Addr.add] using this
  · have e : (L.take z).drop a = [] := List.drop_eq_nil_of_le (by rw [List.length_take]; omega)
    rw [e, show z - a = 0 by omega]
    exact Nr.empty w A C h2


/-- An append of numbers to a slice of one's own, of whatever many: none, too. -/
theorem wpList_append_nums {w : World} {ops : Array Oper} {rest : List Oper} {o : Oper} {a : Act} {Q : Exit → Act → World → Prop} (hgd : o.guard = none) (s x : Operand)
    (ho : o.op = .call { callee := .builtin .append, args := #[s, x], argTypes := #[60, 60] })
    (base : Nat) (v : Value) (l : List Nat) (hs : a.eval s = v) (hown : NOwn w base v l)
    (y : Value) (m : List Nat) (hx : a.eval x = y) (hy : Nr w y m) (hne : ∀ c, y = .slice none 0 c → c = 0) (hlen : l.length + m.length ≤ 65536) (hbase : base ≤ w.heap.size)
    (h : ∀ v' w', NOwn w' base v' (l ++ m) → w.grownBy w' v.ownBlock → wpList Try.prog ops Q rest (a.put o.dst v') w') : wpList Try.prog ops Q (o :: rest) a w := by
  obtain ⟨i0, hi, hz0, hz1, hz2⟩ := info_parts Try.infoInt
  obtain ⟨ao, cap, rfl, h1, h2, h4⟩ := hy
  cases ao with
  | none =>
    have hm0 : m = [] := by
      cases m with
      | nil => rfl
      | cons x r => obtain ⟨_, _, e, _⟩ := h4 (by simp); cases e
    subst hm0
    obtain rfl : cap = 0 := hne cap rfl
    refine wpList_append_own_none hgd s x 60 ho base 3 i0 1 Try.underlying60 hi v l.length (l.map nv) hs hown hx ?_
    exact h v w (by simpa using hown) (World.grownBy.refl _ _)
  | some ad =>
    refine wpList_append_own w hgd s x 60 ho base 3 i0 (.int .i64 0) 1 8 Try.underlying60 hi hz0 hz1 hz2 rfl (by decide) v l.length (l.map nv) hs hown ad m.length cap (m.map nv) hx (by simp) ?_ ?_ (by unfold maxLen; omega) (by omega) hbase ?_
    · intro j u hj
      rw [List.getElem?_map] at hj
      by_cases hjl : j < m.length
      · obtain ⟨g, off, e, _, hc⟩ := h4 (by omega)
        cases e
        rw [List.getElem?_eq_getElem hjl] at hj
        simp only [Option.map_some, Option.some.injEq] at hj
        subst hj
        rw [addr_add]
        exact hc j hjl
      · rw [List.getElem?_eq_none (by omega)] at hj
        cases hj
    · intro u hu
      obtain ⟨z, _, rfl⟩ := List.mem_map.1 hu
      rfl
    · intro v' w' ho' hgr _
      refine h v' w' ?_ hgr
      unfold NOwn
      rw [List.map_append, List.length_append]
      exact ho'
theorem nown_empty (w : World) : NOwn (w.alloc (.cells #[] 3)) w.heap.size (.slice (some ⟨w.heap.size, 0, none⟩) 0 0) [] := ⟨rfl, .inr ⟨w.heap.size, 0, #[], rfl, Nat.le_refl _, heap_alloc_new _ _, by simp, by unfold maxLen; omega, by simp, by simp⟩⟩
end Go.Proofs.Ytgdplmbchoogiaa

/-
  DERIVED. Blocks and runs, plainly: canon L, the runs of a list of blocks.
-/
namespace Go.Proofs.Ytgdplmbchoogiaa
set_option linter.unusedVariables false

/-- The blocks of runs. -/
def bks (X : List (Nat × Nat)) : List Nat := X.flatMap fun x => List.range' x.1 x.2
theorem bks_nil : bks [] = [] := rfl
theorem bks_cons (x : Nat × Nat) (X : List (Nat × Nat)) : bks (x :: X) = List.range' x.1 x.2 ++ bks X := by simp [bks]
theorem bks_append (X Y : List (Nat × Nat)) : bks (X ++ Y) = bks X ++ bks Y := by simp [bks]
theorem bks_one (x : Nat × Nat) : bks [x] = List.range' x.1 x.2 := by simp [bks]

/-- A run behind runs: joined with the last one where it follows on it. -/
def jstep (X : List (Nat × Nat)) (r : Nat × Nat) : List (Nat × Nat) :=
  match X.getLast? with
  | none => X ++ [r]
  | some z => if z.1 + z.2 = r.1 then X.dropLast ++ [(z.1, z.2 + r.2)] else X ++ [r]
theorem jstep_nil (r : Nat × Nat) : jstep [] r = [r] := rfl
theorem jstep_join (X : List (Nat × Nat)) (a m n : Nat) : jstep (X ++ [(a, m)]) (a + m, n) = X ++ [(a, m + n)] := by simp [jstep]
theorem jstep_not (X : List (Nat × Nat)) (z r : Nat × Nat) (h : z.1 + z.2 ≠ r.1) : jstep (X ++ [z]) r = X ++ [z] ++ [r] := by simp [jstep, h]
theorem list_snoc {α : Type} (X : List α) : X = [] ∨ ∃ Y z, X = Y ++ [z] := by
  rcases List.eq_nil_or_concat X with h | ⟨Y, z, h⟩
  · exact .inl h
  · exact .inr ⟨Y, z, by simpa using h⟩
theorem jstep_cases (X : List (Nat × Nat)) (r : Nat × Nat) : jstep X r = X ++ [r] ∨ ∃ Y z, X = Y ++ [z] ∧ z.1 + z.2 = r.1 ∧ jstep X r = Y ++ [(z.1, z.2 + r.2)] := by
  rcases list_snoc X with rfl | ⟨Y, z, rfl⟩
  · exact .inl rfl
  · by_cases h : z.1 + z.2 = r.1
    · obtain ⟨r1, r2⟩ := r
      simp only at h
      subst h
      exact .inr ⟨Y, z, rfl, rfl, by obtain ⟨z1, z2⟩ := z; exact jstep_join Y z1 z2 r2⟩
    · exact .inl (jstep_not Y z r h)
theorem range_join (a m n : Nat) : List.range' a m ++ List.range' (a + m) n = List.range' a (m + n) := by simp
theorem bks_jstep (X : List (Nat × Nat)) (r : Nat × Nat) : bks (jstep X r) = bks X ++ List.range' r.1 r.2 := by
  rcases jstep_cases X r with h | ⟨Y, z, rfl, h1, h2⟩
  · rw [h, bks_append, bks_one]
  · rw [h2, bks_append, bks_one, bks_append, bks_one, List.append_assoc, ← h1, range_join]
/-- A run laid block by block. -/
theorem jstep_succ (X : List (Nat × Nat)) (a m : Nat) (hm : 0 < m) : jstep (jstep X (a, m)) (a + m, 1) = jstep X (a, m + 1) := by
  rcases jstep_cases X (a, m) with h | ⟨Y, z, rfl, h1, h2⟩
  · rw [h, jstep_join]
    rcases list_snoc X with rfl | ⟨Y, z, rfl⟩
    · rfl
    · by_cases hz : z.1 + z.2 = a
      · exfalso
        obtain ⟨z1, z2⟩ := z
        simp only at hz
        subst hz
        rw [jstep_join] at h
        have := congrArg List.length h
        simp at this
      · exact (jstep_not Y z _ hz).symm
  · obtain ⟨z1, z2⟩ := z
    simp only at h1 h2
    subst h1
    rw [h2, jstep_join, show z1 + z2 + m = z1 + (z2 + m) by omega, jstep_join, Nat.add_assoc]

/-- The runs of blocks. -/
def canon (L : List Nat) : List (Nat × Nat) := L.foldl (fun X b => jstep X (b, 1)) []
theorem canon_nil : canon [] = [] := rfl
theorem canon_snoc (L : List Nat) (b : Nat) : canon (L ++ [b]) = jstep (canon L) (b, 1) := by simp [canon]
theorem canon_run (L : List Nat) (a : Nat) : ∀ m, 0 < m → canon (L ++ List.range' a m) = jstep (canon L) (a, m)
  | 0, h => by omega
  | 1, _ => by rw [show List.range' a 1 = [a] by simp]; exact canon_snoc L a
  | m + 2, _ => by
    rw [List.range'_concat, ← List.append_assoc, Nat.one_mul, canon_snoc, canon_run L a (m + 1) (by omega), jstep_succ _ _ _ (by omega)]
/-- Runs laid behind. -/
def joinL (X Y : List (Nat × Nat)) : List (Nat × Nat) := Y.foldl jstep X
theorem joinL_snoc (X Y : List (Nat × Nat)) (r : Nat × Nat) : joinL X (Y ++ [r]) = jstep (joinL X Y) r := by simp [joinL]
theorem canon_join (L : List Nat) : ∀ (Y : List (Nat × Nat)), (∀ y ∈ Y, 0 < y.2) → canon (L ++ bks Y) = joinL (canon L) Y := by
  intro Y
  induction Y generalizing L with
  | nil => intro _; simp [bks, joinL]
  | cons y Y ih =>
    intro h
    rw [bks_cons, ← List.append_assoc, ih _ fun z hz => h z (List.mem_cons_of_mem _ hz), canon_run _ _ _ (h y (List.mem_cons_self ..))]
    rfl
theorem bks_joinL (X : List (Nat × Nat)) : ∀ Y : List (Nat × Nat), bks (joinL X Y) = bks X ++ bks Y := by
  intro Y
  induction Y generalizing X with
  | nil => simp [joinL, bks]
  | cons y Y ih =>
    show bks (joinL (jstep X y) Y) = _
    rw [ih, bks_jstep, bks_cons, List.append_assoc]
theorem bks_canon (L : List Nat) : bks (canon L) = L := by
  suffices h : ∀ (L : List Nat) (X : List (Nat × Nat)), bks (L.foldl (fun X b => jstep X (b, 1)) X) = bks X ++ L from by simpa [canon, bks] using h L []
  intro L
  induction L with
  | nil => simp
  | cons b L ih =>
    intro X
    rw [List.foldl_cons, ih, bks_jstep]
    simp

/-- No run follows on the one ahead of it; all have blocks. -/
def Norm : List (Nat × Nat) → Prop
  | [] => True
  | [x] => 0 < x.2
  | x :: y :: r => 0 < x.2 ∧ x.1 + x.2 ≠ y.1 ∧ Norm (y :: r)
theorem Norm.tail {x : Nat × Nat} {X : List (Nat × Nat)} (h : Norm (x :: X)) : Norm X := by
  cases X with
  | nil => trivial
  | cons y r => exact h.2.2
theorem Norm.head {x : Nat × Nat} {X : List (Nat × Nat)} (h : Norm (x :: X)) : 0 < x.2 := by
  cases X with
  | nil => exact h
  | cons y r => exact h.1
theorem Norm.pos {X : List (Nat × Nat)} (h : Norm X) : ∀ x ∈ X, 0 < x.2 := by
  induction X with
  | nil => intro x hx; cases hx
  | cons y r ih =>
    intro x hx
    rcases List.mem_cons.1 hx with rfl | hx
    · exact h.head
    · exact ih h.tail x hx
theorem Norm.left {X Y : List (Nat × Nat)} (h : Norm (X ++ Y)) : Norm X := by
  induction X with
  | nil => trivial
  | cons x X ih =>
    cases X with
    | nil => exact h.head
    | cons y r => exact ⟨h.1, h.2.1, ih h.2.2⟩
theorem Norm.right {X Y : List (Nat × Nat)} (h : Norm (X ++ Y)) : Norm Y := by
  induction X with
  | nil => exact h
  | cons x X ih => exact ih h.tail
theorem Norm.mid {X : List (Nat × Nat)} {z r : Nat × Nat} (h : Norm (X ++ [z] ++ [r])) : z.1 + z.2 ≠ r.1 := by
  have h2 : Norm ([z] ++ [r]) := Norm.right (X := X) (by simpa using h)
  exact h2.2.1
theorem Norm.snoc {X : List (Nat × Nat)} {r : Nat × Nat} (h : Norm X) (hr : 0 < r.2) (hl : ∀ Y z, X = Y ++ [z] → z.1 + z.2 ≠ r.1) : Norm (X ++ [r]) := by
  induction X with
  | nil => exact hr
  | cons x X ih =>
    cases X with
    | nil => exact ⟨h, hl [] x rfl, hr⟩
    | cons y q => exact ⟨h.1, h.2.1, ih h.2.2 fun Y z e => hl (x :: Y) z (by rw [e]; rfl)⟩
/-- The last run longer. -/
theorem Norm.last {X : List (Nat × Nat)} {a m n : Nat} (h : Norm (X ++ [(a, m)])) (hn : 0 < n) : Norm (X ++ [(a, n)]) := by
  refine Norm.snoc h.left hn fun Y z e => ?_
  subst e
  exact h.mid
/-- The first run cut ahead. -/
theorem Norm.first {X : List (Nat × Nat)} {a m k : Nat} (h : Norm ((a, m) :: X)) (hk : k < m) : Norm ((a + k, m - k) :: X) := by
  cases X with
  | nil => show 0 < m - k; omega
  | cons y r =>
    refine ⟨by show 0 < m - k; omega, ?_, h.2.2⟩
    have h1 := h.2.1
    simp only at h1 ⊢
    omega
theorem Norm.jstep {X : List (Nat × Nat)} {r : Nat × Nat} (h : Norm X) (hr : 0 < r.2) : Norm (jstep X r) := by
  rcases list_snoc X with rfl | ⟨Y, z, rfl⟩
  · exact hr
  · by_cases e : z.1 + z.2 = r.1
    · obtain ⟨r1, r2⟩ := r
      obtain ⟨z1, z2⟩ := z
      simp only at e
      subst e
      rw [jstep_join]
      exact h.last (by simp only at hr; omega)
    · rw [jstep_not _ _ _ e]
      refine h.snoc hr fun Y' z' e' => ?_
      have := List.append_inj' e' rfl
      have e2 : z = z' := by simpa using this.2
      rw [← e2]; exact e
theorem norm_canon (L : List Nat) : Norm (canon L) := by
  suffices h : ∀ (L : List Nat) (X : List (Nat × Nat)), Norm X → Norm (L.foldl (fun X b => jstep X (b, 1)) X) from h L [] trivial
  intro L
  induction L with
  | nil => intro X h; exact h
  | cons b L ih => intro X h; exact ih _ (h.jstep (by simp))
theorem canon_bks : ∀ (n : Nat) (X : List (Nat × Nat)), X.length = n → Norm X → canon (bks X) = X
  | 0, X, hl, _ => by rw [List.eq_nil_of_length_eq_zero hl]; rfl
  | n + 1, X, hl, h => by
    rcases list_snoc X with rfl | ⟨Y, z, rfl⟩
    · simp at hl
    · have hz : 0 < z.2 := h.pos z (by simp)
      rw [bks_append, bks_one, canon_run _ _ _ hz, canon_bks n Y (by simpa using hl) h.left]
      rcases list_snoc Y with rfl | ⟨Y', z', rfl⟩
      · rfl
      · exact jstep_not _ _ _ h.mid
theorem canon_of {X : List (Nat × Nat)} {L : List Nat} (h : Norm X) (e : bks X = L) : canon L = X := by rw [← e]; exact canon_bks _ X rfl h

/-- How many blocks runs have. -/
def tot (X : List (Nat × Nat)) : Nat := (bks X).length
theorem tot_nil : tot [] = 0 := rfl
theorem tot_cons (x : Nat × Nat) (X : List (Nat × Nat)) : tot (x :: X) = x.2 + tot X := by simp [tot, bks_cons]
theorem tot_append (X Y : List (Nat × Nat)) : tot (X ++ Y) = tot X + tot Y := by simp [tot, bks_append]
theorem tot_canon (L : List Nat) : tot (canon L) = L.length := by rw [tot, bks_canon]
/-- Where a block lies: in which run, and as which of it. -/
structure In (X : List (Nat × Nat)) (n r k : Nat) : Prop where
  lt : r < X.length
  kl : k < X[r].2
  sum : tot (X.take r) + k = n
theorem In.block {X : List (Nat × Nat)} {n r k : Nat} (h : In X n r k) : (bks X)[n]? = some ((X[r]'h.lt).1 + k) := by
  have hl := h.lt
  have e : X = X.take r ++ X[r] :: X.drop (r + 1) := by rw [← List.drop_eq_getElem_cons hl, List.take_append_drop]
  have hs := h.sum
  have hk := h.kl
  unfold tot at hs
  rw [show bks X = bks (X.take r) ++ (List.range' X[r].1 X[r].2 ++ bks (X.drop (r + 1))) from by
    conv => lhs; rw [e]
    rw [bks_append, bks_cons], List.getElem?_append_right (by omega), List.getElem?_append_left (by rw [List.length_range']; omega)]
  rw [List.getElem?_range' (by omega)]
  congr 1
  omega
/-- What is ahead of a place, and what is from there on. -/
def keptL (X : List (Nat × Nat)) (r k : Nat) : List (Nat × Nat) := X.take r ++ (if 0 < k then [((X[r]?.getD (0, 0)).1, k)] else [])
def goneL (X : List (Nat × Nat)) (r k : Nat) : List (Nat × Nat) := (((X[r]?.getD (0, 0)).1 + k, (X[r]?.getD (0, 0)).2 - k)) :: X.drop (r + 1)
theorem In.getD {X : List (Nat × Nat)} {n r k : Nat} (h : In X n r k) : X[r]?.getD (0, 0) = X[r]'h.lt := by simp [h.lt]
theorem In.kept_gone {X : List (Nat × Nat)} {n r k : Nat} (h : In X n r k) : bks (keptL X r k) ++ bks (goneL X r k) = bks X ∧ tot (keptL X r k) = n := by
  have hl := h.lt
  have hk := h.kl
  have e : X = X.take r ++ X[r] :: X.drop (r + 1) := by rw [← List.drop_eq_getElem_cons hl, List.take_append_drop]
  have hk2 : bks (keptL X r k) = bks (X.take r) ++ List.range' X[r].1 k := by
    rw [keptL, bks_append, h.getD]
    by_cases hz : 0 < k
    · rw [if_pos hz, bks_one]
    · have : k = 0 := by omega
      subst this
      simp [bks]
  refine ⟨?_, ?_⟩
  · rw [hk2, goneL, bks_cons, h.getD]
    conv => rhs; rw [e]
    rw [bks_append, bks_cons, List.append_assoc, ← List.append_assoc (List.range' _ _), range_join, show k + (X[r].2 - k) = X[r].2 by omega]
  · have hs := h.sum
    unfold tot at hs ⊢
    rw [hk2, List.length_append, List.length_range']
    exact hs
theorem In.norms {X : List (Nat × Nat)} {n r k : Nat} (h : In X n r k) (hn : Norm X) : Norm (keptL X r k) ∧ Norm (goneL X r k) := by
  have hl := h.lt
  have hk := h.kl
  have e : X = X.take r ++ X[r] :: X.drop (r + 1) := by rw [← List.drop_eq_getElem_cons hl, List.take_append_drop]
  have hn1 : Norm (X.take r ++ X[r] :: X.drop (r + 1)) := e ▸ hn
  refine ⟨?_, ?_⟩
  · rw [keptL, h.getD]
    by_cases hz : 0 < k
    · rw [if_pos hz]
      have h2 : Norm ((X.take r ++ [(X[r].1, X[r].2)]) ++ X.drop (r + 1)) := by rw [List.append_assoc]; exact hn1
      exact h2.left.last hz
    · rw [if_neg hz, List.append_nil]
      exact hn1.left
  · rw [goneL, h.getD]
    have h2 : Norm ((X[r].1, X[r].2) :: X.drop (r + 1)) := hn1.right
    exact h2.first hk
theorem In.kept {L : List Nat} {n r k : Nat} (h : In (canon L) n r k) : keptL (canon L) r k = canon (L.take n) ∧ goneL (canon L) r k = canon (L.drop n) := by
  obtain ⟨h1, h2⟩ := h.kept_gone
  obtain ⟨h3, h4⟩ := h.norms (norm_canon L)
  rw [bks_canon] at h1
  unfold tot at h2
  have e1 : bks (keptL (canon L) r k) = L.take n := by
    have := congrArg (List.take n) h1
    rw [List.take_append_of_le_length (by omega), ← h2, List.take_length] at this
    rw [this, h2]
  have e2 : bks (goneL (canon L) r k) = L.drop n := by
    have := congrArg (List.drop n) h1
    rw [List.drop_append_of_le_length (by omega), ← h2, List.drop_length, List.nil_append] at this
    rw [this, h2]
  exact ⟨(canon_of h3 e1).symm, (canon_of h4 e2).symm⟩
theorem canon_nil_iff {L : List Nat} : canon L = [] ↔ L = [] := by
  constructor
  · intro h
    rw [← bks_canon L, h]; rfl
  · rintro rfl; rfl
theorem canon_len (L : List Nat) : (canon L).length ≤ L.length := by
  have h := norm_canon L
  have h2 := tot_canon L
  suffices g : ∀ X : List (Nat × Nat), (∀ x ∈ X, 0 < x.2) → X.length ≤ tot X from by have := g _ h.pos; omega
  intro X
  induction X with
  | nil => intro _; simp
  | cons x X ih =>
    intro h
    have h1 := ih fun y hy => h y (List.mem_cons_of_mem _ hy)
    have h2 := h x (List.mem_cons_self ..)
    rw [tot_cons, List.length_cons]
    omega
/-- All blocks below 512. -/
def low (L : List Nat) : Prop := ∀ b ∈ L, b < 512
theorem low_run {X : List (Nat × Nat)} (h : low (bks X)) : ∀ x ∈ X, 0 < x.2 → x.1 + x.2 ≤ 512 := by
  intro x hx hp
  have : x.1 + (x.2 - 1) ∈ bks X := by
    unfold bks
    rw [List.mem_flatMap]
    refine ⟨x, hx, ?_⟩
    rw [List.mem_range']
    exact ⟨x.2 - 1, by omega, by omega⟩
  have := h _ this
  omega
theorem low_canon {L : List Nat} (h : low L) : ∀ x ∈ canon L, 0 < x.2 ∧ x.1 + x.2 ≤ 512 := fun x hx => by
  have hp := (norm_canon L).pos x hx
  exact ⟨hp, low_run (by rw [bks_canon]; exact h) x hx hp⟩
theorem low_take {L : List Nat} (h : low L) (n : Nat) : low (L.take n) := fun b hb => h b (List.mem_of_mem_take hb)
theorem low_drop {L : List Nat} (h : low L) (n : Nat) : low (L.drop n) := fun b hb => h b (List.mem_of_mem_drop hb)
theorem low_append {L M : List Nat} (h : low L) (h2 : low M) : low (L ++ M) := fun b hb => (List.mem_append.1 hb).elim (h b) (h2 b)
theorem low_bks {X : List (Nat × Nat)} (h : ∀ x ∈ X, x.1 + x.2 ≤ 512) : low (bks X) := by
  intro b hb
  unfold bks at hb
  rw [List.mem_flatMap] at hb
  obtain ⟨x, hx, hb⟩ := hb
  rw [List.mem_range'] at hb
  obtain ⟨i, hi, rfl⟩ := hb
  have := h x hx
  omega
end Go.Proofs.Ytgdplmbchoogiaa

/-
  DERIVED. The runs of the free blocks are those that the document makes of them, one by one.
-/
namespace Go.Proofs.Ytgdplmbchoogiaa
set_option linter.unusedVariables false

theorem blocks_bks (X : List (Nat × Nat)) : blocks X = bks X := rfl
theorem norm_consB {n : Nat} {X : List (Nat × Nat)} (h : Norm X) (hh : ∀ m l r, X = (m, l) :: r → n + 1 ≤ m) : Norm (consB n X) := by
  cases X with
  | nil => show 0 < 1; omega
  | cons x r =>
    obtain ⟨m, l⟩ := x
    have h1 := hh m l r rfl
    simp only [consB]
    by_cases e : m = n + 1
    · rw [if_pos e]
      cases r with
      | nil => show 0 < l + 1; omega
      | cons y r =>
        obtain ⟨h2, h3, h4⟩ := h
        refine ⟨by show 0 < l + 1; omega, ?_, h4⟩
        simp only at h3 ⊢
        omega
    · rw [if_neg e]
      exact ⟨by show 0 < 1; omega, by simp only; omega, h⟩
theorem norm_runsF (f : Nat → Bool) : ∀ k n, Norm (runsF f k n)
  | 0, _ => trivial
  | k + 1, n => by
    have ih := norm_runsF f k (n + 1)
    rw [runsF]
    split
    · exact norm_consB ih (runsF_head f k (n + 1))
    · exact ih
theorem canon_free (B : Nat) (U V : Nat → Bool) : canon ((List.range' 0 B).filter (may U V)) = runsOf B U V := by
  refine canon_of ?_ ?_
  · rw [runsOf]
    exact norm_runsF _ _ _
  · rw [← blocks_bks, runsOf, blocks_runsF]
end Go.Proofs.Ytgdplmbchoogiaa

/-
  DERIVED. The document's Whole, at alloc's seat.
-/
namespace Go.Proofs.Ytgdplmbchoogiaa
open Go.RowKit
set_option linter.unusedVariables false

theorem grown_drewN' {w w' : World} (h : w.grownBy w' none) (n : Nat) : w.grownBy (w'.drewN n) none := ⟨h.os, h.tape, h.output, h.size, h.block⟩
theorem own_stepW {w w1 w2 : World} {b : Nat} (h : w.grownBy w1 none) (hb : w.heap.size ≤ b) (k : w1.grownBy w2 (some b)) : w.grownBy w2 none := h.andThen k (fun j e => by cases e; exact .inl hb)
theorem own_step' {w w1 w2 : World} {v : Value} {xs : List (Nat × Nat)} (h : w.grownBy w1 none) (ho : ROwn w1 w.heap.size v xs) (k : w1.grownBy w2 v.ownBlock) : w.grownBy w2 none := h.andThen k (fun j e => .inl (ho.row e).1)
theorem ROwn.nil (w : World) (base : Nat) : ROwn w base (.slice none 0 0) [] := World.ownsRow_nil w _ _ _
theorem ROwn.grown {W W' : World} {base : Nat} {v : Value} {xs : List (Nat × Nat)} (h : ROwn W base v xs) (hg : W.grownBy W' none) : ROwn W' base v xs := h.kept hg (fun q _ e => by cases e)
theorem rcells_cons (x : Nat × Nat) (xs : List (Nat × Nat)) : rcells (x :: xs) = .int .i64 (x.1 : Int) :: .int .i64 (x.2 : Int) :: rcells xs := by simp [rcells]
theorem rcells_len : ∀ xs : List (Nat × Nat), (rcells xs).length = xs.length * 2
  | [] => rfl
  | x :: xs => by rw [rcells_cons, List.length_cons, List.length_cons, rcells_len xs, List.length_cons]; omega
theorem rcells_one (xs : List (Nat × Nat)) : ∀ u ∈ rcells xs, u.oneCell' = true := by
  intro u hu
  unfold rcells at hu
  rw [List.mem_flatMap] at hu
  obtain ⟨x, _, hx⟩ := hu
  rcases List.mem_cons.1 hx with rfl | hx
  · rfl
  · rcases List.mem_cons.1 hx with rfl | hx
    · rfl
    · cases hx
theorem rcells_set1 : ∀ (xs : List (Nat × Nat)) (i m : Nat) (h : i < xs.length), (rcells xs).set (i * 2 + 1) (.int .i64 (m : Int)) = rcells (xs.set i (xs[i].1, m))
  | x :: xs, 0, m, _ => by simp [rcells]
  | x :: xs, i + 1, m, h => by
    have ih := rcells_set1 xs i m (by simpa using h)
    rw [rcells_cons, show (i + 1) * 2 + 1 = (i * 2 + 1) + 1 + 1 by omega, List.set_cons_succ, List.set_cons_succ, ih, List.set_cons_succ, rcells_cons]
    rfl
theorem rcells_set0 : ∀ (xs : List (Nat × Nat)) (i m : Nat) (h : i < xs.length), (rcells xs).set (i * 2) (.int .i64 (m : Int)) = rcells (xs.set i (m, xs[i].2))
  | x :: xs, 0, m, _ => by simp [rcells]
  | x :: xs, i + 1, m, h => by
    have ih := rcells_set0 xs i m (by simpa using h)
    rw [rcells_cons, show (i + 1) * 2 = (i * 2) + 1 + 1 by omega, List.set_cons_succ, List.set_cons_succ, ih, List.set_cons_succ, rcells_cons]
    rfl

/-- As it is in memory. -/
theorem ROwn.form {w : World} {base : Nat} {v : Value} {xs : List (Nat × Nat)} (h : ROwn w base v xs) : ∃ ao cap, v = .slice ao xs.length cap ∧ xs.length ≤ cap ∧ cap ≤ 9223372036854775807 ∧ (xs.length ≠ 0 → ∃ g, ao = some ⟨g, 0, none⟩ ∧ base ≤ g ∧ g < w.heap.size ∧ ∀ i, (h : i < xs.length) → w.cell? ⟨g, i * 2, none⟩ = some (.int .i64 (xs[i].1 : Int)) ∧ w.cell? ⟨g, i * 2 + 1, none⟩ = some (.int .i64 (xs[i].2 : Int))) := by
  rcases h.2 with ⟨rfl, h0⟩ | ⟨g, cap, cur, rfl, hb, hg, hn, hm, hs, ht⟩
  · exact ⟨none, 0, by rw [h0], by omega, by omega, fun h => absurd h0 h⟩
  · refine ⟨some ⟨g, 0, none⟩, cap, rfl, hn, by unfold maxLen at hm; omega, fun _ => ⟨g, rfl, hb, lt_of_block hg, fun i hi => ?_⟩⟩
    obtain ⟨e1, e2⟩ := rcells_at xs i hi
    have at' : ∀ j, j < xs.length * 2 → cur[j]? = (rcells xs)[j]? := fun j hj => by
      have e : (cur.toList.take (xs.length * 2))[j]? = (rcells xs)[j]? := by rw [ht]
      rw [List.getElem?_take_of_lt (by omega)] at e
      simpa using e
    constructor
    · rw [cell_of_row _ _ _ _ _ _ hg, at' _ (by omega), e1]
    · rw [cell_of_row _ _ _ _ _ _ hg, at' _ (by omega), e2]
/-- One cell of it set. -/
theorem ROwn.set1 {w : World} {base g n cap : Nat} {xs : List (Nat × Nat)} (h : ROwn w base (.slice (some ⟨g, 0, none⟩) n cap) xs) (i m : Nat) (hi : i < xs.length) : ROwn (w.setCell ⟨g, i * 2 + 1, none⟩ (.int .i64 (m : Int))) base (.slice (some ⟨g, 0, none⟩) n cap) (xs.set i (xs[i].1, m)) := by
  obtain ⟨h1, h2⟩ := h
  refine ⟨by rw [rcells_len, List.length_set], ?_⟩
  rcases h2 with ⟨e, _⟩ | ⟨g', cap', cur, e, hb, hg, hn, hm, hs, ht⟩
  · cases e
  · cases e
    refine .inr ⟨g, cap, _, by rw [List.length_set], hb, heap_setCell_same w g (i * 2 + 1) cur _ _ hg, by rw [List.length_set]; exact hn, hm, by simpa using hs, ?_⟩
    rw [← rcells_set1 xs i m hi, ← ht, List.length_set, Array.toList_setIfInBounds, List.take_set]
theorem wpList_append_run {ops : Array Oper} {rest : List Oper} {o : Oper} {a : Act} {w : World} {Q : Exit → Act → World → Prop} (hgd : o.guard = none) (s x : Operand)
    (hop : o.op = Op.call { callee := Callee.builtin Builtin.append, args := #[s, x], argTypes := #[28, 28] }) (base : Nat) (v : Value) (xs : List (Nat × Nat)) (hs : a.eval s = v) (hown : ROwn w base v xs) (hb : base ≤ w.heap.size) (hl : xs.length ≤ 65536) (ad : Addr) (c : Nat) (y : Nat × Nat)
    (hx : a.eval x = .slice (some ad) 1 c) (hc : ∀ j u, ([.int .i64 (y.1 : Int), .int .i64 (y.2 : Int)] : List Value)[j]? = some u → w.cell? (ad.add j) = some u)
    (hK : ∀ v' w', ROwn w' base v' (xs ++ [y]) → w.grownBy w' v.ownBlock → wpList Try.prog ops Q rest (a.put o.dst v') w') :
    wpList Try.prog ops Q (o :: rest) a w := by
  obtain ⟨i0, hi, hz0, hz1, hz2⟩ := info_parts Try.infoRun3
  have h1c : ∀ u ∈ ([.int .i64 (y.1 : Int), .int .i64 (y.2 : Int)] : List Value), u.oneCell' = true := by
    have := rcells_one [y]
    simpa [rcells] using this
  refine wpList_append_own w hgd s x 28 hop base 36 i0 (.agg #[.int .i64 0, .int .i64 0]) 2 16 Try.underlying28 hi hz0 hz1 hz2 rfl (by decide) v xs.length (rcells xs) hs hown ad 1 c _ hx rfl hc h1c (by unfold maxLen; omega) (by omega) hb ?_
  intro v' w' ho' hgr _
  refine hK v' w' ?_ hgr
  unfold ROwn
  rw [rcells_snoc, List.length_append]
  exact ho'
theorem one_cells (w : World) (x1 x2 : Int) : ∀ j u, ([.int .i64 x1, .int .i64 x2] : List Value)[j]? = some u → (w.alloc (.cells #[.int .i64 x1, .int .i64 x2] 36)).cell? ((⟨w.heap.size, 0, none⟩ : Addr).add j) = some u := by
  intro j u hj
  rw [addr_add, cell_of_row _ _ _ _ _ _ (heap_alloc_new _ _)]
  rw [Nat.zero_add, ← hj]
  simp

theorem one_cells' (w : World) (x1 x2 : Int) : ∀ j u, ([.int .i64 x1, .int .i64 x2] : List Value)[j]? = some u → (w.alloc (.cells #[.int .i64 x1, .int .i64 x2] 36)).cell? ⟨w.heap.size, j, none⟩ = some u := fun j u hj => by
  have := one_cells w x1 x2 j u hj
  rw [addr_add, Nat.zero_add] at this
  exact this

theorem ROwn.at_last {w : World} {base : Nat} {v : Value} {Z : List (Nat × Nat)} {z : Nat × Nat} (h : ROwn w base v (Z ++ [z])) : ∃ g cap, v = .slice (some ⟨g, 0, none⟩) (Z.length + 1) cap ∧ base ≤ g ∧ g < w.heap.size ∧ Z.length + 1 ≤ cap ∧ cap ≤ 9223372036854775807 ∧ w.cell? ⟨g, Z.length * 2, none⟩ = some (.int .i64 (z.1 : Int)) ∧ w.cell? ⟨g, Z.length * 2 + 1, none⟩ = some (.int .i64 (z.2 : Int)) ∧ (∀ i, w.frozen? ⟨g, i, none⟩ = false) := by
  obtain ⟨ao, cap, e, h1, h2, h4⟩ := h.form
  obtain ⟨g, e2, hb, hl, hc⟩ := h4 (by simp)
  subst e2
  obtain ⟨c0, c1⟩ := hc Z.length (by simp)
  simp only [List.getElem_append_right (Nat.le_refl _), Nat.sub_self, List.getElem_singleton] at c0 c1
  simp only [List.length_append, List.length_singleton] at e h1
  subst e
  obtain ⟨_, cur, hcur⟩ := h.row (q := g) rfl
  exact ⟨g, cap, rfl, hb, hl, h1, h2, c0, c1, fun i => by simp [World.frozen?, hcur]⟩

theorem canon_take (l : List Nat) (k : Nat) (h : k < l.length) : canon (l.take (k + 1)) = jstep (canon (l.take k)) (l[k], 1) := by rw [List.take_succ_eq_append_getElem h, canon_snoc]
set_option maxRecDepth 20000 in
set_option maxHeartbeats 2000000 in
theorem Whole_any (w : World) (v : Value) (l : List Nat) (hv : Nr w v l) (hl : low l) (hln : l.length ≤ 10000) :
    Calls Try.prog 28 #[v] w fun e w' => ∃ u, e = .returned u ∧ ROwn w' w.heap.size u (canon l) ∧ w.grownBy w' none := by
  have HV := hide hv
  obtain ⟨ao, cap, rfl, hu1, hu2, _⟩ := hv
  obtain ⟨n, hn⟩ : ∃ n, n = l.length := ⟨_, rfl⟩
  rw [← hn] at hu1 HV hln ⊢
  have HN := hide hn
  have hni : (n : Int) ≤ 10000 := by omega
  clear hn
  go_enter Try.func28, Try.ntmps28
  go_wp2
  go_loopw [3, 4] (fun a i wr => ∃ (k : Nat), i = .int .i64 (k : Int) ∧ k ≤ n ∧ ROwn wr w.heap.size a (canon (l.take k)) ∧ w.grownBy wr none) (fun _ i _ => n - (intOf i).toNat)
  case atStart => exact ⟨0, rfl, by omega, by simpa [canon] using ROwn.nil w w.heap.size, World.grownBy.refl _ _⟩
  case round =>
    obtain ⟨k, rfl, hk, ho, hg⟩ := hrel
    by_cases hlt : k < n
    · have hlt' : (k : Int) < (n : Int) := by omega
      have hkl : k < l.length := by rw [← unhide HN]; exact hlt
      obtain ⟨pb, off, hao, hpb, hc⟩ : ∃ pb off, ao = some ⟨pb, off, none⟩ ∧ pb < wr.heap.size ∧ ∀ i, (h : i < l.length) → wr.cell? ⟨pb, off + i, none⟩ = some (.int .i64 (l[i] : Int)) := by
        obtain ⟨ao', cap', e, _, _, h4⟩ := (unhide HV).kept hg
        injection e with e1 e2 e3
        subst e1
        exact h4 (by omega)
      subst hao
      have c0 := hc k hkl
      have hy := hl l[k] (List.getElem_mem hkl)
      have HJ := hide (canon_take l k hkl)
      have hpre : low (l.take k) := low_take hl k
      have HNm := hide (norm_canon (l.take k))
      have HLw := hide (low_canon hpre)
      have hJl : (canon (l.take k)).length ≤ 20000 := by
        have h1 := canon_len (l.take k)
        have h2 : (l.take k).length ≤ k := by rw [List.length_take]; omega
        omega
      clear hpre
      obtain ⟨J, hJ⟩ : ∃ J, J = canon (l.take k) := ⟨_, rfl⟩
      rw [← hJ] at ho HJ HNm HLw hJl
      obtain ⟨y1, hyk⟩ : ∃ y, y = l[k] := ⟨_, rfl⟩
      rw [← hyk] at c0 hy HJ
      have hyi2 : (y1 : Int) < 512 := by omega
      clear hc hJ hyk hlt
      have HG := hide hg
      have HO := hide ho
      have HSz := hide hg.size
      clear hg ho
      rcases list_snoc J with hJ0 | ⟨Z, z, hJZ⟩
      · subst hJ0
        obtain ⟨ao5, cap5, hu5, _, _, _⟩ := (unhide HO).form
        subst hu5
        simp only [List.length_nil] at HO ⊢
        have hd : decide ((0 : Int) ≤ -1) = false := by decide
        go_wp2_with fail
        go_quiet (fail)
        go_wp2_with (at_builtin; refine wpList_append_run rfl (.tmp 43) (.tmp 49) rfl w.heap.size _ [] rfl ?ho ?hb ?hl ⟨_, 0, none⟩ 1 (y1, 1) rfl ?hc ?_)
        case ho => exact (unhide HO).grown ((grown_drewN' (World.grownBy.refl _ _) _).trans (World.grownBy_alloc _ _ _))
        case hb => have := unhide HSz; simp; omega
        case hl => simp
        case hc => exact one_cells' _ _ _
        intro v' w2 o2 g2
        have o1 : ROwn ((wr.drewN nq).alloc (.cells #[.int .i64 (y1 : Int), .int .i64 1] 36)) w.heap.size (.slice ao5 0 cap5) [] := (unhide HO).grown ((grown_drewN' (World.grownBy.refl _ _) _).trans (World.grownBy_alloc _ _ _))
        have g1 : w.grownBy ((wr.drewN nq).alloc (.cells #[.int .i64 (y1 : Int), .int .i64 1] 36)) none := (grown_drewN' (unhide HG) _).trans (World.grownBy_alloc _ _ _)
        have G2 : Hid (w.grownBy w2 none) := hide (own_step' g1 o1 g2)
        have O2 : Hid (ROwn w2 w.heap.size v' (canon (l.take (k + 1)))) := hide (by rw [unhide HJ]; exact o2)
        clear o1 g1 o2 g2 HO HG
        go_wp2
        go_roundw
        case rel => exact ⟨k + 1, rfl, by omega, unhide O2, unhide G2⟩
        case measure => simp [intOf]; omega
      · subst hJZ
        have hz := unhide HLw z (by simp)
        obtain ⟨g5, cap5, hu5, hb5, hl5, hcp5, hcq5, d0, d1, hfz⟩ := (unhide HO).at_last
        subst hu5
        obtain ⟨z1, z2⟩ := z
        simp only at hz d0 d1
        obtain ⟨hz2, hz1⟩ := hz
        have hqn : Z.length ≤ 20000 := by simp at hJl; omega
        obtain ⟨q, hq⟩ : ∃ q, q = Z.length := ⟨_, rfl⟩
        rw [← hq] at d0 d1 hcp5 HO hqn ⊢
        have HQ := hide hq
        clear hq
        have hqi : (q : Int) ≤ 20000 := by omega
        have hzi : (z1 : Int) + (z2 : Int) ≤ 512 := by omega
        have hzj : (0 : Int) < (z2 : Int) := by omega
        have hd : decide ((0 : Int) ≤ (q : Int)) = true := decide_eq_true (by omega)
        go_wp2_with fail
        by_cases hj : (z1 : Int) + (z2 : Int) = (y1 : Int)
        · have hj' : ((z1 : Int) + (z2 : Int) == (y1 : Int)) = true := beq_iff_eq.2 hj
          have HJ2 : Hid (canon (l.take (k + 1)) = (Z ++ [(z1, z2)]).set q (z1, z2 + 1)) := hide (by
            rw [unhide HJ, show y1 = z1 + z2 by omega, jstep_join, unhide HQ]
            simp)
          have HO2 : Hid (ROwn (wr.setCell ⟨g5, q * 2 + 1, none⟩ (.int .i64 ((z2 : Int) + 1))) w.heap.size (.slice (some ⟨g5, 0, none⟩) (q + 1) cap5) (canon (l.take (k + 1)))) := hide (by
            have h := (unhide HO).set1 q (z2 + 1) (by rw [unhide HQ]; simp)
            have e : (Z ++ [(z1, z2)])[q]'(by rw [unhide HQ]; simp) = (z1, z2) := by simp [unhide HQ]
            rw [e] at h
            rw [unhide HJ2]
            exact h)
          have HG2 : Hid (w.grownBy (wr.setCell ⟨g5, q * 2 + 1, none⟩ (.int .i64 ((z2 : Int) + 1))) none) := hide (own_stepW (unhide HG) hb5 (setCell_grown _ _ _ _))
          clear HJ2 HO HG HJ
          go_quiet (fail)
          go_wp2
          go_roundw
          case rel => exact ⟨k + 1, rfl, by omega, unhide HO2, ⟨(unhide HG2).os, (unhide HG2).tape, (unhide HG2).output, (unhide HG2).size, (unhide HG2).block⟩⟩
          case measure => simp [intOf]; omega
        · have hj' : ((z1 : Int) + (z2 : Int) == (y1 : Int)) = false := beq_eq_false_iff_ne.2 hj
          have HJ2 : Hid (canon (l.take (k + 1)) = Z ++ [(z1, z2)] ++ [(y1, 1)]) := hide (by
            rw [unhide HJ]
            exact jstep_not _ _ _ (by simp only; omega))
          clear HJ
          go_quiet (fail)
          go_wp2_with (at_builtin; refine wpList_append_run rfl (.tmp 43) (.tmp 49) rfl w.heap.size _ (Z ++ [(z1, z2)]) rfl ?ho ?hb ?hl ⟨_, 0, none⟩ 1 (y1, 1) rfl ?hc ?_)
          case ho => exact (unhide HO).grown ((grown_drewN' (World.grownBy.refl _ _) _).trans (World.grownBy_alloc _ _ _))
          case hb => have := unhide HSz; simp; omega
          case hl => have := unhide HQ; simp; omega
          case hc => exact one_cells' _ _ _
          intro v' w2 o2 g2
          have o1 : ROwn ((wr.drewN nq).alloc (.cells #[.int .i64 (y1 : Int), .int .i64 1] 36)) w.heap.size (.slice (some ⟨g5, 0, none⟩) (q + 1) cap5) (Z ++ [(z1, z2)]) := (unhide HO).grown ((grown_drewN' (World.grownBy.refl _ _) _).trans (World.grownBy_alloc _ _ _))
          have g1 : w.grownBy ((wr.drewN nq).alloc (.cells #[.int .i64 (y1 : Int), .int .i64 1] 36)) none := (grown_drewN' (unhide HG) _).trans (World.grownBy_alloc _ _ _)
          have G2 : Hid (w.grownBy w2 none) := hide (own_step' g1 o1 g2)
          have O2 : Hid (ROwn w2 w.heap.size v' (canon (l.take (k + 1)))) := hide (by rw [unhide HJ2, List.append_assoc]; exact o2)
          clear o1 g1 o2 g2 HO HG d0 d1 hfz
          go_wp2
          go_roundw
          case rel => exact ⟨k + 1, rfl, by omega, unhide O2, unhide G2⟩
          case measure => simp [intOf]; omega
    · have hlt' : ¬ (k : Int) < (n : Int) := by omega
      have HO : Hid (ROwn wr w.heap.size u3 (canon l)) := hide (by
        rw [List.take_of_length_le (by have := unhide HN; omega)] at ho
        exact ho)
      have HG := hide hg
      clear ho hg
      go_wp2
      go_ret
      exact ⟨_, rfl, unhide HO, unhide HG⟩
end Go.Proofs.Ytgdplmbchoogiaa

/-
  DERIVED. The document's map in memory: two slices of bools. may, Free, All.
-/
namespace Go.Proofs.Ytgdplmbchoogiaa
open Go.RowKit
set_option linter.unusedVariables false

def bvl (f : Nat → Bool) (B : Nat) : List Value := (List.range B).map fun j => Value.bool (f j)
theorem bvl_len (f : Nat → Bool) (B : Nat) : (bvl f B).length = B := by simp [bvl]
theorem bvl_at (f : Nat → Bool) {B j : Nat} (h : j < B) : (bvl f B)[j]? = some (Value.bool (f j)) := by simp [bvl, h]
/-- A slice of bools of one's own. -/
def BOwn (w : World) (base : Nat) (v : Value) (f : Nat → Bool) (B : Nat) : Prop := w.ownsRow base 4 1 v B (bvl f B)
theorem BOwn.kept {W W' : World} {base B : Nat} {v : Value} {f : Nat → Bool} {row : Option Nat} (h : BOwn W base v f B) (hg : W.grownBy W' row) (hne : ∀ q, v.ownBlock = some q → some q ≠ row) : BOwn W' base v f B := by
  obtain ⟨h1, h2⟩ := h
  refine ⟨h1, ?_⟩
  rcases h2 with h2 | ⟨g, cap, cur, rfl, hb, hgb, r⟩
  · exact .inl h2
  · exact .inr ⟨g, cap, cur, rfl, hb, (hg.block g (lt_of_block hgb) (hne g rfl)).trans hgb, r⟩
theorem BOwn.form {w : World} {base B : Nat} {v : Value} {f : Nat → Bool} (h : BOwn w base v f B) : ∃ ao cap, v = .slice ao B cap ∧ B ≤ cap ∧ cap ≤ 9223372036854775807 ∧ (B ≠ 0 → ∃ g, ao = some ⟨g, 0, none⟩ ∧ base ≤ g ∧ g < w.heap.size ∧ (∀ i, w.frozen? ⟨g, i, none⟩ = false) ∧ ∀ i, i < B → w.cell? ⟨g, i, none⟩ = some (.bool (f i))) := by
  rcases h.2 with ⟨rfl, h0⟩ | ⟨g, cap, cur, rfl, hb, hg, hn, hm, hs, ht⟩
  · exact ⟨none, 0, by rw [h0], by omega, by omega, fun h => absurd h0 h⟩
  · refine ⟨some ⟨g, 0, none⟩, cap, rfl, hn, by unfold maxLen at hm; omega, fun _ => ⟨g, rfl, hb, lt_of_block hg, fun i => by simp [World.frozen?, hg], fun i hi => ?_⟩⟩
    have e : (cur.toList.take (B * 1))[i]? = (bvl f B)[i]? := by rw [ht]
    rw [List.getElem?_take_of_lt (by omega), bvl_at f hi] at e
    rw [cell_of_row _ _ _ _ _ _ hg]
    simpa using e

/-- The document's map at block b: B blocks, U in use, V at the last Commit. -/
structure RmAt (w : World) (N b B : Nat) (v1 v2 : Value) (U V : Nat → Bool) : Prop where
  blk : w.heap[b]? = some (.cells #[v1, v2] 55 (0, 0))
  now : BOwn w N v1 U B
  last : BOwn w N v2 V B
  le : B ≤ 512
  base : N ≤ b
  apart : ∀ q, v1.ownBlock = some q → v2.ownBlock ≠ some q
theorem RmAt.lt {w : World} {N b B : Nat} {v1 v2 : Value} {U V : Nat → Bool} (h : RmAt w N b B v1 v2 U V) : b < w.heap.size := lt_of_block h.blk
theorem RmAt.c0 {w : World} {N b B : Nat} {v1 v2 : Value} {U V : Nat → Bool} (h : RmAt w N b B v1 v2 U V) : w.cell? ⟨b, 0, none⟩ = some v1 := (cell_of_row _ _ _ _ _ _ h.blk).trans rfl
theorem RmAt.c1 {w : World} {N b B : Nat} {v1 v2 : Value} {U V : Nat → Bool} (h : RmAt w N b B v1 v2 U V) : w.cell? ⟨b, 1, none⟩ = some v2 := (cell_of_row _ _ _ _ _ _ h.blk).trans rfl
theorem RmAt.grown {w w' : World} {N b B : Nat} {v1 v2 : Value} {U V : Nat → Bool} (h : RmAt w N b B v1 v2 U V) (hg : w.grownBy w' none) : RmAt w' N b B v1 v2 U V := ⟨(hg.block b h.lt (by simp)).trans h.blk, h.now.kept hg (fun _ _ e => by cases e), h.last.kept hg (fun _ _ e => by cases e), h.le, h.base, h.apart⟩

theorem rmay_any (w : World) (N b B n : Nat) (v1 v2 : Value) (U V : Nat → Bool) (h : RmAt w N b B v1 v2 U V) (hn : n < B) :
    Calls Try.prog 27 #[.pointer (some ⟨b, 0, none⟩), .int .i64 (n : Int)] w fun e w' => e = .returned (.bool (may U V n)) ∧ w' = w := by
  have c0 := h.c0
  have c1 := h.c1
  obtain ⟨o1, p1, rfl, h1, h2, h4⟩ := h.now.form
  obtain ⟨o2, p2, rfl, k1, k2, k4⟩ := h.last.form
  obtain ⟨g1, rfl, _, _, _, d1⟩ := h4 (by omega)
  obtain ⟨g2, rfl, _, _, _, d2⟩ := k4 (by omega)
  have e1 := d1 n hn
  have e2 := d2 n hn
  have hle := h.le
  have hni : (n : Int) < (B : Int) := by omega
  clear h h4 k4 d1 d2
  unfold may
  cases hU : U n with
  | true =>
    rw [hU] at e1
    clear hU
    go_enter Try.func27, Try.ntmps27
    go_wp2
    go_ret
    exact ⟨rfl, rfl⟩
  | false =>
    rw [hU] at e1
    clear hU
    go_enter Try.func27, Try.ntmps27
    go_wp2
    go_ret
    exact ⟨by simp, rfl⟩

theorem filter_range_succ (f : Nat → Bool) (k : Nat) : (List.range' 0 (k + 1)).filter f = (List.range' 0 k).filter f ++ (if f k = true then [k] else []) := by
  rw [List.range'_concat, List.filter_append]
  simp only [Nat.zero_add, Nat.one_mul]
  cases h : f k <;> simp [h]
theorem filter_len_le (f : Nat → Bool) (k : Nat) : ((List.range' 0 k).filter f).length ≤ k := by
  have := List.length_filter_le f (List.range' 0 k)
  simpa using this

set_option maxHeartbeats 2000000 in
theorem rAll_any (w : World) (N b B : Nat) (v1 v2 : Value) (U V : Nat → Bool) (h : RmAt w N b B v1 v2 U V) :
    Calls Try.prog 30 #[.pointer (some ⟨b, 0, none⟩)] w fun e w' => ∃ u, e = .returned u ∧ ROwn w' w.heap.size u (runsOf B U V) ∧ w.grownBy w' none := by
  have HM := hide h
  have hle := h.le
  have hBI : (B : Int) ≤ 512 := by omega
  obtain ⟨o1, p1, hv1, q1, q2, _⟩ := h.now.form
  subst hv1
  clear h
  go_enter Try.func30, Try.ntmps30
  go_wp2
  go_loopw [3, 4] (fun a i wr => ∃ k : Nat, i = .int .i64 (k : Int) ∧ k ≤ B ∧ NOwn wr w.heap.size a ((List.range' 0 k).filter (may U V)) ∧ w.grownBy wr none) (fun _ i _ => B - (intOf i).toNat)
  case atStart => exact ⟨0, rfl, by omega, by simpa using NOwn.nil w w.heap.size, World.grownBy.refl _ _⟩
  case round =>
    obtain ⟨k, rfl, hk, hN, hG⟩ := hrel
    have HN := hide hN
    have HG := hide hG
    have M2 := hide ((unhide HM).grown hG)
    have c0 := (unhide M2).c0
    clear hN hG
    have HFs := hide (filter_range_succ (may U V) k)
    by_cases hlt : k < B
    · have hlt' : (k : Int) < (B : Int) := by omega
      go_wp2_with fail
      refine (rmay_any wr N b B k _ v2 U V (unhide M2) hlt).mono ?_
      rintro e wr' ⟨rfl, rfl⟩
      cases hm : may U V k with
      | true =>
        rw [hm, if_pos rfl] at HFs
        have hll : ((List.range' 0 k).filter (may U V)).length ≤ 65536 := by have := filter_len_le (may U V) k; omega
        clear hm
        go_wp2_with (at_builtin; refine wpList_append_int rfl (.tmp 19) (.tmp 21) rfl w.heap.size _ ((List.range' 0 k).filter (may U V)) rfl ?ho ?hb hll ⟨_, 0, none⟩ 1 k rfl ?hc ?_)
        case ho => exact (unhide HN).grown (World.grownBy_alloc _ _ _)
        case hb => have := (unhide HG).size; simp; omega
        case hc => exact (cell_of_row _ _ _ _ _ _ (heap_alloc_new _ _)).trans rfl
        intro v5 w5 o5 g5
        have N5 : Hid (NOwn w5 w.heap.size v5 ((List.range' 0 (k + 1)).filter (may U V))) := hide (by rw [unhide HFs]; exact o5)
        have G5 : Hid (w.grownBy w5 none) := hide (((unhide HG).trans (World.grownBy_alloc _ _ _)).andThen g5 (fun z e => .inl ((unhide HN).row e).1))
        clear o5 g5 HN HG M2 c0
        go_wp2
        go_roundw
        case rel => exact ⟨k + 1, rfl, by omega, unhide N5, unhide G5⟩
        case measure => simp [intOf]; omega
      | false =>
        rw [hm, if_neg (by simp), List.append_nil] at HFs
        have N5 : Hid (NOwn wr' w.heap.size u3 ((List.range' 0 (k + 1)).filter (may U V))) := hide (by rw [unhide HFs]; exact unhide HN)
        clear hm
        go_wp2
        go_roundw
        case rel => exact ⟨k + 1, rfl, by omega, unhide N5, unhide HG⟩
        case measure => simp [intOf]; omega
    · have hlt' : ¬ (k : Int) < (B : Int) := by omega
      have hkB : k = B := by omega
      have N5 : Hid (NOwn wr w.heap.size u3 ((List.range' 0 B).filter (may U V))) := hide (by rw [← hkB]; exact unhide HN)
      clear hkB HN
      go_wp2_with fail
      refine (Whole_any wr u3 _ (unhide N5).nr (fun x hx => by
        have h1 := (List.mem_filter.1 hx).1
        rw [List.mem_range'] at h1
        obtain ⟨i, hi, rfl⟩ := h1
        omega) (by have := filter_len_le (may U V) B; omega)).mono ?_
      rintro e w6 ⟨u6, rfl, o6, g6⟩
      rw [canon_free] at o6
      have O6 : Hid (ROwn w6 w.heap.size u6 (runsOf B U V)) := hide (by
        obtain ⟨h1, h2⟩ := o6
        refine ⟨h1, ?_⟩
        have hsz := (unhide HG).size
        rcases h2 with h2 | ⟨g, cap, cur, a, b', c⟩
        · exact .inl h2
        · exact .inr ⟨g, cap, cur, a, by omega, c⟩)
      have G6 : Hid (w.grownBy w6 none) := hide ((unhide HG).trans g6)
      clear o6 g6 HG M2 c0
      go_wp2
      go_ret
      exact ⟨_, rfl, unhide O6, unhide G6⟩
end Go.Proofs.Ytgdplmbchoogiaa

/-
  DERIVED. The document's map: Free, New, Commit, Reset.
-/
namespace Go.Proofs.Ytgdplmbchoogiaa
open Go.RowKit
set_option linter.unusedVariables false

theorem BOwn.row {W : World} {base B : Nat} {v : Value} {f : Nat → Bool} (h : BOwn W base v f B) {q : Nat} (hq : v.ownBlock = some q) : base ≤ q ∧ ∃ cur, W.heap[q]? = some (.cells cur 4 (0, 0)) := by
  rcases h.2 with ⟨rfl, _⟩ | ⟨g, cap, cur, rfl, hb, hg, r⟩
  · cases hq
  · cases hq; exact ⟨hb, cur, hg⟩
/-- A block that is neither a map's nor a row of bools: the document's map is kept where it turns. -/
theorem RmAt.kept {w w' : World} {N b B : Nat} {v1 v2 : Value} {U V : Nat → Bool} (h : RmAt w N b B v1 v2 U V) {q : Nat} {C : Array Value} {t : TypeId} {fr : Nat × Nat} (hg : w.grownBy w' (some q)) (hq : w.heap[q]? = some (.cells C t fr)) (h1 : t ≠ 55) (h2 : t ≠ 4) : RmAt w' N b B v1 v2 U V := by
  have hne : ∀ v z f, BOwn w N v f B → v.ownBlock = some z → some z ≠ some q := by
    intro v z f ho hz e
    cases e
    obtain ⟨_, cur, hc⟩ := ho.row hz
    rw [hc] at hq
    cases hq
    exact h2 rfl
  refine ⟨(hg.block b h.lt (fun e => ?_)).trans h.blk, h.now.kept hg (fun z hz => hne _ z _ h.now hz), h.last.kept hg (fun z hz => hne _ z _ h.last hz), h.le, h.base, h.apart⟩
  cases e
  rw [h.blk] at hq
  cases hq
  exact h1 rfl

set_option maxHeartbeats 2000000 in
theorem rFree_any (w : World) (N b B : Nat) (v1 v2 : Value) (U V : Nat → Bool) (h : RmAt w N b B v1 v2 U V) :
    Calls Try.prog 26 #[.pointer (some ⟨b, 0, none⟩)] w fun e w' => e = .returned (.int .i64 (total (runsOf B U V) : Int)) ∧ w' = w := by
  have HM := hide h
  have hle := h.le
  have hBI : (B : Int) ≤ 512 := by omega
  have c0 := h.c0
  obtain ⟨o1, p1, hv1, q1, q2, _⟩ := h.now.form
  subst hv1
  have HT : Hid (total (runsOf B U V) = ((List.range' 0 B).filter (may U V)).length) := hide (by rw [total_blocks]; unfold runsOf; rw [blocks_runsF])
  clear h
  go_enter Try.func26, Try.ntmps26
  go_wp2
  go_loopw [3, 4] (fun a i wr => ∃ k c : Nat, i = .int .i64 (k : Int) ∧ k ≤ B ∧ c ≤ k ∧ a = .int .i64 (c : Int) ∧ Hid (c = ((List.range' 0 k).filter (may U V)).length) ∧ wr = w) (fun _ i _ => B - (intOf i).toNat)
  case atStart => exact ⟨0, 0, rfl, by omega, by omega, rfl, hide (by simp), rfl⟩
  case round =>
    obtain ⟨k, c, rfl, hk, hck, rfl, HC, rfl⟩ := hrel
    have HFs := hide (congrArg List.length (filter_range_succ (may U V) k))
    by_cases hlt : k < B
    · have hlt' : (k : Int) < (B : Int) := by omega
      go_wp2_with fail
      refine (rmay_any _ N b B k _ v2 U V (unhide HM) hlt).mono ?_
      rintro e wr' ⟨rfl, rfl⟩
      cases hm : may U V k with
      | true =>
        rw [hm, if_pos rfl] at HFs
        have HC2 : Hid (c + 1 = ((List.range' 0 (k + 1)).filter (may U V)).length) := hide (by rw [unhide HFs, List.length_append, ← unhide HC]; rfl)
        clear hm HFs HC
        go_wp2
        go_roundw
        case rel => exact ⟨k + 1, c + 1, rfl, by omega, by omega, rfl, HC2, trivial⟩
        case measure => simp [intOf]; omega
      | false =>
        rw [hm, if_neg (by simp), List.append_nil] at HFs
        have HC2 : Hid (c = ((List.range' 0 (k + 1)).filter (may U V)).length) := hide (by rw [unhide HFs]; exact unhide HC)
        clear hm HFs HC
        go_wp2
        go_roundw
        case rel => exact ⟨k + 1, c, rfl, by omega, by omega, rfl, HC2, trivial⟩
        case measure => simp [intOf]; omega
    · have hlt' : ¬ (k : Int) < (B : Int) := by omega
      have hkB : k = B := by omega
      have HE : Hid (total (runsOf B U V) = c) := hide (by rw [unhide HT, ← hkB]; exact (unhide HC).symm)
      clear hkB HC HFs
      go_wp2
      go_ret
      exact ⟨by simp [unhide HE], rfl⟩

theorem made_bvl (n : Nat) : madeCells #[Value.bool false] n = (bvl none? n).toArray := by
  apply Array.ext'
  rw [toList_madeCells_one]
  apply List.ext_getElem
  · simp [bvl]
  · intro i h1 h2; simp [bvl, none?]
theorem infoBoolR : (Try.prog.info? 4).map (fun i => (i.zero, i.size, i.bytes)) = some (some (.bool false), 1, 1) := by kernel_rfl
theorem run_make_bvl (w : World) (m : Nat) (hm : m ≤ 512) : (Instr.makeSlice 53 (.int .i64 (m : Int)) (.int .i64 (m : Int))).run Try.prog w = .ok (.slice (some ⟨w.heap.size, 0, none⟩) m m) (w.alloc (.cells (bvl none? m).toArray 4)) := by
  obtain ⟨i, hi, hh⟩ := Option.map_eq_some_iff.1 infoBoolR
  simp only [Prod.mk.injEq] at hh
  have h := run_make (P := Try.prog) w 53 4 i _ Try.underlying53 hi hh.1 .i64 .i64 m m (by omega) (Int.le_refl _) (by rw [hh.2.2]; omega) (by omega)
  rw [h, hh.2.1, Int.toNat_natCast, Nat.mul_one]
  show Result.ok _ (w.alloc (.cells (madeCells #[Value.bool false] m) 4)) = _
  rw [made_bvl]
theorem bown_new {w : World} {base g B : Nat} {f : Nat → Bool} (hg : w.heap[g]? = some (.cells (bvl f B).toArray 4)) (hb : base ≤ g) (hB : B ≤ 512) : BOwn w base (.slice (some ⟨g, 0, none⟩) B B) f B :=
  ⟨by simp [bvl], .inr ⟨g, B, _, rfl, hb, hg, Nat.le_refl _, by unfold maxLen; omega, by simp [bvl], by rw [Nat.mul_one]; exact List.take_of_length_le (by simp [bvl])⟩⟩
theorem run_build_rm (w : World) (o1 o2 : Option Addr) (n1 n2 c1 c2 : Nat) : (Instr.build 55 #[(0, .slice o1 n1 c1), (1, .slice o2 n2 c2)]).run Try.prog w = .ok (.agg #[.slice o1 n1 c1, .slice o2 n2 c2]) w := by kernel_rfl

theorem rm_made (w : World) (B g1 g2 : Nat) (hB : B ≤ 512) (hg : (g1 = w.heap.size ∧ g2 = w.heap.size + 1) ∨ (g1 = w.heap.size + 1 ∧ g2 = w.heap.size)) (X : World)
    (hX : X = (((w.alloc (.cells (bvl none? B).toArray 4)).alloc (.cells (bvl none? B).toArray 4)).alloc (.cells #[.slice (some ⟨g1, 0, none⟩) B B, .slice (some ⟨g2, 0, none⟩) B B] 55)).drew) :
    RmAt X w.heap.size (w.heap.size + 1 + 1) B (.slice (some ⟨g1, 0, none⟩) B B) (.slice (some ⟨g2, 0, none⟩) B B) none? none? ∧ w.grownBy X none := by
  obtain ⟨o, ho⟩ : ∃ o, o = Obj.cells (bvl none? B).toArray 4 := ⟨_, rfl⟩
  rw [← ho] at hX
  obtain ⟨p, hp⟩ : ∃ p, p = Obj.cells #[.slice (some ⟨g1, 0, none⟩) B B, .slice (some ⟨g2, 0, none⟩) B B] 55 := ⟨_, rfl⟩
  rw [← hp] at hX
  have e0 : X.heap[w.heap.size]? = some o := by
    subst hX
    show (((w.alloc o).alloc o).alloc p).heap[w.heap.size]? = _
    rw [Below.heap_alloc _ _ _ (by simp; omega), Below.heap_alloc _ _ _ (by simp), heap_alloc_new]
  have e1 : X.heap[w.heap.size + 1]? = some o := by
    subst hX
    show (((w.alloc o).alloc o).alloc p).heap[w.heap.size + 1]? = _
    rw [Below.heap_alloc _ _ _ (by simp)]
    have := heap_alloc_new (w.alloc o) o
    rwa [World.size_alloc] at this
  have e2 : X.heap[w.heap.size + 1 + 1]? = some p := by
    subst hX
    show (((w.alloc o).alloc o).alloc p).heap[w.heap.size + 1 + 1]? = _
    have := heap_alloc_new ((w.alloc o).alloc o) p
    rwa [World.size_alloc, World.size_alloc] at this
  refine ⟨⟨?_, ?_, ?_, hB, by omega, ?_⟩, ?_⟩
  · rw [e2, hp]
  · refine bown_new ?_ (by omega) hB
    rcases hg with ⟨rfl, rfl⟩ | ⟨rfl, rfl⟩
    · rw [e0, ho]
    · rw [e1, ho]
  · refine bown_new ?_ (by omega) hB
    rcases hg with ⟨rfl, rfl⟩ | ⟨rfl, rfl⟩
    · rw [e1, ho]
    · rw [e0, ho]
  · intro q hq e
    have hq : g1 = q := Option.some.inj hq
    have e : g2 = q := Option.some.inj e
    omega
  · subst hX
    exact ((World.grownBy_alloc _ _ none).trans ((World.grownBy_alloc _ _ none).trans (World.grownBy_alloc _ _ none))).trans ⟨rfl, rfl, rfl, Nat.le_refl _, fun _ _ _ => rfl⟩

set_option maxHeartbeats 2000000 in
theorem rNew_any (B : Nat) (w : World) (hB : B ≤ 512) :
    Calls Try.prog 7 #[.int .i64 (B : Int)] w fun e w' => ∃ b v1 v2, e = .returned (.pointer (some ⟨b, 0, none⟩)) ∧ RmAt w' w.heap.size b B v1 v2 none? none? ∧ w.grownBy w' none := by
  have hb1 : ¬ (B : Int) < 0 := by omega
  have hb2 : ¬ (512 : Int) < (B : Int) := by omega
  go_enter Try.func7, Try.ntmps7
  have mk := fun (w' : World) => run_make_bvl w' B hB
  go_wp2
  go_region
  · go_wp2
    go_ret
    obtain ⟨h1, h2⟩ := rm_made w B w.heap.size (w.heap.size + 1) hB (.inl ⟨rfl, rfl⟩) _ rfl
    exact ⟨_, _, _, rfl, h1, h2⟩
  · go_wp2
    go_ret
    obtain ⟨h1, h2⟩ := rm_made w B (w.heap.size + 1) w.heap.size hB (.inr ⟨rfl, rfl⟩) _ rfl
    exact ⟨_, _, _, rfl, h1, h2⟩

/-- A row of bools that is copied behind nothing. -/
theorem wpList_append_bools {w : World} {ops : Array Oper} {rest : List Oper} {o : Oper} {a : Act} {Q : Exit → Act → World → Prop} (hgd : o.guard = none) (s x : Operand)
    (ho : o.op = .call { callee := .builtin .append, args := #[s, x], argTypes := #[53, 53] })
    (base : Nat) (v : Value) (hs : a.eval s = v) (hown : w.ownsRow base 4 1 v 0 [])
    (y : Value) (N B : Nat) (f : Nat → Bool) (hx : a.eval x = y) (hy : BOwn w N y f B) (hlen : B ≤ 512) (hbase : base ≤ w.heap.size)
    (h : ∀ v' w', BOwn w' base v' f B → w.grownBy w' v.ownBlock → wpList Try.prog ops Q rest (a.put o.dst v') w') : wpList Try.prog ops Q (o :: rest) a w := by
  obtain ⟨i0, hi, hz0, hz1, hz2⟩ := info_parts infoBoolR
  obtain ⟨ao, cap, rfl, h1, h2, h4⟩ := hy.form
  cases ao with
  | none =>
    have hB0 : B = 0 := Decidable.byContradiction fun hne => by obtain ⟨_, e, _⟩ := h4 hne; cases e
    subst hB0
    have hc0 : cap = 0 := by
      rcases hy.2 with ⟨e, _⟩ | ⟨g, cap', cur, e, _⟩
      · injection e
      · cases e
    subst hc0
    refine wpList_append_own_none hgd s x 53 ho base 4 i0 1 Try.underlying53 hi v 0 [] hs hown hx ?_
    exact h v w (by simpa [BOwn, bvl] using hown) (World.grownBy.refl _ _)
  | some ad =>
    refine wpList_append_own w hgd s x 53 ho base 4 i0 (.bool false) 1 1 Try.underlying53 hi hz0 hz1 hz2 rfl (by decide) v 0 [] hs hown ad B cap (bvl f B) hx (by simp [bvl]) ?_ ?_ (by unfold maxLen; omega) (by omega) hbase ?_
    · intro j u hj
      by_cases hjl : j < B
      · obtain ⟨g, e, _, _, _, hc⟩ := h4 (by omega)
        cases e
        rw [bvl_at f hjl] at hj
        cases hj
        rw [addr_add, Nat.zero_add]
        exact hc j hjl
      · rw [List.getElem?_eq_none (by rw [bvl_len]; omega)] at hj
        cases hj
    · intro u hu
      obtain ⟨z, _, rfl⟩ := List.mem_map.1 hu
      rfl
    · intro v' w' ho' hgr _
      refine h v' w' ?_ hgr
      unfold BOwn
      rw [List.nil_append, Nat.zero_add] at ho'
      exact ho'
theorem bools_empty (w : World) : (w.alloc (.cells #[] 4)).ownsRow w.heap.size 4 1 (.slice (some ⟨w.heap.size, 0, none⟩) 0 0) 0 [] := ⟨rfl, .inr ⟨w.heap.size, 0, #[], rfl, Nat.le_refl _, heap_alloc_new _ _, by simp, by unfold maxLen; omega, by simp, by simp⟩⟩

theorem gr_weak {w w' : World} (b : Nat) (h : w.grownBy w' none) : w.grownBy w' (some b) := by
  obtain ⟨h1, h2, h3, h4, h5⟩ := h
  exact ⟨h1, h2, h3, h4, fun k hk _ => h5 k hk (by simp)⟩
theorem BOwn.low {w : World} {base base' B : Nat} {v : Value} {f : Nat → Bool} (h : BOwn w base v f B) (hb : base' ≤ base) : BOwn w base' v f B := by
  obtain ⟨h1, h2⟩ := h
  refine ⟨h1, ?_⟩
  rcases h2 with h2 | ⟨g, cap, cur, e, hb', r⟩
  · exact .inl h2
  · exact .inr ⟨g, cap, cur, e, by omega, r⟩
theorem rm_storeCommit {w w0 : World} {N b B : Nat} {v1 v2 v' : Value} {U V : Nat → Bool} (h0 : RmAt w0 N b B v1 v2 U V) (h : RmAt w N b B v1 v2 U V) (ho : BOwn w w0.heap.size v' U B) (hN : N ≤ w0.heap.size) :
    RmAt (w.setCell ⟨b, 1, none⟩ v') N b B v1 v' U U ∧ w.grownBy (w.setCell ⟨b, 1, none⟩ v') (some b) := by
  have hg := setCell_grown w b 1 v'
  refine ⟨⟨?_, (h.now.kept hg (fun q hq e => by cases e; obtain ⟨_, cur, hc⟩ := h.now.row hq; rw [h.blk] at hc; cases hc)), ((BOwn.low ho hN).kept hg (fun q hq e => by cases e; obtain ⟨_, cur, hc⟩ := ho.row hq; rw [h.blk] at hc; cases hc)), h.le, h.base, fun q hq e => by
    obtain ⟨_, cur, hc⟩ := h0.now.row hq
    have h1 := lt_of_block hc
    have h2 := (ho.row e).1
    omega⟩, hg⟩
  rw [heap_setCell_same w b 1 _ _ _ h.blk]
  rfl
theorem rm_storeReset {w w0 : World} {N b B : Nat} {v1 v2 v' : Value} {U V : Nat → Bool} (h0 : RmAt w0 N b B v1 v2 U V) (h : RmAt w N b B v1 v2 U V) (ho : BOwn w w0.heap.size v' V B) (hN : N ≤ w0.heap.size) :
    RmAt (w.setCell ⟨b, 0, none⟩ v') N b B v' v2 V V ∧ w.grownBy (w.setCell ⟨b, 0, none⟩ v') (some b) := by
  have hg := setCell_grown w b 0 v'
  refine ⟨⟨?_, ((BOwn.low ho hN).kept hg (fun q hq e => by cases e; obtain ⟨_, cur, hc⟩ := ho.row hq; rw [h.blk] at hc; cases hc)), (h.last.kept hg (fun q hq e => by cases e; obtain ⟨_, cur, hc⟩ := h.last.row hq; rw [h.blk] at hc; cases hc)), h.le, h.base, fun q hq e => by
    obtain ⟨_, cur, hc⟩ := h0.last.row e
    have h1 := lt_of_block hc
    have h2 := (ho.row hq).1
    omega⟩, hg⟩
  rw [heap_setCell_same w b 0 _ _ _ h.blk]
  rfl
set_option maxHeartbeats 2000000 in
theorem rCommit_any (w : World) (N b B : Nat) (v1 v2 : Value) (U V : Nat → Bool) (h : RmAt w N b B v1 v2 U V) (hN : N ≤ w.heap.size) :
    Calls Try.prog 16 #[.pointer (some ⟨b, 0, none⟩)] w fun e w' => (∃ u, e = .returned u) ∧ ∃ v3, RmAt w' N b B v1 v3 U U ∧ w.grownBy w' (some b) := by
  have HM := hide h
  have hle := h.le
  obtain ⟨o1, p1, hv1, _⟩ := h.now.form
  obtain ⟨o2, p2, hv2, _⟩ := h.last.form
  subst hv1 hv2
  have c0 : (w.alloc (.cells #[] 4)).cell? ⟨b, 0, none⟩ = some (.slice o1 B p1) := (World.grownBy_alloc _ _ none).cell h.c0 (by simp)
  clear h
  go_enter Try.func16, Try.ntmps16
  go_wp2_with (at_builtin; refine wpList_append_bools rfl (.tmp 3) (.tmp 7) rfl w.heap.size _ rfl (bools_empty w) _ N B U rfl ?hy hle ?hbase ?_)
  case hy => exact (unhide HM).now.kept (World.grownBy_alloc _ _ none) (fun _ _ e => by cases e)
  case hbase => simp
  intro v' w' ho hg
  have hg0 : w.grownBy w' none := (World.grownBy_alloc w (.cells #[] 4) none).andThen hg (fun z e => .inl (by cases e; exact Nat.le_refl _))
  have M2 := (unhide HM).grown hg0
  have d1 := M2.c1
  have f1 : w'.frozen? ⟨b, 1, none⟩ = false := by simp [World.frozen?, M2.blk]
  have HS := hide (rm_storeCommit (unhide HM) M2 ho hN)
  have HG := hide hg0
  obtain ⟨o3, p3, hv3, _⟩ := ho.form
  subst hv3
  clear ho hg hg0 M2 c0
  go_wp2
  go_end0
  exact ⟨⟨_, rfl⟩, _, (unhide HS).1, (gr_weak b (unhide HG)).trans (unhide HS).2⟩
set_option maxHeartbeats 2000000 in
theorem rReset_any (w : World) (N b B : Nat) (v1 v2 : Value) (U V : Nat → Bool) (h : RmAt w N b B v1 v2 U V) (hN : N ≤ w.heap.size) :
    Calls Try.prog 18 #[.pointer (some ⟨b, 0, none⟩)] w fun e w' => (∃ u, e = .returned u) ∧ ∃ v3, RmAt w' N b B v3 v2 V V ∧ w.grownBy w' (some b) := by
  have HM := hide h
  have hle := h.le
  obtain ⟨o1, p1, hv1, _⟩ := h.now.form
  obtain ⟨o2, p2, hv2, _⟩ := h.last.form
  subst hv1 hv2
  have c0 : (w.alloc (.cells #[] 4)).cell? ⟨b, 1, none⟩ = some (.slice o2 B p2) := (World.grownBy_alloc _ _ none).cell h.c1 (by simp)
  clear h
  go_enter Try.func18, Try.ntmps18
  go_wp2_with (at_builtin; refine wpList_append_bools rfl (.tmp 3) (.tmp 7) rfl w.heap.size _ rfl (bools_empty w) _ N B V rfl ?hy hle ?hbase ?_)
  case hy => exact (unhide HM).last.kept (World.grownBy_alloc _ _ none) (fun _ _ e => by cases e)
  case hbase => simp
  intro v' w' ho hg
  have hg0 : w.grownBy w' none := (World.grownBy_alloc w (.cells #[] 4) none).andThen hg (fun z e => .inl (by cases e; exact Nat.le_refl _))
  have M2 := (unhide HM).grown hg0
  have d1 := M2.c0
  have f1 : w'.frozen? ⟨b, 0, none⟩ = false := by simp [World.frozen?, M2.blk]
  have HS := hide (rm_storeReset (unhide HM) M2 ho hN)
  have HG := hide hg0
  obtain ⟨o3, p3, hv3, _⟩ := ho.form
  subst hv3
  clear ho hg hg0 M2 c0
  go_wp2
  go_end0
  exact ⟨⟨_, rfl⟩, _, (unhide HS).1, (gr_weak b (unhide HG)).trans (unhide HS).2⟩
end Go.Proofs.Ytgdplmbchoogiaa

/-
  DERIVED. The document's map: Take.
-/
namespace Go.Proofs.Ytgdplmbchoogiaa
open Go.RowKit
set_option linter.unusedVariables false

theorem norm_cut : ∀ (X : List (Nat × Nat)) (n : Nat), Norm X → Norm (cut n X)
  | [], n, _ => trivial
  | [x], n, h => by
    simp only [cut]
    split
    · trivial
    · have : 0 < x.2 := h
      show 0 < min x.2 n
      omega
  | x :: y :: r, n, h => by
    have h0 := h.head
    have ih := norm_cut (y :: r) (n - min x.2 n) h.tail
    have h2 := h.2.1
    rw [cut]
    split
    · trivial
    · by_cases hc : n - min x.2 n = 0
      · rw [hc, cut_zero]
        show 0 < min x.2 n
        omega
      · rw [cut, if_neg hc] at ih ⊢
        refine ⟨by show 0 < min x.2 n; omega, ?_, ih⟩
        simp only
        omega
theorem canon_taken (B n : Nat) (U V : Nat → Bool) : canon (((List.range' 0 B).filter (may U V)).take n) = cut n (runsOf B U V) := by
  refine canon_of (norm_cut _ _ ?_) ?_
  · rw [runsOf]
    exact norm_runsF _ _ _
  · rw [← blocks_bks, blocks_cut, runsOf, blocks_runsF]
theorem taken_eq (f : Nat → Bool) {k B n : Nat} (hk : k ≤ B) (hn : ((List.range' 0 k).filter f).length ≤ n) (h : k = B ∨ ((List.range' 0 k).filter f).length = n) : ((List.range' 0 B).filter f).take n = (List.range' 0 k).filter f := by
  rcases h with rfl | h
  · exact List.take_of_length_le hn
  · have e : List.range' 0 B = List.range' 0 k ++ List.range' (0 + k) (B - k) := by
      rw [List.range'_append_1]
      congr 1
      omega
    rw [e, List.filter_append, ← h, List.take_left']
    rfl
def tkU (U V : Nat → Bool) (k : Nat) : Nat → Bool := fun j => U j || decide (j ∈ (List.range' 0 k).filter (may U V))
theorem marks_taken (U V : Nat → Bool) {k B n : Nat} (h : ((List.range' 0 B).filter (may U V)).take n = (List.range' 0 k).filter (may U V)) : tkU U V k = marks U (cut n (runsOf B U V)) := by
  funext j
  unfold tkU
  rw [marks_eq, blocks_cut, runsOf, blocks_runsF, h]

theorem BOwn.set {w : World} {base g B cap : Nat} {f : Nat → Bool} (h : BOwn w base (.slice (some ⟨g, 0, none⟩) B cap) f B) (k : Nat) (x : Bool) : BOwn (w.setCell ⟨g, k, none⟩ (.bool x)) base (.slice (some ⟨g, 0, none⟩) B cap) (fun j => if j = k then x else f j) B := by
  obtain ⟨h1, h2⟩ := h
  refine ⟨by simp [bvl], ?_⟩
  rcases h2 with ⟨e, _⟩ | ⟨g', cap', cur, e, hb, hg, hn, hm, hs, ht⟩
  · cases e
  · cases e
    refine .inr ⟨g, cap, _, rfl, hb, heap_setCell_same w g k _ _ _ hg, hn, hm, by simp [hs], ?_⟩
    rw [Array.toList_setIfInBounds, List.take_set, ht]
    apply List.ext_getElem
    · simp [bvl]
    · intro i h1 h2
      by_cases e : i = k
      · subst e; simp [bvl]
      · rw [List.getElem_set_ne (fun h => e h.symm)]
        simp [bvl, e]
theorem RmAt.setNow {w : World} {N b B g cap : Nat} {v2 : Value} {U V : Nat → Bool} (h : RmAt w N b B (.slice (some ⟨g, 0, none⟩) B cap) v2 U V) (k : Nat) (x : Bool) :
    RmAt (w.setCell ⟨g, k, none⟩ (.bool x)) N b B (.slice (some ⟨g, 0, none⟩) B cap) v2 (fun j => if j = k then x else U j) V := by
  have hg := setCell_grown w g k (.bool x)
  have hgb : b ≠ g := by
    rintro rfl
    obtain ⟨_, cur, hc⟩ := h.now.row (q := b) rfl
    rw [h.blk] at hc
    cases hc
  exact ⟨(hg.block b h.lt (fun e => hgb (Option.some.inj e))).trans h.blk, h.now.set k x, h.last.kept hg (fun q hq e => by cases e; exact h.apart g rfl hq), h.le, h.base, h.apart⟩
theorem RmAt.cast {w : World} {N b B : Nat} {v1 v2 : Value} {U U' V : Nat → Bool} (h : RmAt w N b B v1 v2 U V) (e : U = U') : RmAt w N b B v1 v2 U' V := e ▸ h

theorem may_fresh (U V : Nat → Bool) (k : Nat) : may (tkU U V k) V k = may U V k := by
  have : decide (k ∈ (List.range' 0 k).filter (may U V)) = false := by
    apply decide_eq_false
    intro h
    have h1 := (List.mem_filter.1 h).1
    rw [List.mem_range'] at h1
    obtain ⟨i, hi, e⟩ := h1
    omega
  simp only [may, tkU, this, Bool.or_false]

theorem RmAt.keptN {w w' : World} {N b B base : Nat} {v1 v2 v : Value} {U V : Nat → Bool} {L : List Nat} (h : RmAt w N b B v1 v2 U V) (hN : NOwn w base v L) (hg : w.grownBy w' v.ownBlock) : RmAt w' N b B v1 v2 U V := by
  cases ho : v.ownBlock with
  | none => rw [ho] at hg; exact h.grown hg
  | some q =>
    rw [ho] at hg
    obtain ⟨_, cur, hc⟩ := hN.row ho
    exact h.kept hg hc (by decide) (by decide)
theorem gr_weak0 {w w' : World} {row : Option Nat} (h : w.grownBy w' none) : w.grownBy w' row := by
  obtain ⟨h1, h2, h3, h4, h5⟩ := h
  exact ⟨h1, h2, h3, h4, fun k hk _ => h5 k hk (by simp)⟩
theorem ROwn.low {w : World} {base base' : Nat} {v : Value} {L : List (Nat × Nat)} (h : ROwn w base v L) (hb : base' ≤ base) : ROwn w base' v L := by
  obtain ⟨h1, h2⟩ := h
  refine ⟨h1, ?_⟩
  rcases h2 with h2 | ⟨g, cap, cur, a, b', c⟩
  · exact .inl h2
  · exact .inr ⟨g, cap, cur, a, by omega, c⟩

def RTk (w : World) (N b B n : Nat) (v1 v2 : Value) (U V : Nat → Bool) (e : Ending) (w' : World) : Prop :=
  ∃ u, e = .returned (.tuple #[u, .int .i64 0]) ∧ ROwn w' w.heap.size u (cut n (runsOf B U V)) ∧ RmAt w' N b B v1 v2 (marks U (cut n (runsOf B U V))) V ∧ w.grownBy w' v1.ownBlock

set_option maxHeartbeats 4000000 in
theorem rTake_ok (w : World) (N b B n : Nat) (v1 v2 : Value) (U V : Nat → Bool) (h : RmAt w N b B v1 v2 U V) (hn : n ≤ total (runsOf B U V)) :
    Calls Try.prog 9 #[.pointer (some ⟨b, 0, none⟩), .int .i64 (n : Int)] w (RTk w N b B n v1 v2 U V) := by
  have HM := hide h
  have hle := h.le
  have hBI : (B : Int) ≤ 512 := by omega
  have htot := runsOf_total B U V
  have hn0 : ¬ (n : Int) < 0 := by omega
  obtain ⟨o1, p1, hv1, q1, q2, q3⟩ := h.now.form
  subst hv1
  have Q3 := hide q3
  clear q3 h
  go_enter Try.func9, Try.ntmps9
  go_wp2_with fail
  refine (rFree_any w N b B _ v2 U V (unhide HM)).mono ?_
  rintro e w1 ⟨rfl, hw1⟩
  subst w1
  have hn1 : decide (total (runsOf B U V) < n) = false := decide_eq_false (by omega)
  go_wp2
  go_loopw [6, 7] (fun a i wr => ∃ k : Nat, i = .int .i64 (k : Int) ∧ k ≤ B ∧ ((List.range' 0 k).filter (may U V)).length ≤ n ∧ NOwn wr w.heap.size a ((List.range' 0 k).filter (may U V)) ∧ RmAt wr N b B (.slice o1 B p1) v2 (tkU U V k) V ∧ w.grownBy wr (Value.slice o1 B p1).ownBlock) (fun _ i _ => B - (intOf i).toNat)
  case atStart => exact ⟨0, rfl, by omega, by simp, by simpa using NOwn.nil w w.heap.size, (unhide HM).cast (by funext j; simp [tkU]), World.grownBy.refl _ _⟩
  case round =>
    obtain ⟨k, rfl, hk, hkl, hN, hR, hG⟩ := hrel
    have HN := hide hN
    have HG := hide hG
    have M2 := hide hR
    have hlb : ((List.range' 0 k).filter (may U V)).length ≤ 512 := by have := filter_len_le (may U V) k; omega
    obtain ⟨la, lc, hu, l1, l2, _⟩ := hN.form
    have c0 := hR.c0
    have HFs := hide (filter_range_succ (may U V) k)
    have HMF := hide (may_fresh U V k)
    clear hN hR hG
    by_cases hlt : k < B
    · have hlt' : (k : Int) < (B : Int) := by omega
      by_cases hln : ((List.range' 0 k).filter (may U V)).length < n
      · have hln' : (((List.range' 0 k).filter (may U V)).length : Int) < (n : Int) := by omega
        obtain ⟨F, hF⟩ : ∃ F, F = (List.range' 0 k).filter (may U V) := ⟨_, rfl⟩
        rw [← hF] at hu hln hln' hlb HN HFs hkl l1
        subst hu
        have HF := hide hF
        clear hF
        go_wp2_with fail
        refine (rmay_any wr N b B k _ v2 _ V (unhide M2) hlt).mono ?_
        rintro e wr' ⟨rfl, hwr⟩
        subst wr'
        rw [unhide HMF]
        cases hm : may U V k with
        | true =>
          rw [hm, if_pos rfl] at HFs
          obtain ⟨g, ho1, -, hgl, -, -⟩ := (unhide Q3) (by omega)
          subst ho1
          clear hm
          go_wp2_with (at_builtin; refine wpList_append_int rfl (.tmp 34) (.tmp 36) rfl w.heap.size _ F rfl ?ho ?hb (by omega) ⟨_, 0, none⟩ 1 k rfl ?hc ?_)
          case ho => exact (unhide HN).grown (World.grownBy_alloc _ _ _)
          case hb => have := (unhide HG).size; simp; omega
          case hc => exact (cell_of_row _ _ _ _ _ _ (heap_alloc_new _ _)).trans rfl
          intro v5 w5 o5 g5
          have G5 := hide (((unhide HG).trans (World.grownBy_alloc _ _ _)).andThen g5 (fun z e => .inl ((unhide HN).row e).1))
          have M5 := hide ((((unhide M2).grown (World.grownBy_alloc _ _ none))).keptN ((unhide HN).grown (World.grownBy_alloc _ _ _)) g5)
          have N5 := hide o5
          have c5 := (unhide M5).c0
          obtain ⟨oo, pp, ee, -, -, hh⟩ := (unhide M5).now.form
          injection ee with ee1 _ ee2
          subst ee1 ee2
          obtain ⟨g', eg, -, -, fz, cz⟩ := hh (by omega)
          cases eg
          have z5 := cz k hlt
          have f5 := fz k
          have M6 := hide (((unhide M5).setNow k true).cast (U' := tkU U V (k + 1)) (by
            funext j
            unfold tkU
            rw [unhide HFs, ← unhide HF]
            by_cases e : j = k
            · simp [e]
            · simp [e]))
          have G6 := hide ((unhide G5).trans (setCell_grown w5 g k (.bool true)))
          have N6 : Hid (NOwn (w5.setCell ⟨g, k, none⟩ (.bool true)) w.heap.size v5 ((List.range' 0 (k + 1)).filter (may U V))) := hide (by
            rw [unhide HFs]
            obtain ⟨_, cur, hc⟩ := (unhide M5).now.row (q := g) rfl
            exact (unhide N5).kept (setCell_grown w5 g k (.bool true)) (fun q hq e => (unhide N5).ne hq hc (by decide) (Option.some.inj e)))
          have L6 : Hid (((List.range' 0 (k + 1)).filter (may U V)).length ≤ n) := hide (by rw [unhide HFs, List.length_append]; simp; omega)
          clear o5 g5 cz fz hh HN HG M2 c0 M5 N5 G5
          go_wp2
          go_roundw
          case rel => exact ⟨k + 1, rfl, by omega, unhide L6, unhide N6, unhide M6, unhide G6⟩
          case measure => simp [intOf]; omega
        | false =>
          rw [hm, if_neg (by simp), List.append_nil] at HFs
          have N5 : Hid (NOwn wr w.heap.size (.slice la F.length lc) ((List.range' 0 (k + 1)).filter (may U V))) := hide (by rw [unhide HFs]; exact unhide HN)
          have M5 := hide ((unhide M2).cast (U' := tkU U V (k + 1)) (by funext j; unfold tkU; rw [unhide HFs, ← unhide HF]))
          have L5 : Hid (((List.range' 0 (k + 1)).filter (may U V)).length ≤ n) := hide (by rw [unhide HFs]; omega)
          clear hm M2 HN
          go_wp2
          go_roundw
          case rel => exact ⟨k + 1, rfl, by omega, unhide L5, unhide N5, unhide M5, unhide HG⟩
          case measure => simp [intOf]; omega
      · have hln' : ¬ (((List.range' 0 k).filter (may U V)).length : Int) < (n : Int) := by omega
        obtain ⟨F, hF⟩ : ∃ F, F = (List.range' 0 k).filter (may U V) := ⟨_, rfl⟩
        have HT := hide (taken_eq (may U V) hk hkl (.inr (by omega)))
        have HMk := hide (marks_taken U V (unhide HT))
        have HLt : Hid (low F) := hide (by
          intro x hx
          rw [hF] at hx
          have h1 := (List.mem_filter.1 hx).1
          rw [List.mem_range'] at h1
          obtain ⟨i, hi, rfl⟩ := h1
          omega)
        rw [← hF] at hu hlb HN hkl l1 HT
        try rw [← hF] at hln
        try rw [← hF] at hln'
        subst hu
        clear hF HFs HMF
        go_wp2_with fail
        refine (Whole_any wr _ F (unhide HN).nr (unhide HLt) (by omega)).mono ?_
        rintro e w6 ⟨u6, rfl, o6, g6⟩
        have O6 : Hid (ROwn w6 w.heap.size u6 (cut n (runsOf B U V))) := hide (by
          rw [← canon_taken, unhide HT]
          exact o6.low (unhide HG).size)
        have M6 := hide (((unhide M2).grown g6).cast (unhide HMk))
        have G6 := hide ((unhide HG).trans (gr_weak0 g6))
        clear o6 g6 HG M2 c0
        go_wp2
        go_ret2
        exact ⟨_, rfl, unhide O6, unhide M6, unhide G6⟩
    · have hlt' : ¬ (k : Int) < (B : Int) := by omega
      obtain ⟨F, hF⟩ : ∃ F, F = (List.range' 0 k).filter (may U V) := ⟨_, rfl⟩
      have HT := hide (taken_eq (may U V) hk hkl (.inl (by omega)))
      have HMk := hide (marks_taken U V (unhide HT))
      have HLt : Hid (low F) := hide (by
        intro x hx
        rw [hF] at hx
        have h1 := (List.mem_filter.1 hx).1
        rw [List.mem_range'] at h1
        obtain ⟨i, hi, rfl⟩ := h1
        omega)
      rw [← hF] at hu hlb HN hkl l1 HT
      try rw [← hF] at hln
      try rw [← hF] at hln'
      subst hu
      clear hF HFs HMF
      go_wp2_with fail
      refine (Whole_any wr _ F (unhide HN).nr (unhide HLt) (by omega)).mono ?_
      rintro e w6 ⟨u6, rfl, o6, g6⟩
      have O6 : Hid (ROwn w6 w.heap.size u6 (cut n (runsOf B U V))) := hide (by
        rw [← canon_taken, unhide HT]
        exact o6.low (unhide HG).size)
      have M6 := hide (((unhide M2).grown g6).cast (unhide HMk))
      have G6 := hide ((unhide HG).trans (gr_weak0 g6))
      clear o6 g6 HG M2 c0
      go_wp2
      go_ret2
      exact ⟨_, rfl, unhide O6, unhide M6, unhide G6⟩
end Go.Proofs.Ytgdplmbchoogiaa
