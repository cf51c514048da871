/-
  DERIVED. A node in memory: a number and a slice of runs. Slices of runs, of one's own and as they are read.
-/
import Derived.Test.YtikoegmpbjeadaaBase
import Derived.Test.YtikoegmpbjeadaaImath
import Derived.Deep.MidRow
import Derived.Deep.RegionHeld3
import Derived.Maps.AppendAt
import Derived.BigQuiet
import Derived.Maps.Range
import Derived.Maps.RangeWalk
namespace Go.Proofs.Ytikoegmpbjeadaa
open Go.RowKit
set_option linter.unusedVariables false

theorem setCell_grown (w : World) (b k : Nat) (v : Value) : w.grownBy (w.setCell ⟨b, k, none⟩ v) (some b) := ⟨rfl, rfl, rfl, by simp, fun q _ hq => Below.heap_setCell w ⟨b, k, none⟩ v q (fun e => hq (by rw [e]))⟩
theorem grown_of_below {w w' : World} (h : Below w.heap.size w w') : w.grownBy w' none := ⟨h.os, h.tape, h.output, h.size, fun k hk _ => h.block k hk⟩
theorem below_of_grown {w w' : World} (h : w.grownBy w' none) : Below w.heap.size w w' := ⟨h.os, h.tape, h.output, h.size, fun k hk => h.block k hk (by simp)⟩

def fits (x : Int × Int) : Prop := -9223372036854775808 ≤ x.1 ∧ x.1 ≤ 9223372036854775807 ∧ -9223372036854775808 ≤ x.2 ∧ x.2 ≤ 9223372036854775807

/-- A slice of runs that reads as these. -/
def Rn (w : World) (v : Value) (l : List (Int × Int)) : Prop :=
  ∃ ao cap, v = .slice ao l.length cap ∧ l.length ≤ cap ∧ cap ≤ 9223372036854775807 ∧ (∀ x ∈ l, fits x) ∧
    (l.length ≠ 0 → ∃ b off, ao = some ⟨b, off, none⟩ ∧ b < w.heap.size ∧ ∀ i, (h : i < l.length) → w.cell? ⟨b, off + i * 2, none⟩ = some (.int .i64 l[i].1) ∧ w.cell? ⟨b, off + i * 2 + 1, none⟩ = some (.int .i64 l[i].2))
theorem Rn.kept {w w' : World} {v : Value} {l : List (Int × Int)} (h : Rn w v l) (hg : w.grownBy w' none) : Rn w' v l := by
  obtain ⟨ao, cap, e, h1, h2, h3, h4⟩ := h
  refine ⟨ao, cap, e, h1, h2, h3, fun hl => ?_⟩
  obtain ⟨b, off, e2, hb, hc⟩ := h4 hl
  exact ⟨b, off, e2, by have := hg.size; omega, fun i hi => ⟨hg.cell (hc i hi).1 (by simp), hg.cell (hc i hi).2 (by simp)⟩⟩
theorem Rn.nil (w : World) : Rn w (.slice none 0 0) [] := ⟨none, 0, rfl, by simp, by omega, by simp, fun h => absurd rfl h⟩
theorem Rn.alloc {w : World} {v : Value} {l : List (Int × Int)} (h : Rn w v l) (o : Obj) : Rn (w.alloc o) v l := h.kept (World.grownBy_alloc _ _ _)
theorem grown_drewN' {w w' : World} (h : w.grownBy w' none) (n : Nat) : w.grownBy (w'.drewN n) none := ⟨h.os, h.tape, h.output, h.size, h.block⟩

theorem Try.infoRun3 : (Try.prog.info? 51).map (fun i => (i.zero, i.size, i.bytes)) = some (some (.agg #[.int .i64 0, .int .i64 0]), 2, 16) := by kernel_rfl

/-- The cells of runs. -/
def rcells (xs : List (Nat × Nat)) : List Value := xs.flatMap fun x => [.int .i64 (x.1 : Int), .int .i64 (x.2 : Int)]
theorem rcells_snoc (xs : List (Nat × Nat)) (x : Nat × Nat) : rcells (xs ++ [x]) = rcells xs ++ [.int .i64 (x.1 : Int), .int .i64 (x.2 : Int)] := by simp [rcells]
theorem rcells_cons (x : Nat × Nat) (xs : List (Nat × Nat)) : rcells (x :: xs) = .int .i64 (x.1 : Int) :: .int .i64 (x.2 : Int) :: rcells xs := by simp [rcells]
theorem rcells_len : ∀ xs : List (Nat × Nat), (rcells xs).length = xs.length * 2
  | [] => rfl
  | x :: xs => by rw [rcells_cons, List.length_cons, List.length_cons, rcells_len xs, List.length_cons]; omega
theorem rcells_at : ∀ (xs : List (Nat × Nat)) (i : Nat) (h : i < xs.length), (rcells xs)[i * 2]? = some (.int .i64 (xs[i].1 : Int)) ∧ (rcells xs)[i * 2 + 1]? = some (.int .i64 (xs[i].2 : Int))
  | x :: xs, 0, _ => by simp [rcells]
  | x :: xs, i + 1, h => by
    have ih := rcells_at xs i (by simpa using h)
    rw [rcells_cons, show (i + 1) * 2 = i * 2 + 1 + 1 by omega, show i * 2 + 1 + 1 + 1 = (i * 2 + 1) + 1 + 1 by omega]
    simp only [List.getElem?_cons_succ, List.getElem_cons_succ]
    exact ih
theorem rcells_one (xs : List (Nat × Nat)) : ∀ u ∈ rcells xs, u.oneCell' = true := by
  intro u hu
  unfold rcells at hu
  rw [List.mem_flatMap] at hu
  obtain ⟨x, _, hx⟩ := hu
  rcases List.mem_cons.1 hx with rfl | hx
  · rfl
  · rcases List.mem_cons.1 hx with rfl | hx
    · rfl
    · cases hx
theorem rcells_set1 : ∀ (xs : List (Nat × Nat)) (i m : Nat) (h : i < xs.length), (rcells xs).set (i * 2 + 1) (.int .i64 (m : Int)) = rcells (xs.set i (xs[i].1, m))
  | x :: xs, 0, m, _ => by simp [rcells]
  | x :: xs, i + 1, m, h => by
    have ih := rcells_set1 xs i m (by simpa using h)
    rw [rcells_cons, show (i + 1) * 2 + 1 = (i * 2 + 1) + 1 + 1 by omega, List.set_cons_succ, List.set_cons_succ, ih, List.set_cons_succ, rcells_cons]
    rfl
theorem rcells_set0 : ∀ (xs : List (Nat × Nat)) (i m : Nat) (h : i < xs.length), (rcells xs).set (i * 2) (.int .i64 (m : Int)) = rcells (xs.set i (m, xs[i].2))
  | x :: xs, 0, m, _ => by simp [rcells]
  | x :: xs, i + 1, m, h => by
    have ih := rcells_set0 xs i m (by simpa using h)
    rw [rcells_cons, show (i + 1) * 2 = (i * 2) + 1 + 1 by omega, List.set_cons_succ, List.set_cons_succ, ih, List.set_cons_succ, rcells_cons]
    rfl

/-- A slice of runs of one's own. -/
def ROwn (w : World) (base : Nat) (v : Value) (xs : List (Nat × Nat)) : Prop := w.ownsRow base 51 2 v xs.length (rcells xs)
def toI (x : Nat × Nat) : Int × Int := ((x.1 : Int), (x.2 : Int))

theorem ROwn.nil (w : World) (base : Nat) : ROwn w base (.slice none 0 0) [] := World.ownsRow_nil w _ _ _
theorem ROwn.kept {W W' : World} {base : Nat} {v : Value} {xs : List (Nat × Nat)} {row : Option Nat} (h : ROwn W base v xs) (hg : W.grownBy W' row) (hne : ∀ q, v.ownBlock = some q → some q ≠ row) : ROwn W' base v xs := by
  obtain ⟨h1, h2⟩ := h
  refine ⟨h1, ?_⟩
  rcases h2 with h2 | ⟨g, cap, cur, rfl, hb, hgb, r⟩
  · exact .inl h2
  · exact .inr ⟨g, cap, cur, rfl, hb, (hg.block g (lt_of_block hgb) (hne g rfl)).trans hgb, r⟩
theorem ROwn.grown {W W' : World} {base : Nat} {v : Value} {xs : List (Nat × Nat)} (h : ROwn W base v xs) (hg : W.grownBy W' none) : ROwn W' base v xs := h.kept hg (fun q _ e => by cases e)
theorem ROwn.mono {w : World} {base b2 : Nat} {v : Value} {xs : List (Nat × Nat)} (h : ROwn w base v xs) (hb : b2 ≤ base) : ROwn w b2 v xs := by
  obtain ⟨h1, h2⟩ := h
  refine ⟨h1, ?_⟩
  rcases h2 with h | ⟨g, cap, cur, a, b, c⟩
  · exact .inl h
  · exact .inr ⟨g, cap, cur, a, by omega, c⟩
theorem ROwn.row {W : World} {base : Nat} {v : Value} {xs : List (Nat × Nat)} (h : ROwn W base v xs) {q : Nat} (hq : v.ownBlock = some q) : base ≤ q ∧ ∃ cur, W.heap[q]? = some (.cells cur 51 (0, 0)) := by
  rcases h.2 with ⟨rfl, _⟩ | ⟨g, cap, cur, rfl, hb, hg, r⟩
  · cases hq
  · cases hq; exact ⟨hb, cur, hg⟩
/-- Another block, by its type. -/
theorem ROwn.ne {W : World} {base : Nat} {v : Value} {xs : List (Nat × Nat)} (h : ROwn W base v xs) {q j : Nat} {C : Array Value} {t : TypeId} {fr : Nat × Nat} (hq : v.ownBlock = some q) (hj : W.heap[j]? = some (.cells C t fr)) (ht : t ≠ 51) : q ≠ j := by
  rintro rfl
  obtain ⟨_, cur, hc⟩ := h.row hq
  rw [hc] at hj
  cases hj
  exact ht rfl
/-- As it is in memory. -/
theorem ROwn.form {w : World} {base : Nat} {v : Value} {xs : List (Nat × Nat)} (h : ROwn w base v xs) : ∃ ao cap, v = .slice ao xs.length cap ∧ xs.length ≤ cap ∧ cap ≤ 9223372036854775807 ∧ (xs.length ≠ 0 → ∃ g, ao = some ⟨g, 0, none⟩ ∧ base ≤ g ∧ g < w.heap.size ∧ ∀ i, (h : i < xs.length) → w.cell? ⟨g, i * 2, none⟩ = some (.int .i64 (xs[i].1 : Int)) ∧ w.cell? ⟨g, i * 2 + 1, none⟩ = some (.int .i64 (xs[i].2 : Int))) := by
  rcases h.2 with ⟨rfl, h0⟩ | ⟨g, cap, cur, rfl, hb, hg, hn, hm, hs, ht⟩
  · exact ⟨none, 0, by rw [h0], by omega, by omega, fun h => absurd h0 h⟩
  · refine ⟨some ⟨g, 0, none⟩, cap, rfl, hn, by unfold maxLen at hm; omega, fun _ => ⟨g, rfl, hb, lt_of_block hg, fun i hi => ?_⟩⟩
    obtain ⟨e1, e2⟩ := rcells_at xs i hi
    have at' : ∀ j, j < xs.length * 2 → cur[j]? = (rcells xs)[j]? := fun j hj => by
      have e : (cur.toList.take (xs.length * 2))[j]? = (rcells xs)[j]? := by rw [ht]
      rw [List.getElem?_take_of_lt (by omega)] at e
      simpa using e
    constructor
    · rw [cell_of_row _ _ _ _ _ _ hg, at' _ (by omega), e1]
    · rw [cell_of_row _ _ _ _ _ _ hg, at' _ (by omega), e2]
theorem ROwn.rn {w : World} {base : Nat} {v : Value} {xs : List (Nat × Nat)} (h : ROwn w base v xs) (hf : ∀ x ∈ xs, x.1 ≤ 65536 ∧ x.2 ≤ 65536) : Rn w v (xs.map toI) := by
  have hfit : ∀ x ∈ xs.map toI, fits x := fun x hx => by
    obtain ⟨y, hy, rfl⟩ := List.mem_map.1 hx
    have := hf y hy
    simp only [fits, toI]
    omega
  obtain ⟨ao, cap, e, h1, h2, h4⟩ := h.form
  refine ⟨ao, cap, by rw [e, List.length_map], by simpa using h1, h2, hfit, fun hl => ?_⟩
  obtain ⟨g, e2, _, hlt, hc⟩ := h4 (by simpa using hl)
  refine ⟨g, 0, e2, hlt, fun i hi => ?_⟩
  have := hc i (by simpa using hi)
  simpa [toI] using this
/-- One cell of it set. -/
theorem ROwn.set1 {w : World} {base g n cap : Nat} {xs : List (Nat × Nat)} (h : ROwn w base (.slice (some ⟨g, 0, none⟩) n cap) xs) (i m : Nat) (hi : i < xs.length) : ROwn (w.setCell ⟨g, i * 2 + 1, none⟩ (.int .i64 (m : Int))) base (.slice (some ⟨g, 0, none⟩) n cap) (xs.set i (xs[i].1, m)) := by
  obtain ⟨h1, h2⟩ := h
  refine ⟨by rw [rcells_len, List.length_set], ?_⟩
  rcases h2 with ⟨e, _⟩ | ⟨g', cap', cur, e, hb, hg, hn, hm, hs, ht⟩
  · cases e
  · cases e
    refine .inr ⟨g, cap, _, by rw [List.length_set], hb, heap_setCell_same w g (i * 2 + 1) cur _ _ hg, by rw [List.length_set]; exact hn, hm, by simpa using hs, ?_⟩
    rw [← rcells_set1 xs i m hi, ← ht, List.length_set, Array.toList_setIfInBounds, List.take_set]
theorem ROwn.set0 {w : World} {base g n cap : Nat} {xs : List (Nat × Nat)} (h : ROwn w base (.slice (some ⟨g, 0, none⟩) n cap) xs) (i m : Nat) (hi : i < xs.length) : ROwn (w.setCell ⟨g, i * 2, none⟩ (.int .i64 (m : Int))) base (.slice (some ⟨g, 0, none⟩) n cap) (xs.set i (m, xs[i].2)) := by
  obtain ⟨h1, h2⟩ := h
  refine ⟨by rw [rcells_len, List.length_set], ?_⟩
  rcases h2 with ⟨e, _⟩ | ⟨g', cap', cur, e, hb, hg, hn, hm, hs, ht⟩
  · cases e
  · cases e
    refine .inr ⟨g, cap, _, by rw [List.length_set], hb, heap_setCell_same w g (i * 2) cur _ _ hg, by rw [List.length_set]; exact hn, hm, by simpa using hs, ?_⟩
    rw [← rcells_set0 xs i m hi, ← ht, List.length_set, Array.toList_setIfInBounds, List.take_set]

theorem run_append_run (w : World) (base : Nat) (ty : TypeId) (v : Value) (xs : List (Nat × Nat)) (hown : ROwn w base v xs) (hb : base ≤ w.heap.size) (hl : xs.length ≤ 65536) (ad : Addr) (c : Nat) (x : Nat × Nat)
    (hc : ∀ j u, ([.int .i64 (x.1 : Int), .int .i64 (x.2 : Int)] : List Value)[j]? = some u → w.cell? (ad.add j) = some u) :
    ∃ v' w', (Builtin.append_ #[32, 32] ty #[v, .slice (some ad) 1 c]).run Try.prog w = .ok v' w' ∧ ROwn w' base v' (xs ++ [x]) ∧ w.grownBy w' v.ownBlock := by
  obtain ⟨i0, hi, hz0, hz1, hz2⟩ := info_parts Try.infoRun3
  have h1c : ∀ u ∈ ([.int .i64 (x.1 : Int), .int .i64 (x.2 : Int)] : List Value), u.oneCell' = true := by
    have := rcells_one [x]
    simpa [rcells] using this
  obtain ⟨v', w', hr, r1, r2, _⟩ := run_append_own (P := Try.prog) w base 32 ty 51 i0 (.agg #[.int .i64 0, .int .i64 0]) 2 16 Try.underlying32 hi hz0 hz1 hz2 rfl (by decide) v xs.length (rcells xs) hown ad 1 c _ rfl hc h1c (by unfold maxLen; omega) (by omega) hb
  exact ⟨v', w', hr, by unfold ROwn; rw [rcells_snoc, List.length_append]; exact r1, r2⟩
theorem wpList_append_run {ops : Array Oper} {rest : List Oper} {o : Oper} {a : Act} {w : World} {Q : Exit → Act → World → Prop} (hgd : o.guard = none) (s x : Operand)
    (hop : o.op = Op.call { callee := Callee.builtin Builtin.append, args := #[s, x], argTypes := #[32, 32] }) (base : Nat) (v : Value) (xs : List (Nat × Nat)) (hs : a.eval s = v) (hown : ROwn w base v xs) (hb : base ≤ w.heap.size) (hl : xs.length ≤ 65536) (ad : Addr) (c : Nat) (y : Nat × Nat)
    (hx : a.eval x = .slice (some ad) 1 c) (hc : ∀ j u, ([.int .i64 (y.1 : Int), .int .i64 (y.2 : Int)] : List Value)[j]? = some u → w.cell? (ad.add j) = some u)
    (hK : ∀ v' w', ROwn w' base v' (xs ++ [y]) → w.grownBy w' v.ownBlock → wpList Try.prog ops Q rest (a.put o.dst v') w') :
    wpList Try.prog ops Q (o :: rest) a w := by
  obtain ⟨i0, hi, hz0, hz1, hz2⟩ := info_parts Try.infoRun3
  have h1c : ∀ u ∈ ([.int .i64 (y.1 : Int), .int .i64 (y.2 : Int)] : List Value), u.oneCell' = true := by
    have := rcells_one [y]
    simpa [rcells] using this
  refine wpList_append_own w hgd s x 32 hop base 51 i0 (.agg #[.int .i64 0, .int .i64 0]) 2 16 Try.underlying32 hi hz0 hz1 hz2 rfl (by decide) v xs.length (rcells xs) hs hown ad 1 c _ hx rfl hc h1c (by unfold maxLen; omega) (by omega) hb ?_
  intro v' w' ho' hgr _
  refine hK v' w' ?_ hgr
  unfold ROwn
  rw [rcells_snoc, List.length_append]
  exact ho'
/-- What is appended to one's own is not seen from where one began. -/
theorem own_step' {w w1 w2 : World} {v : Value} {xs : List (Nat × Nat)} (h : w.grownBy w1 none) (ho : ROwn w1 w.heap.size v xs) (k : w1.grownBy w2 v.ownBlock) : w.grownBy w2 none := h.andThen k (fun j e => .inl (ho.row e).1)
theorem own_step {w w1 w2 : World} {b : Nat} (h : w.grownBy w1 none) (hb : w.heap.size ≤ b) (k : w1.grownBy w2 (some b)) : w.grownBy w2 none := h.andThen k (fun j e => by cases e; exact .inl hb)

/-- One run in a block of its own. -/
theorem Rn.one (w : World) (x1 x2 : Int) (hf : fits (x1, x2)) : Rn (w.alloc (.cells #[.int .i64 x1, .int .i64 x2] 51)) (.slice (some ⟨w.heap.size, 0, none⟩) 1 1) [(x1, x2)] := by
  refine ⟨_, 1, rfl, by simp, by omega, fun x hx => by simp at hx; subst hx; exact hf, fun _ => ⟨w.heap.size, 0, rfl, by simp, fun i hi => ?_⟩⟩
  have : i = 0 := by simp at hi; omega
  subst this
  exact ⟨(cell_of_row _ _ _ _ _ _ (heap_alloc_new _ _)).trans rfl, (cell_of_row _ _ _ _ _ _ (heap_alloc_new _ _)).trans rfl⟩
theorem one_cells (w : World) (x1 x2 : Int) : ∀ j u, ([.int .i64 x1, .int .i64 x2] : List Value)[j]? = some u → (w.alloc (.cells #[.int .i64 x1, .int .i64 x2] 51)).cell? ((⟨w.heap.size, 0, none⟩ : Addr).add j) = some u := by
  intro j u hj
  rw [addr_add, cell_of_row _ _ _ _ _ _ (heap_alloc_new _ _)]
  rw [Nat.zero_add, ← hj]
  simp

theorem one_cells' (w : World) (x1 x2 : Int) : ∀ j u, ([.int .i64 x1, .int .i64 x2] : List Value)[j]? = some u → (w.alloc (.cells #[.int .i64 x1, .int .i64 x2] 51)).cell? ⟨w.heap.size, j, none⟩ = some u := fun j u hj => by
  have := one_cells w x1 x2 j u hj
  rw [addr_add, Nat.zero_add] at this
  exact this

/-! ### A node -/
def bf (n : Nat) : Nat := (n + 511) / 512
structure NdAt (w : World) (b n : Nat) (v : Value) (L : List Nat) : Prop where
  blk : w.heap[b]? = some (.cells #[.int .i64 (n : Int), v] 67 (0, 0))
  runs : ROwn w 0 v (canon L)
  le : n ≤ 32768
  len : L.length = bf n
  lw : low L
theorem NdAt.lt {w : World} {b n : Nat} {v : Value} {L : List Nat} (h : NdAt w b n v L) : b < w.heap.size := lt_of_block h.blk
theorem NdAt.frozen {w : World} {b n : Nat} {v : Value} {L : List Nat} (h : NdAt w b n v L) (i : Nat) : w.frozen? ⟨b, i, none⟩ = false := by simp [World.frozen?, h.blk]
theorem NdAt.num {w : World} {b n : Nat} {v : Value} {L : List Nat} (h : NdAt w b n v L) : w.cell? ⟨b, 0, none⟩ = some (.int .i64 (n : Int)) := (cell_of_row _ _ _ _ _ _ h.blk).trans rfl
theorem NdAt.val {w : World} {b n : Nat} {v : Value} {L : List Nat} (h : NdAt w b n v L) : w.cell? ⟨b, 1, none⟩ = some v := (cell_of_row _ _ _ _ _ _ h.blk).trans rfl
theorem NdAt.grown {w w' : World} {b n : Nat} {v : Value} {L : List Nat} (h : NdAt w b n v L) (hg : w.grownBy w' none) : NdAt w' b n v L := ⟨(hg.block b h.lt (by simp)).trans h.blk, h.runs.grown hg, h.le, h.len, h.lw⟩
theorem NdAt.other {w w' : World} {b n c : Nat} {v : Value} {L : List Nat} (h : NdAt w b n v L) (hg : w.grownBy w' (some c)) (hc : b ≠ c) (hr : ∀ q, v.ownBlock = some q → q ≠ c) : NdAt w' b n v L := ⟨(hg.block b h.lt (by simpa using hc)).trans h.blk, h.runs.kept hg (fun q hq e => hr q hq (by simpa using e)), h.le, h.len, h.lw⟩
theorem ROwn.far {W W' : World} {base b n : Nat} {u v : Value} {L : List Nat} {xs : List (Nat × Nat)} (h : ROwn W base v xs) (hm : NdAt W b n u L) (hg : W.grownBy W' (some b)) : ROwn W' base v xs :=
  h.kept hg (fun q hq e => h.ne hq hm.blk (by decide) (by simpa using e))
/-- Another node changed. -/
theorem NdAt.beside {w w' : World} {b n c m : Nat} {v u : Value} {L M : List Nat} (h : NdAt w b n v L) (h2 : NdAt w c m u M) (hg : w.grownBy w' (some c)) (hc : b ≠ c) : NdAt w' b n v L :=
  h.other hg hc (fun q hq => h.runs.ne hq h2.blk (by decide))
theorem NdAt.new (w : World) : NdAt (w.alloc (.cells #[.int .i64 0, .slice none 0 0] 67)) w.heap.size 0 (.slice none 0 0) [] := ⟨heap_alloc_new _ _, ROwn.nil _ _, by omega, rfl, fun b hb => by cases hb⟩
theorem bf_le {n : Nat} (h : n ≤ 32768) : bf n ≤ 64 := by unfold bf; omega
theorem NdAt.small {w : World} {b n : Nat} {v : Value} {L : List Nat} (h : NdAt w b n v L) : L.length ≤ 64 ∧ (canon L).length ≤ 64 := by
  have h1 := h.len
  have h2 := bf_le h.le
  have h3 := canon_len L
  omega
end Go.Proofs.Ytikoegmpbjeadaa
