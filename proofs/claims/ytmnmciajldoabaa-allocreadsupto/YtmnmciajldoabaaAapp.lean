/-
  DERIVED. A run appended to a slice of runs, inside a round: where the new slice lies.
-/
import Derived.Test.YtmnmciajldoabaaAlaw
import Derived.Test.YtmnmciajldoabaaAfree
namespace Go.Proofs.Ytmnmciajldoabaa
open Go.RowKit Go.Shelf
set_option linter.unusedVariables false

theorem Try.infoRun3 : (Try.prog.info? 36).map (fun i => (i.zero, i.size, i.bytes)) = some (some (.agg #[.int .i64 0, .int .i64 0]), 2, 16) := by kernel_rfl

/-- The cells of runs. -/
def rcells (xs : List (Nat × Nat)) : List Value := xs.flatMap fun x => [.int .i64 (x.1 : Int), .int .i64 (x.2 : Int)]
theorem rcells_snoc (xs : List (Nat × Nat)) (x : Nat × Nat) : rcells (xs ++ [x]) = rcells xs ++ [.int .i64 (x.1 : Int), .int .i64 (x.2 : Int)] := by simp [rcells]

/-- A slice of runs of one's own. -/
def ROwn (w : World) (base : Nat) (v : Value) (xs : List (Nat × Nat)) : Prop := w.ownsRow base 36 2 v xs.length (rcells xs)

theorem run_append_run (w : World) (base : Nat) (ty : TypeId) (v : Value) (xs : List (Nat × Nat)) (hown : ROwn w base v xs) (hb : base ≤ w.heap.size) (hl : xs.length ≤ 512) (ad : Addr) (c : Nat) (x : Nat × Nat)
    (hc : ∀ j u, ([.int .i64 (x.1 : Int), .int .i64 (x.2 : Int)] : List Value)[j]? = some u → w.cell? (ad.add j) = some u) :
    ∃ v' w', (Builtin.append_ #[28, 28] ty #[v, .slice (some ad) 1 c]).run Try.prog w = .ok v' w' ∧ ROwn w' base v' (xs ++ [x]) ∧ w.grownBy w' v.ownBlock ∧ (v'.ownBlock = v.ownBlock ∨ ∃ g, v'.ownBlock = some g ∧ w.heap.size ≤ g) := by
  obtain ⟨i0, hi, hz0, hz1, hz2⟩ := info_parts Try.infoRun3
  have h1c : ∀ u ∈ ([.int .i64 (x.1 : Int), .int .i64 (x.2 : Int)] : List Value), u.oneCell' = true := by
    intro u hu
    rcases List.mem_cons.1 hu with rfl | hu
    · rfl
    · rcases List.mem_cons.1 hu with rfl | hu
      · rfl
      · cases hu
  have fin : ∀ {w' : World} {v' : Value} {b2 : Nat}, base ≤ b2 → w'.ownsRow b2 36 2 v' (xs.length + 1) (rcells xs ++ [.int .i64 (x.1 : Int), .int .i64 (x.2 : Int)]) → ROwn w' base v' (xs ++ [x]) := fun {w' v' b2} hb2 h => by
    unfold ROwn
    rw [rcells_snoc, List.length_append]
    obtain ⟨h1, h2⟩ := h
    refine ⟨h1, ?_⟩
    rcases h2 with h2 | ⟨g, cap, cur, a1, a2, a3⟩
    · exact .inl h2
    · exact .inr ⟨g, cap, cur, a1, by omega, a3⟩
  have hown0 := hown
  have hm : xs.length + 1 ≤ maxLen := by unfold maxLen; omega
  rcases hown.2 with ⟨rfl, h0⟩ | ⟨g, cap, cur, rfl, hbg, hg, hn, hcm, hsz, ht⟩
  · have hx0 : xs = [] := List.eq_nil_of_length_eq_zero h0
    subst hx0
    obtain ⟨v', w', hr, r1, r2, _⟩ := run_append_own (P := Try.prog) w w.heap.size 28 ty 36 i0 (.agg #[.int .i64 0, .int .i64 0]) 2 16 Try.underlying28 hi hz0 hz1 hz2 rfl (by decide) (.slice none 0 0) 0 [] (World.ownsRow_nil w _ _ _) ad 1 c _ rfl hc h1c (by unfold maxLen; omega) (by omega) (Nat.le_refl _)
    refine ⟨v', w', hr, fin hb (by simpa [rcells] using r1), r2, .inr ?_⟩
    obtain ⟨g, cap, rfl⟩ := ownsRow_succ (k := 0) (by simpa using r1)
    refine ⟨g, rfl, ?_⟩
    rcases r1.2 with ⟨e, _⟩ | ⟨g', cap', cur, e, hb', _⟩
    · cases e
    · cases e; exact hb'
  · by_cases hfit : xs.length + 1 ≤ cap
    · obtain ⟨w', hr, r1, r2⟩ := run_append_fits (P := Try.prog) w base 28 ty 36 i0 2 Try.underlying28 hi hz1 g xs.length cap (rcells xs) hown0 ad 1 c _ rfl hc h1c hfit
      exact ⟨_, w', hr, fin (Nat.le_refl _) r1, r2, .inl rfl⟩
    · have hlo : (rcells xs).length = xs.length * 2 := hown.1
      obtain ⟨v', w', hr, r1, r2⟩ := run_append_arg_grows (P := Try.prog) w 28 ty 36 i0 (.agg #[.int .i64 0, .int .i64 0]) 2 16 Try.underlying28 hi hz0 hz1 hz2 rfl (by decide) ⟨g, 0, none⟩ xs.length cap (rcells xs) hlo (fun j u hj => by
        have hjl : j < (rcells xs).length := (List.getElem?_eq_some_iff.1 hj).1
        rw [addr_add, cell_of_row _ _ _ _ _ _ hg]
        have e : (cur.toList.take (xs.length * 2))[j]? = (rcells xs)[j]? := by rw [ht]
        rw [List.getElem?_take_of_lt (by omega)] at e
        rw [Nat.zero_add, ← hj, ← e]
        simp) ad 1 c _ rfl hc (by omega) hm (by omega)
      refine ⟨v', w', hr, fin hb (by simpa using r1), r2.but _, .inr ?_⟩
      obtain ⟨g', cap', rfl⟩ := ownsRow_succ (k := xs.length) (by simpa using r1)
      refine ⟨g', rfl, ?_⟩
      rcases r1.2 with ⟨e, _⟩ | ⟨g'', cap'', cur', e, hb', _⟩
      · cases e
      · cases e; exact hb'

theorem wpListIn_append_run {F : Fence} {n : Nat} {ops : Array Oper} {rest : List Oper} {o : Oper} {a : Act} {w : World} {Q : Exit → Act → World → Prop} (hgd : o.guard = none) (s x : Operand)
    (hop : o.op = Op.call { callee := Callee.builtin Builtin.append, args := #[s, x], argTypes := #[28, 28] }) (base : Nat) (v : Value) (xs : List (Nat × Nat)) (hs : a.eval s = v) (hown : ROwn w base v xs) (hb : base ≤ w.heap.size) (hl : xs.length ≤ 512) (ad : Addr) (c : Nat) (y : Nat × Nat)
    (hx : a.eval x = .slice (some ad) 1 c) (hc : ∀ j u, ([.int .i64 (y.1 : Int), .int .i64 (y.2 : Int)] : List Value)[j]? = some u → w.cell? (ad.add j) = some u)
    (hK : ∀ v' w', ROwn w' base v' (xs ++ [y]) → w.grownBy w' v.ownBlock → (v'.ownBlock = v.ownBlock ∨ ∃ g, v'.ownBlock = some g ∧ w.heap.size ≤ g) → wpListIn F n Try.prog ops Q rest (a.put o.dst v') w') :
    wpListIn F n Try.prog ops Q (o :: rest) a w := by
  refine wpListIn_plain hgd fun K hK' => ?_
  obtain ⟨v', w', hrun, r1, r2, r3⟩ := run_append_run w base o.type v xs hown hb hl ad c y hc
  unfold Oper.wpIn
  refine ⟨?_, ?_⟩
  · simp [Oper.about, hop, resolve, Target.leads, Sem.run_pure]
  · rw [Oper.semAt_plain F _ _ (by rw [hop]; intro c hc'; cases hc')]
    simp [execOp, hop, resolve, invoke, builtin, hs, hx, hrun, Result.andThen]
    exact hK' _ _ (hK v' w' r1 r2 r3)

/-! ### Where Take stands in its loop -/
/-- b: the map; mb, nb, tb: the boxes of m, n, taken; w: where Take began. -/
structure TSt (w : World) (b B n mb nb tb : Nat) (U V : Nat → Bool) (xs : List (Nat × Nat)) (W : World) : Prop where
  map : MapAt W b B (marks U (cut n xs)) V
  num : Boxed W nb 3 (.int .i64 ((n - total xs : Nat) : Int))
  ptr : Boxed W mb 24 (.pointer (some ⟨b, 0, none⟩))
  got : ∃ v, Boxed W tb 28 v ∧ ROwn W w.heap.size v (cut n xs)
  grown : w.grownBy W (some b)
  size : tb < W.heap.size

theorem ROwn.kept {W W' : World} {base : Nat} {v : Value} {xs : List (Nat × Nat)} {row : Option Nat} (h : ROwn W base v xs) (hg : W.grownBy W' row) (hne : ∀ q, v.ownBlock = some q → some q ≠ row) : ROwn W' base v xs := by
  obtain ⟨h1, h2⟩ := h
  refine ⟨h1, ?_⟩
  rcases h2 with h2 | ⟨g, cap, cur, rfl, hb, hgb, r⟩
  · exact .inl h2
  · exact .inr ⟨g, cap, cur, rfl, hb, (hg.block g (lt_of_block hgb) (hne g rfl)).trans hgb, r⟩
theorem ROwn.row {W : World} {base : Nat} {v : Value} {xs : List (Nat × Nat)} (h : ROwn W base v xs) {q : Nat} (hq : v.ownBlock = some q) : base ≤ q ∧ ∃ cur, W.heap[q]? = some (.cells cur 36 (0, 0)) := by
  rcases h.2 with ⟨rfl, _⟩ | ⟨g, cap, cur, rfl, hb, hg, r⟩
  · cases hq
  · cases hq; exact ⟨hb, cur, hg⟩
/-- Another block, by its type. -/
theorem ROwn.ne {W : World} {base : Nat} {v : Value} {xs : List (Nat × Nat)} (h : ROwn W base v xs) {q j : Nat} {C : Array Value} {t : TypeId} {fr : Nat × Nat} (hq : v.ownBlock = some q) (hj : W.heap[j]? = some (.cells C t fr)) (ht : t ≠ 36) : q ≠ j := by
  rintro rfl
  obtain ⟨_, cur, hc⟩ := h.row hq
  rw [hc] at hj
  cases hj
  exact ht rfl

theorem TSt.own (w : World) (b B n mb nb tb : Nat) (U V : Nat → Bool) (N : Nat) (hN : w.heap.size ≤ N) : OwnFrom N (fun pre : List (Nat × Nat) => TSt w b B n mb nb tb U V (pre.map cl)) := fun s X Y row h hg hr => by
  have cells : ∀ {j : Nat} {C : Array Value} {t : TypeId} {fr : Nat × Nat}, X.heap[j]? = some (.cells C t fr) → Y.heap[j]? = X.heap[j]? := @fun j C t fr hj => hg.block j (lt_of_block hj) (fun e => by
    obtain ⟨_, o, ho, hc⟩ := hr j e.symm
    rw [hj] at ho
    cases ho
    cases hc)
  obtain ⟨v, hv1, hv2⟩ := h.got
  refine ⟨h.map.of (cells h.map.blk), (cells h.num).trans h.num, (cells h.ptr).trans h.ptr, ⟨v, (cells hv1).trans hv1, hv2.kept hg fun q hq e => ?_⟩, h.grown.andThen hg (fun j e => .inl (by have := (hr j e).1; omega)), Nat.lt_of_lt_of_le h.size hg.size⟩
  obtain ⟨_, cur, hc⟩ := hv2.row hq
  obtain ⟨_, o, ho, hcc⟩ := hr q e.symm
  rw [hc] at ho
  cases ho
  cases hcc
end Go.Proofs.Ytmnmciajldoabaa
