/-
  DERIVED. The document's cache in memory: a number and a slice of items. New, Find.
-/
import Derived.Test.YtmhlfbgchhmffaaClateIi
import Derived.Test.YtmhlfbgchhmffaaCints
import Derived.Deep.MidRow
import Derived.Deep.RegionHeld3
namespace Go.Proofs.Ytmhlfbgchhmffaa
open Go.RowKit Go.Maps
set_option linter.unusedVariables false

/-- An item. -/
structure It where
  k : Int
  v : Int
  d : Bool
  p : Nat
abbrev itc (x : It) : List Value := [.int .i64 x.k, .int .i64 x.v, .bool x.d, .int .i64 (x.p : Int)]
def icells (xs : List It) : List Value := xs.flatMap itc
theorem icells_snoc (xs : List It) (x : It) : icells (xs ++ [x]) = icells xs ++ itc x := by simp [icells]
theorem icells_append (xs ys : List It) : icells (xs ++ ys) = icells xs ++ icells ys := by simp [icells]
theorem icells_cons (x : It) (xs : List It) : icells (x :: xs) = itc x ++ icells xs := by simp [icells]
theorem icells_len : ∀ xs : List It, (icells xs).length = xs.length * 4
  | [] => rfl
  | x :: xs => by rw [icells_cons, List.length_append, icells_len xs, List.length_cons]; simp; omega
theorem icells_one (xs : List It) : ∀ u ∈ icells xs, u.oneCell' = true := by
  intro u hu
  unfold icells at hu
  rw [List.mem_flatMap] at hu
  obtain ⟨x, _, hx⟩ := hu
  simp only [itc, List.mem_cons, List.not_mem_nil, or_false] at hx
  rcases hx with rfl | rfl | rfl | rfl <;> rfl
theorem icells_at : ∀ (xs : List It) (i : Nat) (h : i < xs.length), (icells xs)[i * 4]? = some (.int .i64 xs[i].k) ∧ (icells xs)[i * 4 + 1]? = some (.int .i64 xs[i].v) ∧ (icells xs)[i * 4 + 2]? = some (.bool xs[i].d) ∧ (icells xs)[i * 4 + 3]? = some (.int .i64 (xs[i].p : Int))
  | x :: xs, 0, _ => by simp [icells]
  | x :: xs, i + 1, h => by
    have ih := icells_at xs i (by simpa using h)
    have e : ∀ j, (icells (x :: xs))[(i + 1) * 4 + j]? = (icells xs)[i * 4 + j]? := fun j => by
      rw [icells_cons, List.getElem?_append_right (by simp; omega)]
      congr 1
      simp
      omega
    have e0 := e 0
    rw [Nat.add_zero, Nat.add_zero] at e0
    rw [e0, e 1, e 2, e 3]
    exact ih
theorem icells_set : ∀ (xs : List It) (i j : Nat) (u : Value) (y : It) (h : i < xs.length), j < 4 → (itc xs[i]).set j u = itc y → (icells xs).set (i * 4 + j) u = icells (xs.set i y)
  | x :: xs, 0, j, u, y, _, hj, e => by
    rw [icells_cons, List.set_cons_zero, icells_cons, ← e, Nat.zero_mul, Nat.zero_add, List.set_append_left _ _ (by simpa using hj)]
    rfl
  | x :: xs, i + 1, j, u, y, h, hj, e => by
    rw [icells_cons, List.set_cons_succ, icells_cons, ← icells_set xs i j u y (by simpa using h) hj (by simpa using e), List.set_append_right _ _ (by simp; omega)]
    congr 2
    simp
    omega

theorem Try.infoItem : (Try.prog.info? 130).map (fun i => (i.zero, i.size, i.bytes)) = some (some (.agg #[.int .i64 0, .int .i64 0, .bool false, .int .i64 0]), 4, 32) := by kernel_rfl
/-- A slice of items of one's own. -/
def IOwn (w : World) (base : Nat) (v : Value) (xs : List It) : Prop := w.ownsRow base 130 4 v xs.length (icells xs)
theorem IOwn.nil (w : World) (base : Nat) : IOwn w base (.slice none 0 0) [] := World.ownsRow_nil w _ _ _
theorem IOwn.keptB {W W' : World} {base : Nat} {v : Value} {xs : List It} (h : IOwn W base v xs) (hg : ∀ q, v.ownBlock = some q → q < W.heap.size → W'.heap[q]? = W.heap[q]?) : IOwn W' base v xs := by
  obtain ⟨h1, h2⟩ := h
  refine ⟨h1, ?_⟩
  rcases h2 with h2 | ⟨g, cap, cur, rfl, hb, hgb, r⟩
  · exact .inl h2
  · exact .inr ⟨g, cap, cur, rfl, hb, (hg g rfl (lt_of_block hgb)).trans hgb, r⟩
theorem IOwn.below {W W' : World} {base : Nat} {v : Value} {xs : List It} (h : IOwn W base v xs) (hg : Below W.heap.size W W') : IOwn W' base v xs := h.keptB (fun q _ hq => hg.block q hq)
theorem IOwn.mono {w : World} {base b2 : Nat} {v : Value} {xs : List It} (h : IOwn w base v xs) (hb : b2 ≤ base) : IOwn w b2 v xs := by
  obtain ⟨h1, h2⟩ := h
  refine ⟨h1, ?_⟩
  rcases h2 with h | ⟨g, cap, cur, a, b, c⟩
  · exact .inl h
  · exact .inr ⟨g, cap, cur, a, by omega, c⟩
theorem IOwn.row {W : World} {base : Nat} {v : Value} {xs : List It} (h : IOwn W base v xs) {q : Nat} (hq : v.ownBlock = some q) : base ≤ q ∧ ∃ cur, W.heap[q]? = some (.cells cur 130 (0, 0)) := by
  rcases h.2 with ⟨rfl, _⟩ | ⟨g, cap, cur, rfl, hb, hg, r⟩
  · cases hq
  · cases hq; exact ⟨hb, cur, hg⟩
theorem IOwn.form {w : World} {base : Nat} {v : Value} {xs : List It} (h : IOwn w base v xs) : ∃ ao cap, v = .slice ao xs.length cap ∧ xs.length ≤ cap ∧ cap ≤ 9223372036854775807 ∧ (ao = none → cap = 0) := by
  rcases h.2 with ⟨rfl, h0⟩ | ⟨g, cap, cur, rfl, hb, hg, hn, hm, hs, ht⟩
  · exact ⟨none, 0, by rw [h0], by omega, by omega, fun _ => rfl⟩
  · exact ⟨some ⟨g, 0, none⟩, cap, rfl, hn, by unfold maxLen at hm; omega, fun e => by cases e⟩
/-- An item as it lies. -/
theorem IOwn.at {w : World} {base n cap : Nat} {ao : Option Addr} {xs : List It} (h : IOwn w base (.slice ao n cap) xs) {i : Nat} (hi : i < xs.length) : ∃ g, ao = some ⟨g, 0, none⟩ ∧ base ≤ g ∧ (∃ cur, w.heap[g]? = some (.cells cur 130 (0, 0))) ∧
    w.cell? ⟨g, i * 4, none⟩ = some (.int .i64 xs[i].k) ∧ w.cell? ⟨g, i * 4 + 1, none⟩ = some (.int .i64 xs[i].v) ∧ w.cell? ⟨g, i * 4 + 2, none⟩ = some (.bool xs[i].d) ∧ w.cell? ⟨g, i * 4 + 3, none⟩ = some (.int .i64 (xs[i].p : Int)) := by
  rcases h.2 with ⟨e, h0⟩ | ⟨g, cap, cur, e, hb, hg, hn, hm, hs, ht⟩
  · omega
  · cases e
    have at' : ∀ j, j < xs.length * 4 → cur[j]? = (icells xs)[j]? := fun j hj => by
      have e : (cur.toList.take (xs.length * 4))[j]? = (icells xs)[j]? := by rw [ht]
      rw [List.getElem?_take_of_lt (by omega)] at e
      simpa using e
    obtain ⟨e0, e1, e2, e3⟩ := icells_at xs i hi
    refine ⟨g, rfl, hb, ⟨cur, hg⟩, ?_, ?_, ?_, ?_⟩ <;> rw [cell_of_row _ _ _ _ _ _ hg, at' _ (by omega)]
    · exact e0
    · exact e1
    · exact e2
    · exact e3
/-- One cell of it set. -/
theorem IOwn.set {w : World} {base g n cap : Nat} {xs : List It} (h : IOwn w base (.slice (some ⟨g, 0, none⟩) n cap) xs) (i j : Nat) (u : Value) (y : It) (hi : i < xs.length) (hj : j < 4) (e : (itc xs[i]).set j u = itc y) : IOwn (w.setCell ⟨g, i * 4 + j, none⟩ u) base (.slice (some ⟨g, 0, none⟩) n cap) (xs.set i y) := by
  obtain ⟨h1, h2⟩ := h
  refine ⟨by rw [icells_len, List.length_set], ?_⟩
  rcases h2 with ⟨e, _⟩ | ⟨g', cap', cur, e', hb, hg, hn, hm, hs, ht⟩
  · cases e
  · cases e'
    refine .inr ⟨g, cap, _, by rw [List.length_set], hb, heap_setCell_same w g (i * 4 + j) cur _ _ hg, by rw [List.length_set]; exact hn, hm, by simpa using hs, ?_⟩
    rw [← icells_set xs i j u y hi hj e, ← ht, List.length_set, Array.toList_setIfInBounds, List.take_set]
/-- A part of it, as it reads. -/
theorem IOwn.cells {w : World} {base g n cap : Nat} {xs : List It} (h : IOwn w base (.slice (some ⟨g, 0, none⟩) n cap) xs) (j : Nat) (u : Value) (hj : (icells xs)[j]? = some u) : w.cell? ⟨g, j, none⟩ = some u := by
  have := World.ownsRow.cells h (g := g) rfl j u hj
  rw [addr_add, Nat.zero_add] at this
  exact this

/-- Nothing below N has turned, and nothing of a cache's kinds. -/
structure RFr (N : Nat) (w w' : World) : Prop where
  os : w'.os = w.os
  tape : w'.tape = w.tape
  output : w'.output = w.output
  size : w.heap.size ≤ w'.heap.size
  block : ∀ k, k < w.heap.size → (k < N ∨ Ii.mine w k) → w'.heap[k]? = w.heap[k]?
theorem RFr.refl (N : Nat) (w : World) : RFr N w w := ⟨rfl, rfl, rfl, Nat.le_refl _, fun _ _ _ => rfl⟩
theorem RFr.trans {N : Nat} {a b c : World} (h : RFr N a b) (k : RFr N b c) : RFr N a c :=
  ⟨k.os.trans h.os, k.tape.trans h.tape, k.output.trans h.output, Nat.le_trans h.size k.size, fun i hi hn => by
    have e := h.block i hi hn
    refine (k.block i (Nat.lt_of_lt_of_le hi h.size) ?_).trans e
    rcases hn with hn | ⟨o, h1, h2⟩
    · exact .inl hn
    · exact .inr ⟨o, e.trans h1, h2⟩⟩
theorem RFr.of_below {N : Nat} {a b : World} (h : Below a.heap.size a b) : RFr N a b := ⟨h.os, h.tape, h.output, h.size, fun i hi _ => h.block i hi⟩
theorem RFr.drewN {N : Nat} {a b : World} (h : RFr N a b) (q : Nat) : RFr N a (b.drewN q) := ⟨h.os, h.tape, h.output, h.size, h.block⟩
theorem not_mine {w : World} {b : Nat} {C : Array Value} {t : TypeId} {fr : Nat × Nat} (h : w.heap[b]? = some (.cells C t fr)) (ht : t ≠ Ii.tcI ∧ t ≠ Ii.tlI ∧ t ≠ Ii.ttI) : ¬ Ii.mine w b := by
  rintro ⟨o, h1, h2⟩
  rw [h] at h1
  cases h1
  rcases h2 with h | h | h
  · exact ht.1 h
  · exact ht.2.1 h
  · exact ht.2.2 h
/-- A block of another kind, from N on, has turned. -/
theorem RFr.set {N : Nat} {a w : World} (h : RFr N a w) {b i : Nat} {C : Array Value} {t : TypeId} {fr : Nat × Nat} (hb : w.heap[b]? = some (.cells C t fr)) (hN : N ≤ b) (ht : t ≠ Ii.tcI ∧ t ≠ Ii.tlI ∧ t ≠ Ii.ttI) (v : Value) : RFr N a (w.setCell ⟨b, i, none⟩ v) :=
  h.trans ⟨rfl, rfl, rfl, by simp, fun k hk hn => Below.heap_setCell w ⟨b, i, none⟩ v k (fun e => by
    have e' : k = b := e
    subst e'
    rcases hn with hn | hn
    · omega
    · exact not_mine hb ht hn)⟩
theorem RFr.grown {N : Nat} {a w w' : World} {base : Nat} {v : Value} {xs : List It} (h : RFr N a w) (ho : IOwn w base v xs) (hb : N ≤ base) (hg : w.grownBy w' v.ownBlock) : RFr N a w' :=
  h.trans ⟨hg.os, hg.tape, hg.output, hg.size, fun k hk hn => hg.block k hk (fun e => by
    obtain ⟨h1, cur, h2⟩ := ho.row e.symm
    rcases hn with hn | hn
    · omega
    · exact not_mine h2 (by decide) hn)⟩
theorem CAt.rfr {N c M Z : Nat} {L : List Ii.T} {w w' : World} (h : Ii.CAt w N c M Z L) (hf : RFr N w w') : Ii.CAt w' N c M Z L := h.grown (fun k hk hm => hf.block k hk (.inr hm))
theorem RFr.below {N : Nat} {a b : World} (h : RFr N a b) (hN : N ≤ a.heap.size) : Below N a b := ⟨h.os, h.tape, h.output, h.size, fun i hi => h.block i (by omega) (.inl hi)⟩

/-- The document's cache at block b. -/
structure RC (w : World) (N b M : Nat) (v : Value) (xs : List It) : Prop where
  blk : w.heap[b]? = some (.cells #[.int .i64 (M : Int), v] 77 (0, 0))
  own : IOwn w N v xs
  nb : N ≤ b
  len : xs.length ≤ 1024
theorem RC.fr {N b M : Nat} {v : Value} {xs : List It} {w w' : World} (h : RC w N b M v xs) (hf : Ii.Fr N w w') : RC w' N b M v xs :=
  ⟨(hf.block b (lt_of_block h.blk) (.inr (not_mine h.blk (by decide)))).trans h.blk, h.own.keptB (fun q hq hlt => by
    obtain ⟨_, cur, hc⟩ := h.own.row hq
    exact hf.block q hlt (.inr (not_mine hc (by decide)))), h.nb, h.len⟩
theorem RC.below {N b M : Nat} {v : Value} {xs : List It} {w w' : World} (h : RC w N b M v xs) (hf : Below w.heap.size w w') : RC w' N b M v xs :=
  ⟨(hf.block b (lt_of_block h.blk)).trans h.blk, h.own.below hf, h.nb, h.len⟩
theorem RC.drewN {N b M : Nat} {v : Value} {xs : List It} {w : World} (h : RC w N b M v xs) (q : Nat) : RC (w.drewN q) N b M v xs := ⟨h.blk, h.own, h.nb, h.len⟩
theorem RC.c0 {N b M : Nat} {v : Value} {xs : List It} {w : World} (h : RC w N b M v xs) : w.cell? ⟨b, 0, none⟩ = some (.int .i64 (M : Int)) := (cell_of_row _ _ _ _ _ _ h.blk).trans rfl
theorem RC.c1 {N b M : Nat} {v : Value} {xs : List It} {w : World} (h : RC w N b M v xs) : w.cell? ⟨b, 1, none⟩ = some v := (cell_of_row _ _ _ _ _ _ h.blk).trans rfl

theorem rNew_no (w : World) (M : Int) (hM : M < 1 ∨ 1024 < M) : Calls Try.prog 9 #[.int .i64 M] w fun e w' => e = .returned (.tuple #[.pointer none, .int .i64 1]) ∧ w' = w := by
  rcases hM with h | h
  · go_enter Try.func9, Try.ntmps9
    go_wp2
    go_ret2
    exact ⟨rfl, rfl⟩
  · have h1 : ¬ M < 1 := by omega
    go_enter Try.func9, Try.ntmps9
    go_wp2
    go_ret2
    exact ⟨rfl, rfl⟩
theorem rNew_any (w : World) (N M : Nat) (h1 : 1 ≤ M) (h2 : M ≤ 1024) (hN : N ≤ w.heap.size) : Calls Try.prog 9 #[.int .i64 (M : Int)] w fun e w' => ∃ b, e = .returned (.tuple #[.pointer (some ⟨b, 0, none⟩), .int .i64 0]) ∧ RC w' N b M (.slice none 0 0) [] ∧ Below w.heap.size w w' := by
  have k1 : ¬ (M : Int) < 1 := by omega
  have k2 : ¬ (1024 : Int) < (M : Int) := by omega
  go_enter Try.func9, Try.ntmps9
  go_wp2
  go_ret2
  exact ⟨w.heap.size, rfl, ⟨heap_alloc_new _ _, IOwn.nil _ _, hN, by simp⟩, (Below.refl w.heap.size w).alloc (Nat.le_refl _) _⟩

set_option maxHeartbeats 1000000 in
theorem rFind_none (w : World) (N b M : Nat) (v : Value) (xs : List It) (k : Int) (h : RC w N b M v xs) (hk : ∀ x ∈ xs, x.k ≠ k) :
    Calls Try.prog 59 #[.pointer (some ⟨b, 0, none⟩), .int .i64 k] w fun e w' => e = .returned (.int .i64 (-1)) ∧ w' = w := by
  have c1 := h.c1
  obtain ⟨ao, cap, rfl, h1, h2, _⟩ := h.own.form
  have HO := hide h.own
  obtain ⟨n, hn⟩ : ∃ n, n = xs.length := ⟨_, rfl⟩
  have hl := h.len
  rw [← hn] at c1 h1 hl HO
  have HN := hide hn
  have hni : (n : Int) ≤ 1024 := by omega
  have HK := hide hk
  clear hn h hk
  go_enter Try.func59, Try.ntmps59
  go_wp2
  go_loop [5] (fun i => ∃ j : Nat, i = .int .i64 (j : Int) ∧ j ≤ n) (fun i => n - (intOf i).toNat)
  case atStart => exact ⟨0, rfl, by omega⟩
  case round =>
    obtain ⟨j, rfl, hj⟩ := hrel
    have hji : (j : Int) ≤ 1024 := by omega
    by_cases hlt : j < n
    · have hlt' : (j : Int) < (n : Int) := by omega
      have hidx : (0 : Int) ≤ (j : Int) ∧ (j : Int) < (n : Int) := ⟨by omega, hlt'⟩
      have hjx : j < xs.length := by rw [← unhide HN]; exact hlt
      obtain ⟨g, rfl, _, _, d0, _⟩ := (unhide HO).at hjx
      have hne : (xs[j].k == k) = false := by simpa using unhide HK _ (List.getElem_mem hjx)
      go_wp2
      go_round
      case rel => exact ⟨j + 1, by go_num, by omega⟩
      case measure => simp [intOf]; omega
    · have hlt' : ¬ (j : Int) < (n : Int) := by omega
      go_wp2
      go_ret
      exact ⟨rfl, rfl⟩
set_option maxHeartbeats 1000000 in
theorem rFind_some (w : World) (N b M : Nat) (v : Value) (X1 X2 : List It) (t : It) (h : RC w N b M v (X1 ++ t :: X2)) (hk : ∀ x ∈ X1, x.k ≠ t.k) :
    Calls Try.prog 59 #[.pointer (some ⟨b, 0, none⟩), .int .i64 t.k] w fun e w' => e = .returned (.int .i64 (X1.length : Int)) ∧ w' = w := by
  have c1 := h.c1
  obtain ⟨ao, cap, rfl, h1, h2, _⟩ := h.own.form
  have HO := hide h.own
  obtain ⟨n, hn⟩ : ∃ n, n = (X1 ++ t :: X2).length := ⟨_, rfl⟩
  obtain ⟨q, hq⟩ : ∃ q, q = X1.length := ⟨_, rfl⟩
  have hl := h.len
  rw [← hn] at c1 h1 hl HO
  have hqn : q < n := by rw [hn, hq]; simp
  rw [← hq]
  have HN := hide hn
  have HQ := hide hq
  have hni : (n : Int) ≤ 1024 := by omega
  have HK := hide hk
  clear hn h hk hq
  go_enter Try.func59, Try.ntmps59
  go_wp2
  go_loop [5] (fun i => ∃ j : Nat, i = .int .i64 (j : Int) ∧ j ≤ q) (fun i => n - (intOf i).toNat)
  case atStart => exact ⟨0, rfl, by omega⟩
  case round =>
    obtain ⟨j, rfl, hj⟩ := hrel
    have hji : (j : Int) ≤ 1024 := by omega
    have hlt' : (j : Int) < (n : Int) := by omega
    have hidx : (0 : Int) ≤ (j : Int) ∧ (j : Int) < (n : Int) := ⟨by omega, hlt'⟩
    have hjx : j < (X1 ++ t :: X2).length := by rw [← unhide HN]; omega
    obtain ⟨g, rfl, _, _, d0, _⟩ := (unhide HO).at hjx
    by_cases hlt : j < q
    · have hj1 : j < X1.length := by rw [← unhide HQ]; exact hlt
      have hne : ((X1 ++ t :: X2)[j].k == t.k) = false := by
        rw [List.getElem_append_left hj1]
        simpa using unhide HK _ (List.getElem_mem hj1)
      obtain ⟨y, hy⟩ : ∃ y, y = (X1 ++ t :: X2)[j].k := ⟨_, rfl⟩
      rw [← hy] at d0 hne
      clear hy
      go_wp2
      go_round
      case rel => exact ⟨j + 1, by go_num, by omega⟩
      case measure => simp [intOf]; omega
    · obtain rfl : j = q := by omega
      have e : (X1 ++ t :: X2)[j].k = t.k := by
        have : j = X1.length := unhide HQ
        subst this
        simp
      rw [e] at d0
      have heq : (t.k == t.k) = true := by simp
      clear e
      go_wp2
      go_ret
      exact ⟨rfl, rfl⟩
end Go.Proofs.Ytmhlfbgchhmffaa
