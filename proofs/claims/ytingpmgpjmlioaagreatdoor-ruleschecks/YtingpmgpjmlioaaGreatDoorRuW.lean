/-
  DERIVED. Expressions: plain, and in memory.
-/
import Derived.Test.YtingpmgpjmlioaaGreatDoorShR7
import Derived.Deep.RegionLaw
import Derived.BigQuiet
namespace Go.Proofs.YtingpmgpjmlioaaGreatDoor
open Go.RowKit
set_option linter.unusedVariables false

/-- An expression. -/
inductive Ex where
  | mk (kind n : Int) (s : List UInt8) (args : List Ex)
def Ex.kind : Ex → Int | .mk k _ _ _ => k
def Ex.n : Ex → Int | .mk _ n _ _ => n
def Ex.s : Ex → List UInt8 | .mk _ _ s _ => s
def Ex.args : Ex → List Ex | .mk _ _ _ l => l
theorem Ex.eta (x : Ex) : Ex.mk x.kind x.n x.s x.args = x := by cases x; rfl

def I64 (z : Int) : Prop := -9223372036854775808 ≤ z ∧ z ≤ 9223372036854775807

/-- The cells of an expression whose Args lie there. -/
abbrev exV (x : Ex) (a : Option Addr) (c : Nat) : Array Value := #[.int .i64 x.kind, .int .i64 x.n, sv x.s, .slice a x.args.length c]

/-- An expression's Args lie at a, with room c: all that it holds is there. -/
inductive ExAt (w : World) : Ex → Option Addr → Nat → Prop
  | mk (x : Ex) (a : Option Addr) (c b off : Nat) (A : Nat → Option Addr) (C : Nat → Nat) (h1 : x.args.length ≤ c) (h2 : c ≤ 9223372036854775807) (h3 : c ≠ 0 → a = some ⟨b, off, none⟩ ∧ b < w.heap.size) (hk : I64 x.kind) (hn : I64 x.n) (hs : x.s.length ≤ 140737488355328)
      (hc : ∀ i, (h : i < x.args.length) → w.cell? ⟨b, off + i * 4, none⟩ = some (.int .i64 x.args[i].kind) ∧ w.cell? ⟨b, off + i * 4 + 1, none⟩ = some (.int .i64 x.args[i].n) ∧ w.cell? ⟨b, off + i * 4 + 2, none⟩ = some (sv x.args[i].s) ∧ w.cell? ⟨b, off + i * 4 + 3, none⟩ = some (.slice (A i) x.args[i].args.length (C i)))
      (hr : ∀ i, (h : i < x.args.length) → ExAt w x.args[i] (A i) (C i)) : ExAt w x a c

theorem ExAt.grown {w w' : World} {x : Ex} {a : Option Addr} {c : Nat} (h : ExAt w x a c) (hb : Below w.heap.size w w') : ExAt w' x a c := by
  induction h with
  | mk x a c b off A C h1 h2 h3 hk hn hs hc hr ih =>
    refine .mk x a c b off A C h1 h2 (fun hz => ⟨(h3 hz).1, Nat.lt_of_lt_of_le (h3 hz).2 hb.size⟩) hk hn hs (fun i hi => ?_) (fun i hi => ih i hi)
    have hlt : b < w.heap.size := (h3 (by omega)).2
    obtain ⟨c0, c1, c2, c3⟩ := hc i hi
    exact ⟨(hb.cell (p := ⟨b, off + i * 4, none⟩) hlt).trans c0, (hb.cell (p := ⟨b, off + i * 4 + 1, none⟩) hlt).trans c1, (hb.cell (p := ⟨b, off + i * 4 + 2, none⟩) hlt).trans c2, (hb.cell (p := ⟨b, off + i * 4 + 3, none⟩) hlt).trans c3⟩

/-- A node: an expression, and where its Args lie. -/
structure Nd where
  x : Ex
  a : Option Addr
  c : Nat
def Nd.at (d : Nd) (w : World) : Prop := ExAt w d.x d.a d.c
abbrev ndv (d : Nd) : Array Value := exV d.x d.a d.c
def ncs (l : List Nd) : List Value := l.flatMap (fun d => (ndv d).toList)
theorem ncs_len (l : List Nd) : (ncs l).length = l.length * 4 := by
  induction l with
  | nil => rfl
  | cons d r ih => rw [show ncs (d :: r) = (ndv d).toList ++ ncs r from rfl, List.length_append, ih]; simp; omega
theorem ncs_append (a b : List Nd) : ncs (a ++ b) = ncs a ++ ncs b := by simp [ncs]
theorem ncs_one (l : List Nd) : ∀ u ∈ ncs l, u.oneCell' = true := by
  intro u hu
  obtain ⟨d, _, hd⟩ := List.mem_flatMap.1 hu
  simp only [List.mem_cons, List.not_mem_nil, or_false] at hd
  rcases hd with rfl | rfl | rfl | rfl <;> rfl
theorem ncs_get : ∀ (l : List Nd) (i : Nat) (h : i < l.length), (ncs l)[i * 4]? = some (.int .i64 l[i].x.kind) ∧ (ncs l)[i * 4 + 1]? = some (.int .i64 l[i].x.n) ∧ (ncs l)[i * 4 + 2]? = some (sv l[i].x.s) ∧ (ncs l)[i * 4 + 3]? = some (.slice l[i].a l[i].x.args.length l[i].c)
  | [], _, h => by simp at h
  | d :: r, 0, _ => by simp [ncs]
  | d :: r, i + 1, h => by
    have ih := ncs_get r i (by simpa using h)
    have e : ∀ j, (ncs (d :: r))[(i + 1) * 4 + j]? = (ncs r)[i * 4 + j]? := fun j => by
      rw [show ncs (d :: r) = (ndv d).toList ++ ncs r from rfl, List.getElem?_append_right (by simp; omega)]
      congr 1
      simp; omega
    refine ⟨(e 0).trans ih.1, (e 1).trans ih.2.1, (e 2).trans ih.2.2.1, (e 3).trans ih.2.2.2⟩

/-- A slice of nodes of one's own. -/
def NRow (w : World) (base : Nat) (v : Value) (l : List Nd) : Prop := w.ownsRow base 44 4 v l.length (ncs l)
theorem NRow.below {B base : Nat} {w w' : World} {v : Value} {l : List Nd} (h : NRow w base v l) (hb : Below B w w') (hB : w.heap.size ≤ B) : NRow w' base v l := by
  obtain ⟨h1, h2⟩ := h
  refine ⟨h1, ?_⟩
  rcases h2 with h | ⟨g, cap, cur, a, b, c, r⟩
  · exact .inl h
  · exact .inr ⟨g, cap, cur, a, b, (hb.block g (by have := lt_of_block c; omega)).trans c, r⟩
theorem Tryz.infoExpr : (Tryz.prog.info? 44).map (fun i => (i.zero, i.size, i.bytes)) = some (some (.agg #[.int .i64 0, .int .i64 0, .string ⟨#[]⟩, .slice none 0 0]), 4, 56) := by kernel_rfl

/-- Its Args as nodes. -/
theorem ExAt.nodes {w : World} {x : Ex} {a : Option Addr} {c : Nat} (h : ExAt w x a c) : ∃ (l : List Nd), l.map (·.x) = x.args ∧ (∀ d ∈ l, d.at w) ∧ x.args.length ≤ c ∧ c ≤ 9223372036854775807 ∧ (c ≠ 0 → ∃ b off, a = some ⟨b, off, none⟩ ∧ b < w.heap.size ∧ ∀ j u, (ncs l)[j]? = some u → w.cell? ⟨b, off + j, none⟩ = some u) := by
  obtain ⟨_, _, _, b, off, A, C, h1, h2, h3, hk, hn, hs, hc, hr⟩ := h
  have hl : (x.args.mapIdx (fun i y => (⟨y, A i, C i⟩ : Nd))).length = x.args.length := by simp
  refine ⟨x.args.mapIdx (fun i y => ⟨y, A i, C i⟩), ?_, ?_, h1, h2, fun hz => ⟨b, off, (h3 hz).1, (h3 hz).2, fun j u hj => ?_⟩⟩
  · refine List.ext_getElem (by simp) fun i h1 h2 => by simp
  · intro d hd
    obtain ⟨i, hi, rfl⟩ := List.mem_iff_getElem.1 hd
    simp only [List.getElem_mapIdx]
    exact hr i (by simpa using hi)
  · have hlt := (List.getElem?_eq_some_iff.1 hj).1
    rw [ncs_len, hl] at hlt
    have hi : j / 4 < x.args.length := by omega
    have g := ncs_get (x.args.mapIdx (fun i y => (⟨y, A i, C i⟩ : Nd))) (j / 4) (by rw [hl]; exact hi)
    simp only [List.getElem_mapIdx] at g
    obtain ⟨c0, c1, c2, c3⟩ := hc (j / 4) hi
    have hm : j % 4 < 4 := by omega
    have e : j = j / 4 * 4 + j % 4 := by omega
    rw [e] at hj ⊢
    generalize j / 4 = q at *
    generalize j % 4 = m at hj hm ⊢
    match m, hm with
    | 0, _ => rw [Nat.add_zero] at hj ⊢; rw [c0]; exact g.1.symm.trans hj
    | 1, _ => rw [← Nat.add_assoc, c1]; exact g.2.1.symm.trans hj
    | 2, _ => rw [← Nat.add_assoc, c2]; exact g.2.2.1.symm.trans hj
    | 3, _ => rw [← Nat.add_assoc, c3]; exact g.2.2.2.symm.trans hj
end Go.Proofs.YtingpmgpjmlioaaGreatDoor

namespace Go.Proofs.YtingpmgpjmlioaaGreatDoor
open Go.RowKit
set_option linter.unusedVariables false

/-- Nodes gathered in i rounds: no more than 65. -/
def bfsN (e : Ex) : Nat → List Ex
  | 0 => [e]
  | i + 1 => match (bfsN e i)[i]? with
    | some x => bfsN e i ++ x.args.take (65 - (bfsN e i).length)
    | none => bfsN e i
def nodesX (e : Ex) : List Ex := bfsN e 65
theorem bfs_some {e x : Ex} {i : Nat} (h : (bfsN e i)[i]? = some x) : bfsN e (i + 1) = bfsN e i ++ x.args.take (65 - (bfsN e i).length) := by rw [bfsN, h]
theorem bfs_stop {e : Ex} {i : Nat} (h : (bfsN e i).length ≤ i) : ∀ j, bfsN e (i + j) = bfsN e i
  | 0 => rfl
  | j + 1 => by
    have ih := bfs_stop h j
    rw [← Nat.add_assoc, bfsN, ih, List.getElem?_eq_none (by omega)]
theorem bfs_len (e : Ex) : ∀ i, 1 ≤ (bfsN e i).length ∧ (bfsN e i).length ≤ 65
  | 0 => by simp [bfsN]
  | i + 1 => by
    have ih := bfs_len e i
    rw [bfsN]
    split
    · simp; omega
    · exact ih

theorem nrow_cells {w : World} {base : Nat} {v : Value} {l : List Nd} (h : NRow w base v l) : ∃ a c, v = .slice a l.length c ∧ l.length ≤ c ∧ c ≤ 9223372036854775807 ∧ (l.length ≠ 0 → ∃ g, a = some ⟨g, 0, none⟩ ∧ g < w.heap.size ∧ ∀ i, (hi : i < l.length) → w.cell? ⟨g, i * 4, none⟩ = some (.int .i64 l[i].x.kind) ∧ w.cell? ⟨g, i * 4 + 1, none⟩ = some (.int .i64 l[i].x.n) ∧ w.cell? ⟨g, i * 4 + 2, none⟩ = some (sv l[i].x.s) ∧ w.cell? ⟨g, i * 4 + 3, none⟩ = some (.slice l[i].a l[i].x.args.length l[i].c)) := by
  have hr := h
  obtain ⟨h1, h2⟩ := h
  rcases h2 with ⟨e, h0⟩ | ⟨g, cap, cur, e, _, hg, hn, hm, _⟩
  · exact ⟨none, 0, by rw [e, h0], by omega, by omega, fun hz => absurd h0 hz⟩
  · refine ⟨_, cap, e, hn, by unfold maxLen at hm; omega, fun _ => ⟨g, rfl, lt_of_block hg, fun i hi => ?_⟩⟩
    rw [e] at hr
    obtain ⟨g0, g1, g2, g3⟩ := ncs_get l i hi
    exact ⟨(hr.cellAt _ (by omega)).trans g0, (hr.cellAt _ (by omega)).trans g1, (hr.cellAt _ (by omega)).trans g2, (hr.cellAt _ (by omega)).trans g3⟩

theorem step_append_nds {ops : Array Oper} {o : Oper} {a : Act} {w : World} {K : Act → World → Prop} {Q : Exit → Act → World → Prop} {E : Prop}
    (hg : o.guard = none) (s x : Operand) (ho : o.op = .call { callee := .builtin .append, args := #[s, x], argTypes := #[42, 42] })
    (base : Nat) (v : Value) (R : List Nd) (hs : a.eval s = v) (hown : NRow w base v R) (ya : Option Addr) (n yc : Nat) (m : List Nd) (hn : n = m.length) (hx : a.eval x = .slice ya n yc) (hnil : ya = none → yc = 0 ∧ n = 0)
    (hy : ∀ ad, ya = some ad → ∀ (j : Nat) (u : Value), (ncs m)[j]? = some u → w.cell? (ad.add j) = some u) (hlen : R.length + m.length ≤ 1000000) (hbase : base ≤ w.heap.size)
    (hK : ∀ v' w', NRow w' base v' (R ++ m) → Below base w w' → K (a.put o.dst v') w') :
    if Region.wanted o (yielded ops a.tmps) = true then Oper.wp Tryz.prog o a w K Q else E := by
  subst hn
  have hw : Region.wanted o (yielded ops a.tmps) = true := by simp [Region.wanted, hg]
  rw [if_pos hw]
  obtain ⟨i0, hi, hh⟩ := Option.map_eq_some_iff.1 Tryz.infoExpr
  simp only [Prod.mk.injEq] at hh
  cases ya with
  | none =>
    obtain ⟨rfl, h0⟩ := hnil rfl
    have hm : m = [] := List.eq_nil_of_length_eq_zero h0
    subst hm
    have hrun := run_append_owned_none (P := Tryz.prog) (w := w) base 42 o.type 44 i0 4 Tryz.underlying42 hi v R.length (ncs R) hown
    unfold Oper.wp
    simp [execOp, ho, resolve, invoke, builtin, hs, hx, hrun, Result.andThen]
    exact hK v w (by simpa using hown) (Below.refl _ _)
  | some ad =>
    obtain ⟨v', w', hrun, r1, r2, _⟩ := run_append_own (P := Tryz.prog) w base 42 o.type 44 i0 _ 4 56 Tryz.underlying42 hi hh.1 hh.2.1 hh.2.2 rfl (by decide) v R.length (ncs R) hown ad m.length yc (ncs m) (by rw [ncs_len]) (hy ad rfl) (ncs_one m) (by unfold maxLen; omega) (by omega) hbase
    unfold Oper.wp
    simp [execOp, ho, resolve, invoke, builtin, hs, hx, hrun, Result.andThen]
    refine hK v' w' (by unfold NRow; rw [ncs_append, List.length_append]; exact r1) ((Below.refl _ _).grown r2 hbase ?_)
    intro k hk
    rcases hown.2 with ⟨rfl, _⟩ | ⟨g, cap', cur, rfl, hb, _⟩
    · cases hk
    · simp only [Value.ownBlock, Option.some.injEq] at hk; omega

theorem nrow_one (w : World) (d : Nd) : NRow (w.alloc (.cells (ndv d) 44)) w.heap.size (.slice (some ⟨w.heap.size, 0, none⟩) 1 1) [d] :=
  ⟨by rw [ncs_len], .inr ⟨w.heap.size, 1, ndv d, rfl, Nat.le_refl _, heap_alloc_new _ _, by simp, by unfold maxLen; omega, by simp, by simp [ncs]⟩⟩
theorem take_ncs (l : List Nd) (k : Nat) : ∀ (j : Nat) (u : Value), (ncs (l.take k))[j]? = some u → (ncs l)[j]? = some u := by
  intro j u h
  have e : ncs l = ncs (l.take k) ++ ncs (l.drop k) := by rw [← ncs_append, List.take_append_drop]
  rw [e, List.getElem?_append_left (List.getElem?_eq_some_iff.1 h).1]
  exact h

theorem min_cast (a b : Nat) : min (a : Int) (b : Int) = ((min a b : Nat) : Int) := by omega

/-- Where nodes stands. -/
structure NSt (w wr : World) (e : Ex) (v : Value) (k : Nat) (l : List Nd) : Prop where
  bel : Below w.heap.size w wr
  row : NRow wr w.heap.size v l
  all : ∀ x ∈ l, x.at w
  eq : l.map (·.x) = bfsN e k
theorem NSt.len {w wr : World} {e : Ex} {v : Value} {k : Nat} {l : List Nd} (h : NSt w wr e v k l) : 1 ≤ l.length ∧ l.length ≤ 65 := by
  have := bfs_len e k
  rw [← h.eq, List.length_map] at this
  exact this

set_option maxHeartbeats 4000000 in
theorem nodes_any (d : Nd) (w : World) (hd : d.at w) :
    Calls Tryz.prog 62 #[.agg (ndv d)] w fun e w' => ∃ v l, e = .returned v ∧ NRow w' w.heap.size v l ∧ (∀ x ∈ l, x.at w) ∧ l.map (·.x) = nodesX d.x ∧ Below w.heap.size w w' := by
  have hb1 : Below w.heap.size w (w.alloc (.cells (ndv d) 44)) := (Below.refl _ _).alloc (Nat.le_refl _) _
  have hx1 : (w.alloc (.cells (ndv d) 44)).heap[w.heap.size]? = some (.cells (ndv d) 44 (0, 0)) := heap_alloc_new _ _
  have HS0 : Hid (NSt w ((w.alloc (.cells (ndv d) 44)).alloc (.cells (ndv d) 44)) d.x (.slice (some ⟨w.heap.size + 1, 0, none⟩) 1 1) 0 [d]) := hide
    ⟨hb1.alloc hb1.size _, (by
      have := nrow_one (w.alloc (.cells (ndv d) 44)) d
      rw [show (w.alloc (.cells (ndv d) 44)).heap.size = w.heap.size + 1 by simp] at this
      obtain ⟨h1, h2⟩ := this
      refine ⟨h1, ?_⟩
      rcases h2 with h2 | ⟨g, cap, cur, e, hb, r⟩
      · exact .inl h2
      · exact .inr ⟨g, cap, cur, e, by omega, r⟩), fun x hx => by rw [List.mem_singleton.1 hx]; exact hd, rfl⟩
  have c0 : (w.alloc (.cells (ndv d) 44)).cell? ⟨w.heap.size, 0, none⟩ = some (.int .i64 d.x.kind) := (cell_of_row _ _ _ _ _ _ hx1).trans rfl
  have c1 : (w.alloc (.cells (ndv d) 44)).cell? ⟨w.heap.size, 1, none⟩ = some (.int .i64 d.x.n) := (cell_of_row _ _ _ _ _ _ hx1).trans rfl
  have c2 : (w.alloc (.cells (ndv d) 44)).cell? ⟨w.heap.size, 2, none⟩ = some (sv d.x.s) := (cell_of_row _ _ _ _ _ _ hx1).trans rfl
  have c3 : (w.alloc (.cells (ndv d) 44)).cell? ⟨w.heap.size, 3, none⟩ = some (.slice d.a d.x.args.length d.c) := (cell_of_row _ _ _ _ _ _ hx1).trans rfl
  have hz1 : (w.alloc (.cells (ndv d) 44)).heap.size = w.heap.size + 1 := by simp
  obtain ⟨w1, hw1⟩ : ∃ w1, w1 = w.alloc (.cells (ndv d) 44) := ⟨_, rfl⟩
  rw [← hw1] at c0 c1 c2 c3 hz1 HS0
  have HW1 := hide hw1
  have HZ := hide hz1
  obtain ⟨dx, da, dc⟩ := d
  simp only at c0 c1 c2 c3
  clear hb1 hx1 hw1 hz1 hd
  go_enter Tryz.func62, Tryz.ntmps62
  go_upto_region 1 with fail
  rw [show w.alloc (.cells #[Value.int IntKind.i64 dx.kind, .int .i64 dx.n, Value.string ⟨dx.s.toArray⟩, .slice da dx.args.length dc] 44) = w1 from (unhide HW1).symm]
  rw [← unhide HZ] at HS0
  clear HW1 HZ
  go_wp2_with fail
  clear c0 c1 c2 c3
  go_loopw [3, 4, 5] (fun v i _ wr => ∃ (k : Nat) (l : List Nd), i = .int .i64 k ∧ k ≤ l.length ∧ Hid (NSt w wr dx v k l)) (fun _ i _ _ => 65 - (intOf i).toNat)
  case atStart => exact ⟨0, _, rfl, by simp, HS0⟩
  case round =>
    clear HS0
    obtain ⟨k, l, rfl, hk, HS⟩ := hrel
    obtain ⟨va, vc, rfl, hlc, hvc, hcell⟩ := nrow_cells (unhide HS).row
    have hlen := (unhide HS).len
    obtain ⟨g, rfl, hg, hcs⟩ := hcell (by omega)
    by_cases hlt : k < l.length
    · have c3 := (hcs k hlt).2.2.2
      obtain ⟨⟨xx, xa, xc⟩, hx⟩ : ∃ x, x = l[k] := ⟨_, rfl⟩
      rw [← hx] at c3
      simp only at c3
      have hxat : ExAt w xx xa xc := (unhide HS).all ⟨xx, xa, xc⟩ (by rw [hx]; exact List.getElem_mem hlt)
      obtain ⟨M, hM, hMa, hMc, hcc, hMm⟩ := hxat.nodes
      have hbk : (bfsN dx k)[k]? = some xx := by rw [← (unhide HS).eq, List.getElem?_map, List.getElem?_eq_getElem hlt, ← hx]; rfl
      have hbs := bfs_some hbk
      rw [← (unhide HS).eq, List.length_map] at hbs
      obtain ⟨LN, hLN⟩ : ∃ LN, LN = l.length := ⟨_, rfl⟩
      obtain ⟨AN, hAN⟩ : ∃ AN, AN = xx.args.length := ⟨_, rfl⟩
      obtain ⟨r, hr⟩ : ∃ r, r = 65 - LN := ⟨_, rfl⟩
      have mn := min_cast r AN
      have ht1 : min r AN ≤ AN := Nat.min_le_right _ _
      have ht2 : min r AN ≤ r := Nat.min_le_left _ _
      have hMt : (M.take (min r AN)).map (·.x) = xx.args.take (65 - l.length) := by
        rw [List.map_take, hM, hr, hLN, hAN]
        by_cases h : 65 - l.length ≤ xx.args.length
        · rw [Nat.min_eq_left h]
        · rw [Nat.min_eq_right (by omega), List.take_length, List.take_of_length_le (by omega)]
      obtain ⟨t, ht⟩ : ∃ t, t = min r AN := ⟨_, rfl⟩
      rw [← ht] at mn ht1 ht2 hMt
      clear ht
      have hMl : M.length = AN := by rw [hAN, ← hM]; simp
      have htl : t = (M.take t).length := by rw [List.length_take]; omega
      have HN : Hid (∀ v W, NRow W w.heap.size v (l ++ M.take t) → Below w.heap.size w W → NSt w W dx v (k + 1) (l ++ M.take t)) := hide (fun v W hrow hb => ⟨hb, hrow, fun y hy => by
        rcases List.mem_append.1 hy with hy | hy
        · exact (unhide HS).all y hy
        · exact hMa y (List.mem_of_mem_take hy), by rw [List.map_append, hMt, hbs]⟩)
      have HY : Hid (∀ W, Below w.heap.size w W → ∀ ad, xa = some ad → ∀ (j : Nat) (u : Value), (ncs (M.take t))[j]? = some u → W.cell? (ad.add j) = some u) := hide (fun W hW ad had j u hj => by
        have hj' := take_ncs M t j u hj
        have hjl := (List.getElem?_eq_some_iff.1 hj').1
        rw [ncs_len] at hjl
        obtain ⟨b, off, e, hb, hcm⟩ := hMm (by omega)
        rw [had] at e
        cases e
        have := (hW.cell (p := ⟨b, off + j, none⟩) hb).trans (hcm j u hj')
        rw [addr_add]
        exact this)
      have HNO : Hid (xa = none → xc = 0 ∧ t = 0) := hide (fun e => by
        by_cases hz : xc = 0
        · exact ⟨hz, by omega⟩
        · obtain ⟨b, off, e2, _⟩ := hMm hz; rw [e] at e2; cases e2)
      have HTL := hide htl
      have HR := hide (unhide HS).row
      have HBL := hide (unhide HS).bel
      have hsz := (unhide HBL).size
      have HL2 : Hid (l.length + (M.take t).length ≤ 1000000) := hide (by rw [← htl]; omega)
      have htc : t ≤ xc := by omega
      have tc1 : (0 : Int) ≤ (t : Int) := by omega
      have tc2 : (t : Int) ≤ (xc : Int) := by omega
      have w1' : IntKind.i64.wrap ((65 : Int) - (LN : Int)) = (r : Int) := by rw [IntKind.wrap_i64]; omega
      have hkL : (k : Int) < (LN : Int) := by omega
      have HKL := hide (And.intro hlt hLN)
      have hlt' : k < LN := by omega
      have hk65 : k < 65 := by omega
      rw [← hLN] at hlc HR ⊢
      rw [← hAN] at c3
      clear hbk hbs hM hMa hMm hMt hMl htl hxat hx hr hAN hcs hcell hMc HS hLN hlt hlen hk
      go_upto_region 6 with fail
      go_region_law (first | (refine step_append_nds rfl (.tmp 17) (.tmp 31) rfl w.heap.size _ l rfl ?own xa t xc (M.take t) (unhide HTL) rfl (unhide HNO) ?cl (unhide HL2) ?hb ?_; (case own => first | exact unhide HR | exact (unhide HR).below (below_drewN (Below.refl _ _) _) (Nat.le_refl _) | exact (unhide HR).below (Below.refl _ _).drew (Nat.le_refl _)); (case cl => first | exact unhide HY _ (unhide HBL) | exact unhide HY _ (unhide HBL).drew); (case hb => simp; omega); intro v' w2 own2 b2; have HN2 := hide (unhide HN v' w2 own2 ((unhide HBL).drew.trans b2)); clear own2 b2))
      all_goals
        go_wp2
        go_roundw
        case rel => exact ⟨k + 1, l ++ M.take t, by go_num, (by have := (unhide HKL).1; simp; omega), HN2⟩
        case measure => simp [intOf]; omega
    · have hkl : k = l.length := by omega
      have HE : Hid (l.map (·.x) = nodesX dx) := hide (by
        rw [(unhide HS).eq]
        have h1 : (bfsN dx k).length ≤ k := by rw [← (unhide HS).eq, List.length_map]; omega
        have := bfs_stop h1 (65 - k)
        rw [show k + (65 - k) = 65 by omega] at this
        exact this.symm)
      go_wp2_with fail
      go_ret
      exact ⟨_, l, rfl, (unhide HS).row, (unhide HS).all, unhide HE, (unhide HS).bel⟩

/-- How many Args a kind has. -/
def argsN (k : Int) : Int := if 1 ≤ k ∧ k ≤ 5 then 0 else if k = 10 ∨ k = 11 then 1 else if 6 ≤ k ∧ k ≤ 9 then 2 else -1

set_option maxHeartbeats 4000000 in
theorem argsOf_any (k : Int) (w : World) : Calls Tryz.prog 95 #[.int .i64 k] w fun e w' => e = .returned (.int .i64 (argsN k)) ∧ w = w' := by
  by_cases hin : 1 ≤ k ∧ k ≤ 11
  · have hk : k = 1 ∨ k = 2 ∨ k = 3 ∨ k = 4 ∨ k = 5 ∨ k = 6 ∨ k = 7 ∨ k = 8 ∨ k = 9 ∨ k = 10 ∨ k = 11 := by omega
    clear hin
    rcases hk with rfl | rfl | rfl | rfl | rfl | rfl | rfl | rfl | rfl | rfl | rfl
    all_goals
      go_enter Tryz.func95, Tryz.ntmps95
      go_wp2_with fail
      go_ret
      exact ⟨rfl, rfl⟩
  · have hA : argsN k = -1 := by unfold argsN; rw [if_neg (by omega), if_neg (by omega), if_neg (by omega)]
    rw [hA]
    have e1 : (k == 1) = false := by rw [beq_eq_false_iff_ne]; omega
    have e2 : (k == 2) = false := by rw [beq_eq_false_iff_ne]; omega
    have e3 : (k == 3) = false := by rw [beq_eq_false_iff_ne]; omega
    have e4 : (k == 4) = false := by rw [beq_eq_false_iff_ne]; omega
    have e5 : (k == 5) = false := by rw [beq_eq_false_iff_ne]; omega
    have e6 : (k == 6) = false := by rw [beq_eq_false_iff_ne]; omega
    have e7 : (k == 7) = false := by rw [beq_eq_false_iff_ne]; omega
    have e8 : (k == 8) = false := by rw [beq_eq_false_iff_ne]; omega
    have e9 : (k == 9) = false := by rw [beq_eq_false_iff_ne]; omega
    have e10 : (k == 10) = false := by rw [beq_eq_false_iff_ne]; omega
    have e11 : (k == 11) = false := by rw [beq_eq_false_iff_ne]; omega
    clear hA hin
    go_enter Tryz.func95, Tryz.ntmps95
    go_wp2_with fail
    go_ret
    exact ⟨rfl, rfl⟩
end Go.Proofs.YtingpmgpjmlioaaGreatDoor

namespace Go.Proofs.YtingpmgpjmlioaaGreatDoor
open Go.RowKit
set_option linter.unusedVariables false

def okX (x : Ex) : Bool := decide ((x.args.length : Int) = argsN x.kind)
/-- An expression is of the right form. -/
def formX (e : Ex) : Bool := (nodesX e).all okX && decide ((nodesX e).length ≤ 64)

theorem all_snoc {α : Type} {l : List α} {k : Nat} {x : α} {p : α → Bool} (h : l[k]? = some x) (hp : p x = true) (ha : (l.take k).all p = true) : (l.take (k + 1)).all p = true := by
  rw [List.take_add_one, h, List.all_append, ha]; simp [hp]
theorem all_bad {α : Type} {l : List α} {k : Nat} {x : α} {p : α → Bool} (h : l[k]? = some x) (hp : p x = false) : l.all p = false := by
  rw [List.all_eq_false]
  exact ⟨x, List.mem_of_getElem? h, by simp [hp]⟩

set_option maxHeartbeats 4000000 in
theorem wellFormed_any (d : Nd) (w : World) (hd : d.at w) : Calls Tryz.prog 66 #[.agg (ndv d)] w fun e w' => e = .returned (.bool (formX d.x)) ∧ Below w.heap.size w w' := by
  have hb1 : Below w.heap.size w (w.alloc (.cells (ndv d) 44)) := (Below.refl _ _).alloc (Nat.le_refl _) _
  have hx1 : (w.alloc (.cells (ndv d) 44)).heap[w.heap.size]? = some (.cells (ndv d) 44 (0, 0)) := heap_alloc_new _ _
  have c0 : (w.alloc (.cells (ndv d) 44)).cell? ⟨w.heap.size, 0, none⟩ = some (.int .i64 d.x.kind) := (cell_of_row _ _ _ _ _ _ hx1).trans rfl
  have c1 : (w.alloc (.cells (ndv d) 44)).cell? ⟨w.heap.size, 1, none⟩ = some (.int .i64 d.x.n) := (cell_of_row _ _ _ _ _ _ hx1).trans rfl
  have c2 : (w.alloc (.cells (ndv d) 44)).cell? ⟨w.heap.size, 2, none⟩ = some (sv d.x.s) := (cell_of_row _ _ _ _ _ _ hx1).trans rfl
  have c3 : (w.alloc (.cells (ndv d) 44)).cell? ⟨w.heap.size, 3, none⟩ = some (.slice d.a d.x.args.length d.c) := (cell_of_row _ _ _ _ _ _ hx1).trans rfl
  have HC := hide (nodes_any d (w.alloc (.cells (ndv d) 44)) (ExAt.grown hd hb1))
  obtain ⟨w1, hw1⟩ : ∃ w1, w1 = w.alloc (.cells (ndv d) 44) := ⟨_, rfl⟩
  rw [← hw1] at c0 c1 c2 c3 HC hb1
  have HW1 := hide hw1
  have HB1 := hide hb1
  obtain ⟨dx, da, dc⟩ := d
  simp only at c0 c1 c2 c3
  clear hb1 hx1 hw1 hd
  go_enter Tryz.func66, Tryz.ntmps66
  go_upto_region 1 with fail
  rw [show w.alloc (.cells #[Value.int IntKind.i64 dx.kind, .int .i64 dx.n, Value.string ⟨dx.s.toArray⟩, .slice da dx.args.length dc] 44) = w1 from (unhide HW1).symm]
  go_upto_region 2 with (go_at_call 62; refine (unhide HC).mono ?_; rintro e w2 ⟨v, l, rfl, hrow, hall, hmap, b2⟩; have HR := hide hrow; have HM := hide hmap; have HB2 := hide ((unhide HB1).trans (b2.mono (unhide HB1).size)); clear hrow hall hmap b2)
  obtain ⟨va, vc, rfl, hlc, hvc, hcell⟩ := nrow_cells (unhide HR)
  have HCL := hide hcell
  obtain ⟨LN, hLN⟩ : ∃ LN, LN = l.length := ⟨_, rfl⟩
  have HLN := hide hLN
  have hLX : LN = (nodesX dx).length := by rw [hLN, ← unhide HM, List.length_map]
  have HLX := hide hLX
  have h65 : LN ≤ 65 := by rw [hLX]; exact (bfs_len dx 65).2
  rw [← hLN] at hlc ⊢
  clear c0 c1 c2 c3 hcell HW1 hLN hLX HC
  go_wp2_with fail
  go_loopw [5, 10] (fun _ i wr => ∃ k : Nat, i = .int .i64 k ∧ k ≤ LN ∧ Hid (((nodesX dx).take k).all okX = true) ∧ Hid (Below w2.heap.size w2 wr)) (fun _ i _ => LN - (intOf i).toNat)
  case atStart => exact ⟨0, rfl, by omega, hide rfl, hide (Below.refl _ _)⟩
  case round =>
    obtain ⟨k, rfl, hk, HA, HB⟩ := hrel
    by_cases hlt : k < LN
    · have hkl : k < l.length := by have := unhide HLN; omega
      obtain ⟨g, rfl, hg, hcs⟩ := unhide HCL (by omega)
      obtain ⟨a0, a1, a2, a3⟩ := hcs k hkl
      obtain ⟨⟨xx, xa, xc⟩, hx⟩ : ∃ x, x = l[k] := ⟨_, rfl⟩
      rw [← hx] at a0 a1 a2 a3
      simp only at a0 a1 a2 a3
      have hxe : (nodesX dx)[k]? = some xx := by rw [← unhide HM, List.getElem?_map, List.getElem?_eq_getElem hkl, ← hx]; rfl
      have d0 := ((unhide HB).cell (p := ⟨g, k * 4, none⟩) hg).trans a0
      have d1 := ((unhide HB).cell (p := ⟨g, k * 4 + 1, none⟩) hg).trans a1
      have d2 := ((unhide HB).cell (p := ⟨g, k * 4 + 2, none⟩) hg).trans a2
      have d3 := ((unhide HB).cell (p := ⟨g, k * 4 + 3, none⟩) hg).trans a3
      have hkL : (k : Int) < (LN : Int) := by omega
      have HX := hide hxe
      have hsz := (unhide HB).size
      have HBE := hide ((unhide HB).alloc hsz (.cells (exV xx xa xc) 44))
      have hxb : (wr.alloc (.cells (exV xx xa xc) 44)).heap[wr.heap.size]? = some (.cells (exV xx xa xc) 44 (0, 0)) := heap_alloc_new _ _
      have m0 : ∀ m, ((wr.alloc (.cells (exV xx xa xc) 44)).drewN m).cell? ⟨wr.heap.size, 0, none⟩ = some (.int .i64 xx.kind) := fun m => ((below_drewN (Below.refl (wr.alloc (.cells (exV xx xa xc) 44)).heap.size _) m).cell (p := ⟨wr.heap.size, 0, none⟩) (lt_of_block hxb)).trans ((cell_of_row _ _ _ _ _ _ hxb).trans rfl)
      have m3 : ∀ m, ((wr.alloc (.cells (exV xx xa xc) 44)).drewN m).cell? ⟨wr.heap.size, 3, none⟩ = some (.slice xa xx.args.length xc) := fun m => ((below_drewN (Below.refl (wr.alloc (.cells (exV xx xa xc) 44)).heap.size _) m).cell (p := ⟨wr.heap.size, 3, none⟩) (lt_of_block hxb)).trans ((cell_of_row _ _ _ _ _ _ hxb).trans rfl)
      obtain ⟨w3, hw3⟩ : ∃ w3, w3 = wr.alloc (.cells (exV xx xa xc) 44) := ⟨_, rfl⟩
      have HW3 := hide hw3
      rw [← hw3] at m0 m3 HBE
      obtain ⟨AN, hAN⟩ : ∃ AN, AN = argsN xx.kind := ⟨_, rfl⟩
      have HAr : Hid (∀ W, Calls Tryz.prog 95 #[.int .i64 xx.kind] W fun e w' => e = .returned (.int .i64 AN) ∧ w' = W) := hide (fun W => by rw [hAN]; exact (argsOf_any xx.kind W).mono fun e w' h => ⟨h.1, h.2.symm⟩)
      clear a0 a1 a2 a3 hx hcs hxb hw3 hxe
      go_upto_region 5 with fail
      rw [show wr.alloc (.cells #[Value.int IntKind.i64 xx.kind, .int .i64 xx.n, Value.string ⟨xx.s.toArray⟩, .slice xa xx.args.length xc] 44) = w3 from (unhide HW3).symm]
      cases hok : okX xx with
      | true =>
        have hne : ((xx.args.length : Int) != AN) = false := by rw [hAN]; unfold okX at hok; simpa using hok
        have HA2 := hide (all_snoc (unhide HX) hok (unhide HA))
        clear hok hAN d0 d1 d2 d3
        go_quiet ((go_at_call 95; exact Calls.quiet_of_same (unhide HAr _)))
        go_wp2
        go_roundw
        case rel => exact ⟨k + 1, by go_num, by omega, HA2, hide (below_drewN (unhide HBE) _)⟩
        case measure => simp [intOf]; omega
      | false =>
        have hne : ((xx.args.length : Int) != AN) = true := by rw [hAN]; unfold okX at hok; simpa using hok
        have HF : Hid (formX dx = false) := hide (by unfold formX; rw [all_bad (unhide HX) hok]; rfl)
        have HBF := hide ((unhide HB2).trans ((unhide HBE).mono (unhide HB2).size))
        clear hok hAN d0 d1 d2 d3
        go_quiet ((go_at_call 95; exact Calls.quiet_of_same (unhide HAr _)))
        go_wp2
        go_ret
        rw [unhide HF]
        exact ⟨rfl, below_drewN (unhide HBF) _⟩
    · have hkL : ¬ (k : Int) < (LN : Int) := by omega
      have HF : Hid (formX dx = decide ((LN : Int) ≤ 64)) := hide (by
        unfold formX
        have := unhide HA
        rw [List.take_of_length_le (by have := unhide HLX; omega)] at this
        rw [this, Bool.true_and, ← unhide HLX]
        by_cases h : LN ≤ 64
        · rw [decide_eq_true h, decide_eq_true (by omega)]
        · rw [decide_eq_false h, decide_eq_false (by omega)])
      have HBF := hide ((unhide HB2).trans ((unhide HB).mono (unhide HB2).size))
      go_wp2_with fail
      go_ret
      rw [unhide HF]
      exact ⟨by simp, unhide HBF⟩
end Go.Proofs.YtingpmgpjmlioaaGreatDoor
