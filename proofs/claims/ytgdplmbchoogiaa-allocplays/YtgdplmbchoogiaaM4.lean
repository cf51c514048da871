/-
  DERIVED. What AllocPlays' rounds stand on: runs of one's own of whatever numbers, Take and Give of both maps, where the law stands.
-/
import Derived.Test.YtgdplmbchoogiaaM3
import Derived.Laws.AppendOwnNone
namespace Go.Proofs.Ytgdplmbchoogiaa
open Go.RowKit
set_option linter.unusedVariables false

theorem Rn.alloc {w : World} {v : Value} {l : List (Int × Int)} (h : Rn w v l) (o : Obj) : Rn (w.alloc o) v l := h.kept (World.grownBy_alloc _ _ _)
/-! ### Slices of runs of one's own, of whatever numbers -/
def icells (l : List (Int × Int)) : List Value := l.flatMap fun x => [.int .i64 x.1, .int .i64 x.2]
theorem icells_cons (x : Int × Int) (l : List (Int × Int)) : icells (x :: l) = .int .i64 x.1 :: .int .i64 x.2 :: icells l := by simp [icells]
theorem icells_len : ∀ l : List (Int × Int), (icells l).length = l.length * 2
  | [] => rfl
  | x :: l => by rw [icells_cons, List.length_cons, List.length_cons, icells_len l, List.length_cons]; omega
theorem icells_at : ∀ (l : List (Int × Int)) (i : Nat) (h : i < l.length), (icells l)[i * 2]? = some (.int .i64 l[i].1) ∧ (icells l)[i * 2 + 1]? = some (.int .i64 l[i].2)
  | x :: l, 0, _ => by simp [icells]
  | x :: l, i + 1, h => by
    have ih := icells_at l i (by simpa using h)
    rw [icells_cons, show (i + 1) * 2 = i * 2 + 1 + 1 by omega, show i * 2 + 1 + 1 + 1 = (i * 2 + 1) + 1 + 1 by omega]
    simp only [List.getElem?_cons_succ, List.getElem_cons_succ]
    exact ih
theorem icells_one (l : List (Int × Int)) : ∀ u ∈ icells l, u.oneCell' = true := by
  intro u hu
  unfold icells at hu
  rw [List.mem_flatMap] at hu
  obtain ⟨x, _, hx⟩ := hu
  rcases List.mem_cons.1 hx with rfl | hx
  · rfl
  · rcases List.mem_cons.1 hx with rfl | hx
    · rfl
    · cases hx
theorem icells_set : ∀ (l : List (Int × Int)) (i : Nat) (a b : Int), i < l.length → ((icells l).set (i * 2) (.int .i64 a)).set (i * 2 + 1) (.int .i64 b) = icells (l.set i (a, b))
  | x :: l, 0, a, b, _ => by simp [icells]
  | x :: l, i + 1, a, b, h => by
    have ih := icells_set l i a b (by simpa using h)
    rw [icells_cons, show (i + 1) * 2 + 1 = (i * 2 + 1) + 1 + 1 by omega, show (i + 1) * 2 = i * 2 + 1 + 1 by omega, List.set_cons_succ, List.set_cons_succ, List.set_cons_succ, List.set_cons_succ, ih, List.set_cons_succ, icells_cons]
def IR (w : World) (base : Nat) (v : Value) (l : List (Int × Int)) : Prop := w.ownsRow base 36 2 v l.length (icells l)
theorem IR.nil (w : World) (base : Nat) : IR w base (.slice none 0 0) [] := World.ownsRow_nil w _ _ _
theorem IR.kept {W W' : World} {base : Nat} {v : Value} {l : List (Int × Int)} {row : Option Nat} (h : IR W base v l) (hg : W.grownBy W' row) (hne : ∀ q, v.ownBlock = some q → some q ≠ row) : IR W' base v l := by
  obtain ⟨h1, h2⟩ := h
  refine ⟨h1, ?_⟩
  rcases h2 with h2 | ⟨g, cap, cur, rfl, hb, hgb, r⟩
  · exact .inl h2
  · exact .inr ⟨g, cap, cur, rfl, hb, (hg.block g (lt_of_block hgb) (hne g rfl)).trans hgb, r⟩
theorem IR.mono {w : World} {base b2 : Nat} {v : Value} {l : List (Int × Int)} (h : IR w base v l) (hb : b2 ≤ base) : IR w b2 v l := by
  obtain ⟨h1, h2⟩ := h
  refine ⟨h1, ?_⟩
  rcases h2 with h | ⟨g, cap, cur, a, b, c⟩
  · exact .inl h
  · exact .inr ⟨g, cap, cur, a, by omega, c⟩
theorem IR.row {W : World} {base : Nat} {v : Value} {l : List (Int × Int)} (h : IR W base v l) {q : Nat} (hq : v.ownBlock = some q) : base ≤ q ∧ ∃ cur, W.heap[q]? = some (.cells cur 36 (0, 0)) := by
  rcases h.2 with ⟨rfl, _⟩ | ⟨g, cap, cur, rfl, hb, hg, r⟩
  · cases hq
  · cases hq; exact ⟨hb, cur, hg⟩
theorem IR.ne {W : World} {base : Nat} {v : Value} {l : List (Int × Int)} (h : IR W base v l) {q j : Nat} {C : Array Value} {t : TypeId} {fr : Nat × Nat} (hq : v.ownBlock = some q) (hj : W.heap[j]? = some (.cells C t fr)) (ht : t ≠ 36) : q ≠ j := by
  rintro rfl
  obtain ⟨_, cur, hc⟩ := h.row hq
  rw [hc] at hj
  cases hj
  exact ht rfl
theorem IR.form {w : World} {base : Nat} {v : Value} {l : List (Int × Int)} (h : IR w base v l) : ∃ ao cap, v = .slice ao l.length cap ∧ l.length ≤ cap ∧ cap ≤ 9223372036854775807 ∧ (l.length ≠ 0 → ∃ g, ao = some ⟨g, 0, none⟩ ∧ base ≤ g ∧ g < w.heap.size ∧ ∀ i, (h : i < l.length) → w.cell? ⟨g, i * 2, none⟩ = some (.int .i64 l[i].1) ∧ w.cell? ⟨g, i * 2 + 1, none⟩ = some (.int .i64 l[i].2)) := by
  rcases h.2 with ⟨rfl, h0⟩ | ⟨g, cap, cur, rfl, hb, hg, hn, hm, hs, ht⟩
  · exact ⟨none, 0, by rw [h0], by omega, by omega, fun h => absurd h0 h⟩
  · refine ⟨some ⟨g, 0, none⟩, cap, rfl, hn, by unfold maxLen at hm; omega, fun _ => ⟨g, rfl, hb, lt_of_block hg, fun i hi => ?_⟩⟩
    obtain ⟨e1, e2⟩ := icells_at l i hi
    have at' : ∀ j, j < l.length * 2 → cur[j]? = (icells l)[j]? := fun j hj => by
      have e : (cur.toList.take (l.length * 2))[j]? = (icells l)[j]? := by rw [ht]
      rw [List.getElem?_take_of_lt (by omega)] at e
      simpa using e
    constructor
    · rw [cell_of_row _ _ _ _ _ _ hg, at' _ (by omega), e1]
    · rw [cell_of_row _ _ _ _ _ _ hg, at' _ (by omega), e2]
theorem IR.at_ {w : World} {base q cap : Nat} {ao : Option Addr} {l : List (Int × Int)} (h : IR w base (.slice ao q cap) l) (hl : 0 < l.length) : ∃ g, ao = some ⟨g, 0, none⟩ ∧ base ≤ g ∧ g < w.heap.size ∧ ∀ i, (h : i < l.length) → w.cell? ⟨g, i * 2, none⟩ = some (.int .i64 l[i].1) ∧ w.cell? ⟨g, i * 2 + 1, none⟩ = some (.int .i64 l[i].2) := by
  obtain ⟨ao', cap', e, _, _, h4⟩ := h.form
  injection e with e1 e2 e3
  subst e1
  exact h4 (by omega)
theorem IR.rn {w : World} {base : Nat} {v : Value} {l : List (Int × Int)} (h : IR w base v l) (hf : ∀ x ∈ l, fits x) : Rn w v l := by
  obtain ⟨ao, cap, e, h1, h2, h4⟩ := h.form
  refine ⟨ao, cap, e, h1, h2, hf, fun hl => ?_⟩
  obtain ⟨g, e2, _, hlt, hc⟩ := h4 hl
  exact ⟨g, 0, e2, hlt, fun i hi => by have := hc i hi; simpa using this⟩
theorem IR.set {w : World} {base g n cap : Nat} {l : List (Int × Int)} (h : IR w base (.slice (some ⟨g, 0, none⟩) n cap) l) (i : Nat) (a b : Int) (hi : i < l.length) : IR ((w.setCell ⟨g, i * 2, none⟩ (.int .i64 a)).setCell ⟨g, i * 2 + 1, none⟩ (.int .i64 b)) base (.slice (some ⟨g, 0, none⟩) n cap) (l.set i (a, b)) := by
  obtain ⟨h1, h2⟩ := h
  refine ⟨by rw [icells_len, List.length_set], ?_⟩
  rcases h2 with ⟨e, _⟩ | ⟨g', cap', cur, e, hb, hg, hn, hm, hs, ht⟩
  · cases e
  · cases e
    refine .inr ⟨g, cap, _, by rw [List.length_set], hb, heap_setCell_same _ g (i * 2 + 1) _ _ _ (heap_setCell_same w g (i * 2) cur _ _ hg), by rw [List.length_set]; exact hn, hm, by simpa using hs, ?_⟩
    rw [← icells_set l i a b hi, ← ht, List.length_set, Array.toList_setIfInBounds, Array.toList_setIfInBounds, List.take_set, List.take_set]
theorem IR.one (w : World) (x1 x2 : Int) : IR (w.alloc (.cells #[.int .i64 x1, .int .i64 x2] 36)) w.heap.size (.slice (some ⟨w.heap.size, 0, none⟩) 1 1) [(x1, x2)] :=
  ⟨rfl, .inr ⟨w.heap.size, 1, _, rfl, Nat.le_refl _, heap_alloc_new _ _, by simp, by unfold maxLen; omega, by simp, by simp [icells]⟩⟩
theorem ir_empty (w : World) : IR (w.alloc (.cells #[] 36)) w.heap.size (.slice (some ⟨w.heap.size, 0, none⟩) 0 0) [] := ⟨rfl, .inr ⟨w.heap.size, 0, #[], rfl, Nat.le_refl _, heap_alloc_new _ _, by simp, by unfold maxLen; omega, by simp, by simp [icells]⟩⟩

/-- Runs that lie somewhere, appended to nothing of one's own. -/
theorem wpList_append_iruns {w : World} {ops : Array Oper} {rest : List Oper} {o : Oper} {a : Act} {Q : Exit → Act → World → Prop} (hgd : o.guard = none) (s x : Operand)
    (ho : o.op = .call { callee := .builtin .append, args := #[s, x], argTypes := #[28, 28] })
    (base : Nat) (v : Value) (hs : a.eval s = v) (hown : IR w base v [])
    (y : Value) (m : List (Int × Int)) (hx : a.eval x = y) (hy : Rn w y m) (hne : ∀ c, y = .slice none 0 c → c = 0) (hlen : m.length ≤ 8796093021952) (hbase : base ≤ w.heap.size)
    (h : ∀ v' w', IR w' base v' m → w.grownBy w' v.ownBlock → wpList Try.prog ops Q rest (a.put o.dst v') w') : wpList Try.prog ops Q (o :: rest) a w := by
  obtain ⟨i0, hi, hz0, hz1, hz2⟩ := info_parts Try.infoRun3
  obtain ⟨ao, cap, rfl, h1, h2, h3, h4⟩ := hy
  cases ao with
  | none =>
    have hm0 : m = [] := by
      cases m with
      | nil => rfl
      | cons x r => obtain ⟨_, _, e, _⟩ := h4 (by simp); cases e
    subst hm0
    obtain rfl : cap = 0 := hne cap rfl
    refine wpList_append_own_none hgd s x 28 ho base 36 i0 2 Try.underlying28 hi v 0 [] hs hown hx ?_
    exact h v w hown (World.grownBy.refl _ _)
  | some ad =>
    refine wpList_append_own w hgd s x 28 ho base 36 i0 (.agg #[.int .i64 0, .int .i64 0]) 2 16 Try.underlying28 hi hz0 hz1 hz2 rfl (by decide) v 0 [] hs hown ad m.length cap (icells m) hx (icells_len m) ?_ (icells_one m) (by unfold maxLen; omega) (by omega) hbase ?_
    · intro j u hj
      have hjl : j < (icells m).length := (List.getElem?_eq_some_iff.1 hj).1
      rw [icells_len] at hjl
      obtain ⟨g, off, e, _, hc⟩ := h4 (by omega)
      cases e
      have hjm : j / 2 < m.length := by omega
      obtain ⟨c0, c1⟩ := hc (j / 2) hjm
      obtain ⟨e0, e1⟩ := icells_at m (j / 2) hjm
      rw [addr_add]
      rcases (show j = j / 2 * 2 ∨ j = j / 2 * 2 + 1 by omega) with h5 | h5
      · rw [h5] at hj ⊢
        rw [e0] at hj
        rw [← hj]
        have h6 : j / 2 * 2 / 2 = j / 2 := by omega
        exact c0
      · rw [h5] at hj ⊢
        rw [e1] at hj
        rw [← hj, ← Nat.add_assoc]
        exact c1
    · intro v' w' ho' hgr _
      refine h v' w' ?_ hgr
      unfold IR
      simpa using ho'


/-! ### Take and Give of both maps -/
theorem rown_nil (w : World) (base : Nat) : ROwn w base (.slice none 0 0) [] := World.ownsRow_nil w _ _ _
theorem cut_small {B : Nat} (hB : B ≤ 512) (n : Nat) (U V : Nat → Bool) : ∀ x ∈ cut n (runsOf B U V), x.1 ≤ 512 ∧ x.2 ≤ 512 := fun x hx => by
  have := cut_in (runsOf B U V) n 512 (fun y hy => (runsOf_in hB y hy).2) x hx
  omega
theorem take_both (num : Int) (hnum : I64 num) (B : Nat) (hB : B ≤ 512) (U V : Nat → Bool) : ∃ (X : List (Nat × Nat)) (code : Int) (U' : Nat → Bool), (∀ x ∈ X, x.1 ≤ 512 ∧ x.2 ≤ 512) ∧
    (∀ W b, MapAt W b B U V → Calls Try.prog 8 #[.pointer (some ⟨b, 0, none⟩), .int .i64 num] W fun e w' => ∃ v, e = .returned (.tuple #[v, .int .i64 code]) ∧ ROwn w' W.heap.size v X ∧ MapAt w' b B U' V ∧ W.grownBy w' (some b)) ∧
    (∀ W N rb v1 v2, RmAt W N rb B v1 v2 U V → Calls Try.prog 9 #[.pointer (some ⟨rb, 0, none⟩), .int .i64 num] W fun e w' => ∃ u, e = .returned (.tuple #[u, .int .i64 code]) ∧ ROwn w' W.heap.size u X ∧ RmAt w' N rb B v1 v2 U' V ∧ W.grownBy w' v1.ownBlock) := by
  by_cases h0 : num < 0
  · refine ⟨[], 1, U, by simp, fun W b h => ?_, fun W N rb v1 v2 h => ?_⟩
    · refine (Take_neg W b num h0).mono ?_
      rintro e w' ⟨rfl, hg⟩
      exact ⟨_, rfl, rown_nil _ _, h.grown hg (by simp), gr_weak b hg⟩
    · refine (rTake_neg W rb num h0).mono ?_
      rintro e w' ⟨rfl, rfl⟩
      exact ⟨_, rfl, rown_nil _ _, h, World.grownBy.refl _ _⟩
  · obtain ⟨n, rfl⟩ : ∃ n : Nat, num = (n : Int) := ⟨num.toNat, by omega⟩
    by_cases hn : n ≤ total (runsOf B U V)
    · refine ⟨cut n (runsOf B U V), 0, marks U (cut n (runsOf B U V)), cut_small hB n U V, fun W b h => ?_, fun W N rb v1 v2 h => ?_⟩
      · exact Take_ok W b B n U V h hn
      · exact rTake_ok W N rb B n v1 v2 U V h hn
    · refine ⟨[], 50, U, by simp, fun W b h => ?_, fun W N rb v1 v2 h => ?_⟩
      · refine (Take_full W b B n U V h (by omega) hnum.2).mono ?_
        rintro e w' ⟨rfl, hg⟩
        exact ⟨_, rfl, rown_nil _ _, h.grown hg (by simp), gr_weak b hg⟩
      · refine (rTake_full W N rb B n v1 v2 U V h (by omega) hnum.2).mono ?_
        rintro e w' ⟨rfl, rfl⟩
        exact ⟨_, rfl, rown_nil _ _, h, World.grownBy.refl _ _⟩
theorem give_both (B : Nat) (U V : Nat → Bool) (l : List (Int × Int)) : ∃ (code : Int) (U' : Nat → Bool),
    (∀ W b v, MapAt W b B U V → Rn W v l → Calls Try.prog 13 #[.pointer (some ⟨b, 0, none⟩), v] W fun e w' => e = .returned (.int .i64 code) ∧ MapAt w' b B U' V ∧ W.grownBy w' (some b)) ∧
    (∀ W N rb v1 v2 v, RmAt W N rb B v1 v2 U V → N ≤ W.heap.size → Rn W v l → Calls Try.prog 14 #[.pointer (some ⟨rb, 0, none⟩), v] W fun e w' => e = .returned (.int .i64 code) ∧ ∃ v3, RmAt w' N rb B v3 v2 U' V ∧ W.grownBy w' (some rb)) := by
  cases hg : giveL B U l with
  | none =>
    refine ⟨51, U, fun W b v h hv => ?_, fun W N rb v1 v2 v h hN hv => ?_⟩
    · refine (Give_any W b B v l U V h hv).mono ?_
      rintro e w' ⟨⟨U', h1, _⟩ | ⟨_, rfl, hm⟩, hgr⟩
      · rw [hg] at h1; cases h1
      · exact ⟨rfl, hm, hgr⟩
    · refine (rGive_any W N rb B v1 v2 v l U V h hN hv).mono ?_
      rintro e w' ⟨⟨U', v3, h1, _⟩ | ⟨_, rfl, hm⟩, hgr⟩
      · rw [hg] at h1; cases h1
      · exact ⟨rfl, v1, hm, hgr⟩
  | some U1 =>
    refine ⟨0, U1, fun W b v h hv => ?_, fun W N rb v1 v2 v h hN hv => ?_⟩
    · refine (Give_any W b B v l U V h hv).mono ?_
      rintro e w' ⟨⟨U', h1, rfl, hm⟩ | ⟨h1, _⟩, hgr⟩
      · rw [hg] at h1; cases h1; exact ⟨rfl, hm, hgr⟩
      · rw [hg] at h1; cases h1
    · refine (rGive_any W N rb B v1 v2 v l U V h hN hv).mono ?_
      rintro e w' ⟨⟨U', v3, h1, rfl, hm⟩ | ⟨h1, _⟩, hgr⟩
      · rw [hg] at h1; cases h1; exact ⟨rfl, v3, hm, hgr⟩
      · rw [hg] at h1; cases h1

/-! ### Where the law stands -/
theorem blk_ne {w : World} {j q : Nat} {C D : Array Value} {t s : TypeId} {fr gr : Nat × Nat} (h1 : w.heap[j]? = some (.cells C t fr)) (h2 : w.heap[q]? = some (.cells D s gr)) (hts : t ≠ s) : j ≠ q := by
  intro e
  rw [e, h2] at h1
  injection h1 with h1
  injection h1 with _ h1
  exact hts h1.symm
theorem RmAt.low {w : World} {N N' b B : Nat} {v1 v2 : Value} {U V : Nat → Bool} (h : RmAt w N b B v1 v2 U V) (hN : N' ≤ N) : RmAt w N' b B v1 v2 U V := ⟨h.blk, h.now.low hN, h.last.low hN, h.le, Nat.le_trans hN h.base, h.apart⟩
/-- Two maps, in a round a call beside them. -/
structure Bo (w W : World) (b rb B : Nat) (U1 V1 U2 V2 : Nat → Bool) (v1 v2 : Value) : Prop where
  map : MapAt W b B U1 V1
  ref : RmAt W w.heap.size rb B v1 v2 U2 V2
  nb : w.heap.size ≤ b
  grown : w.grownBy W none
theorem Bo.kept {w W W' : World} {b rb B : Nat} {U1 V1 U2 V2 : Nat → Bool} {v1 v2 : Value} (h : Bo w W b rb B U1 V1 U2 V2 v1 v2) (hg : W.grownBy W' none) : Bo w W' b rb B U1 V1 U2 V2 v1 v2 :=
  ⟨h.map.grown hg (by simp), h.ref.grown hg, h.nb, h.grown.trans hg⟩
/-- A block of another kind, of the law's own, has turned. -/
theorem Bo.keptO {w W W' : World} {b rb B q : Nat} {U1 V1 U2 V2 : Nat → Bool} {v1 v2 : Value} {C : Array Value} {t : TypeId} {fr : Nat × Nat} (h : Bo w W b rb B U1 V1 U2 V2 v1 v2) (hg : W.grownBy W' (some q)) (hq : W.heap[q]? = some (.cells C t fr)) (hqw : w.heap.size ≤ q) (h1 : t ≠ 52) (h2 : t ≠ 55) (h3 : t ≠ 4) : Bo w W' b rb B U1 V1 U2 V2 v1 v2 :=
  ⟨h.map.grown hg (by simpa using blk_ne h.map.blk hq h1.symm), h.ref.kept hg hq h2 h3, h.nb, own_stepW h.grown hqw hg⟩
/-- The program's map has turned. -/
theorem Bo.prog {w W W' : World} {b rb B : Nat} {U1 V1 U2 V2 U' V' : Nat → Bool} {v1 v2 : Value} (h : Bo w W b rb B U1 V1 U2 V2 v1 v2) (hg : W.grownBy W' (some b)) (hm : MapAt W' b B U' V') : Bo w W' b rb B U' V' U2 V2 v1 v2 :=
  ⟨hm, h.ref.kept hg h.map.blk (by decide) (by decide), h.nb, own_stepW h.grown h.nb hg⟩
/-- The document's has. -/
theorem Bo.doc {w W W' : World} {b rb B : Nat} {U1 V1 U2 V2 U' V' : Nat → Bool} {v1 v2 v3 v4 : Value} (h : Bo w W b rb B U1 V1 U2 V2 v1 v2) (hg : W.grownBy W' (some rb)) (hm : RmAt W' w.heap.size rb B v3 v4 U' V') : Bo w W' b rb B U1 V1 U' V' v3 v4 :=
  ⟨h.map.grown hg (by simpa using blk_ne h.map.blk h.ref.blk (by decide)), hm, h.nb, own_stepW h.grown h.ref.base hg⟩
theorem Bo.docN {w W W' : World} {b rb B : Nat} {U1 V1 U2 V2 U' V' : Nat → Bool} {v1 v2 : Value} (h : Bo w W b rb B U1 V1 U2 V2 v1 v2) (hg : W.grownBy W' v1.ownBlock) (hm : RmAt W' w.heap.size rb B v1 v2 U' V') : Bo w W' b rb B U1 V1 U' V' v1 v2 := by
  cases hv : v1.ownBlock with
  | none => rw [hv] at hg; exact ⟨h.map.grown hg (by simp), hm, h.nb, h.grown.trans hg⟩
  | some q =>
    rw [hv] at hg
    obtain ⟨hq, cur, hc⟩ := h.ref.now.row hv
    exact ⟨h.map.grown hg (by simpa using blk_ne h.map.blk hc (by decide)), hm, h.nb, own_stepW h.grown hq hg⟩
/-- A block of another kind than these stays. -/
theorem Bo.blkP {w W W' : World} {b rb B q : Nat} {U1 V1 U2 V2 : Nat → Bool} {v1 v2 : Value} {C : Array Value} {t : TypeId} {fr : Nat × Nat} (h : Bo w W b rb B U1 V1 U2 V2 v1 v2) (hg : W.grownBy W' (some b)) (hq : W.heap[q]? = some (.cells C t fr)) (h1 : t ≠ 52) : W'.heap[q]? = some (.cells C t fr) :=
  (hg.block q (lt_of_block hq) (by simpa using blk_ne hq h.map.blk h1)).trans hq
theorem Bo.blkD {w W W' : World} {b rb B q : Nat} {U1 V1 U2 V2 : Nat → Bool} {v1 v2 : Value} {C : Array Value} {t : TypeId} {fr : Nat × Nat} (h : Bo w W b rb B U1 V1 U2 V2 v1 v2) (hg : W.grownBy W' (some rb)) (hq : W.heap[q]? = some (.cells C t fr)) (h1 : t ≠ 55) : W'.heap[q]? = some (.cells C t fr) :=
  (hg.block q (lt_of_block hq) (by simpa using blk_ne hq h.ref.blk h1)).trans hq
theorem Bo.blkN {w W W' : World} {b rb B q : Nat} {U1 V1 U2 V2 : Nat → Bool} {v1 v2 : Value} {C : Array Value} {t : TypeId} {fr : Nat × Nat} (h : Bo w W b rb B U1 V1 U2 V2 v1 v2) (hg : W.grownBy W' v1.ownBlock) (hq : W.heap[q]? = some (.cells C t fr)) (h1 : t ≠ 4) : W'.heap[q]? = some (.cells C t fr) := by
  refine (hg.block q (lt_of_block hq) (fun e => ?_)).trans hq
  obtain ⟨_, cur, hc⟩ := h.ref.now.row e.symm
  exact blk_ne hq hc h1 rfl
/-- Runs of one's own stay, whatever of the two maps has turned. -/
theorem Rn.keptO {w W W' : World} {base q : Nat} {v : Value} {l : List (Int × Int)} {C : Array Value} {t : TypeId} {fr : Nat × Nat} (h : IR W base v l) (hf : ∀ x ∈ l, fits x) (hg : W.grownBy W' (some q)) (hq : W.heap[q]? = some (.cells C t fr)) (h1 : t ≠ 36) : Rn W' v l :=
  (h.kept hg (fun z hz e => h.ne hz hq h1 (by simpa using e))).rn hf
theorem rcells_i (xs : List (Nat × Nat)) : rcells xs = icells (xs.map toI) := by
  induction xs with
  | nil => rfl
  | cons x xs ih => 
    rw [List.map_cons, icells_cons, ← ih]
    simp [rcells, toI]
theorem ROwn.ir {w : World} {base : Nat} {v : Value} {xs : List (Nat × Nat)} (h : ROwn w base v xs) : IR w base v (xs.map toI) := by
  unfold IR
  rw [List.length_map, ← rcells_i]
  exact h
theorem fits_small {xs : List (Nat × Nat)} (h : ∀ x ∈ xs, x.1 ≤ 512 ∧ x.2 ≤ 512) : ∀ x ∈ xs.map toI, fits x := fun x hx => by
  obtain ⟨y, hy, rfl⟩ := List.mem_map.1 hx
  have := h y hy
  simp only [fits, toI]
  omega
end Go.Proofs.Ytgdplmbchoogiaa

/-
  DERIVED. How calls that came in are opened, and how long their runs may be.
-/
namespace Go.Proofs.Ytgdplmbchoogiaa
open Go.ChangeShapes Go.WideShapes Go.ChangeAt Go.RowKit
set_option linter.unusedVariables false

theorem weightsAll_mem {H : Type} {P : Program} {e : TypeId} {d : DataW H} {n : Nat} : ∀ {l : List (DataW H)}, d ∈ l → n ∈ d.weights P e → n ∈ DataW.weightsAll P e l
  | x :: l, h, hn => by
    simp only [DataW.weightsAll, List.mem_append]
    rcases List.mem_cons.1 h with rfl | h
    · exact .inl hn
    · exact .inr (weightsAll_mem h hn)
theorem Try.bytesRun : Try.prog.bytesOf 36 = 16 := by kernel_rfl
theorem open_runs3 {H : Type} {enc : TypeId × Value → H} {W : World} {v : Value} {y : DataW H × List MemPlace} {fuel : Nat}
    (hf : DataW.trod enc Try.prog W 0 (fun _ => true) true fuel 28 [v] = some y) : ∃ l : List (Int × Int), Rn W v l ∧ (∀ n c, v = .slice none n c → c = 0) ∧ ∀ B, (∀ x ∈ y.1.weights Try.prog 28, x ≤ B) → l.length * 16 ≤ B := by
  obtain ⟨l, hl⟩ := open_runs hf
  refine ⟨l, hl, ?_⟩
  rcases Go.Deep.open_slice Try.underlying28 hf with ⟨hcs, hx⟩ | ⟨x, n, cap, m, k, D, Pl, hcs, _, hln, hm, hz, hx, hcell⟩
  · simp at hcs
    subst hcs
    obtain ⟨ao, cp, e, _⟩ := hl
    injection e with e1 e2 e3
    exact ⟨fun n c e => by injection e with _ _ e; exact e.symm, fun B _ => by omega⟩
  · simp at hcs
    subst hcs
    obtain ⟨ao, cp, e, _⟩ := hl
    injection e with e1 e2 e3
    refine ⟨(fun n c e => by cases e), ?_⟩
    intro B hB
    have hm := hB ((((List.range n).map D).length + ((List.range (m - n)).map fun j => D (n + j)).length) * Try.prog.bytesOf 36) (by rw [hx]; simp [DataW.weights, Try.underlying28])
    rw [Try.bytesRun] at hm
    simp at hm
    omega
/-- A slice of calls, whose runs are no longer than B. -/
def AClL3 (w : World) (v : Value) (l : List ACl) (B : Nat) : Prop :=
  ∃ ao cap, v = .slice ao l.length cap ∧ l.length ≤ 9223372036854775807 ∧ (0 < l.length → ∃ b off, ao = some ⟨b, off, none⟩ ∧ b < w.heap.size ∧ ∀ i, (h : i < l.length) → AClAt w b (off + i * 3) l[i] ∧ (∃ v, w.cell? ⟨b, off + i * 3 + 2, none⟩ = some v ∧ Rn w v l[i].l ∧ ∀ n c, v = .slice none n c → c = 0) ∧ l[i].l.length * 16 ≤ B)

set_option maxRecDepth 100000 in
theorem open_acalls3 {H : Type} {enc : TypeId × Value → H} {W : World} {a : Option Addr} {n c : Nat} {d : DataW H} {p : List MemPlace}
    (h : DataW.Trod enc Try.prog W 0 (fun _ => true) true 22 (.slice a n c) d p) {B : Nat} (hB : ∀ x ∈ d.weights Try.prog 22, x ≤ B) : ∃ l : List ACl, AClL3 W (.slice a n c) l B := by
  obtain ⟨fuel, hf⟩ := h
  obtain ⟨f0, f1, f2, hu, ⟨o0, o1, o2⟩, t0, t1, t2⟩ := Try.underACall
  rcases Go.Deep.open_slice Try.underlying22 hf with ⟨hcs, hx⟩ | ⟨x, n', cap, m, k, D, Pl, hcs, _, hl, hm, hz, hx, hcell⟩
  · simp [Value.cells] at hcs
    obtain ⟨rfl, rfl, rfl⟩ := hcs
    exact ⟨[], none, 0, rfl, by simp, fun h => by simp at h⟩
  · simp [Value.cells] at hcs
    obtain ⟨rfl, rfl, rfl⟩ := hcs
    rw [if_pos rfl] at hz
    subst hz
    unfold maxLen at hm
    have hel : ∀ i, i < n → ∃ e : ACl, I64 e.kind ∧ I64 e.n ∧ W.cell? (x.add (i * 3)) = some (.int .i64 e.kind) ∧ W.cell? (x.add (i * 3 + 1)) = some (.int .i64 e.n) ∧ (∃ v, W.cell? (x.add (i * 3 + 2)) = some v ∧ Rn W v e.l ∧ ∀ n c, v = .slice none n c → c = 0) ∧ (∀ B, (∀ x ∈ (D i).weights Try.prog 30, x ≤ B) → e.l.length * 16 ≤ B) := by
      intro i hi
      obtain ⟨cs, q1, q2⟩ := hcell i (by omega)
      rw [Try.cellsACall] at q1
      obtain ⟨_, hlen, hc⟩ := World.cells?_some q1
      match cs, hlen with
      | [c0, c1, c2], _ =>
        obtain ⟨xs, k', _, hDx, _, hxl, hfl⟩ := DataW.trod_struct hu q2
        match xs, hxl with
        | [x0, x1, x2], _ =>
          have g0 := hfl 0 f0 rfl
          have g1 := hfl 1 f1 rfl
          have g2 := hfl 2 f2 rfl
          rw [o0, t0, Try.cellsInt] at g0
          rw [o1, t1, Try.cellsInt] at g1
          rw [o2, t2, Try.cellsRuns] at g2
          obtain ⟨s0, e0, _, w0⟩ := DataW.trod_int Try.underlying3 g0
          obtain ⟨s1, e1, _, w1⟩ := DataW.trod_int Try.underlying3 g1
          simp at e0 e1
          subst e0 e1
          simp at g2
          obtain ⟨l2, h2, hn2, hb2⟩ := open_runs3 g2
          have hDi : D i = .agg [x0.1, x1.1, x2.1] := by simpa using congrArg Prod.fst hDx
          have hbd : ∀ B, (∀ x ∈ (D i).weights Try.prog 30, x ≤ B) → l2.length * 16 ≤ B := by
            intro B hB
            refine hb2 B fun x hx => hB x ?_
            rw [hDi]
            simp only [DataW.weights, hu, DataW.weightsEach, List.map_cons, t2, List.mem_append]
            exact .inr (.inr (.inl hx))
          have k0 := hc 0 (by omega)
          have k1 := hc 1 (by omega)
          have k2 := hc 2 (by omega)
          rw [Go.Deep.add_add] at k0 k1 k2
          have b0 := bounds_i64 w0
          have b1 := bounds_i64 w1
          exact ⟨⟨s0, s1, l2⟩, ⟨by simp only; omega, by simp only; omega⟩, ⟨by simp only; omega, by simp only; omega⟩, k0, k1, ⟨c2, k2, h2, hn2⟩, hbd⟩
    obtain ⟨F, hF⟩ := Go.Deep.choose_lt (α := ACl) hel
    have hlen : ((List.range n).map F).length = n := by simp
    refine ⟨(List.range n).map F, some x, _, by rw [hlen], by rw [hlen]; omega, fun hz => ?_⟩
    rw [hlen] at hz
    have h0 := (hF 0 (by omega)).2.2.1
    have hsp := World.cell?_spot h0
    obtain ⟨b, off, sp⟩ := x
    have hsp' : sp = none := by
      cases sp with
      | none => rfl
      | some k => simp [Addr.add] at hsp
    subst hsp'
    refine ⟨b, off, rfl, ?_, fun i hi => ?_⟩
    · rw [addr_add] at h0
      exact World.block_lt_of_cell? W ⟨b, off + 0 * 3, none⟩ h0
    · have hi' : i < n := by rw [hlen] at hi; exact hi
      obtain ⟨j0, j1, q0, q1, ⟨v, q2, q3, qn⟩, q5⟩ := hF i hi'
      rw [addr_add] at q0 q1 q2
      have e : ((List.range n).map F)[i] = F i := by simp
      rw [e]
      simp only [← Nat.add_assoc] at q1 q2
      refine ⟨{ c0 := q0, c1 := q1, c2 := ⟨v, q2, q3⟩, i0 := j0, i1 := j1 }, ⟨v, q2, q3, qn⟩, ?_⟩
      have hdd : d = .slice ((List.range n).map D) ((List.range (m - n)).map fun j => D (n + j)) := by simpa using congrArg Prod.fst hx
      refine q5 B fun x hx => hB x ?_
      rw [hdd]
      simp only [DataW.weights, Try.underlying22, List.mem_cons, List.mem_append]
      exact .inr (.inl (weightsAll_mem (List.mem_map.2 ⟨i, List.mem_range.2 hi', rfl⟩) hx))
end Go.Proofs.Ytgdplmbchoogiaa
