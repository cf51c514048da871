/-
  DERIVED. Slices of frames that a call makes: what they hold, and how they grow.
-/
import Derived.Test.YtoclnnkeabbicaaSame
import Derived.Test.YtoclnnkeabbicaaNew
import Derived.Test.YtoclnnkeabbicaaMath5
namespace Go.Proofs.Ytoclnnkeabbicaa
open Go.RowKit
set_option linter.unusedVariables false

theorem Try.infoF : (Try.prog.info? 37).map (fun i => (i.zero, i.size, i.bytes)) = some (some (.agg #[.int .u8 0, .slice none 0 0]), 2, 32) := by kernel_rfl

/-- A row of one type stays while a row of another type grows. -/
theorem ownsRow_other {w w' : World} {base : Nat} {e : TypeId} {size : Nat} {v : Value} {n : Nat} {xs : List Value} {row : Option Nat} (h : w.ownsRow base e size v n xs) (hg : w.grownBy w' row)
    (hr : ∀ j, row = some j → ∃ cur e', w.heap[j]? = some (.cells cur e' (0, 0)) ∧ e' ≠ e) : w'.ownsRow base e size v n xs := by
  obtain ⟨h1, h2⟩ := h
  refine ⟨h1, ?_⟩
  rcases h2 with h | ⟨g, cap, cur, a, b, c, r⟩
  · exact .inl h
  · refine .inr ⟨g, cap, cur, a, b, (hg.block g (lt_of_block c) (fun hj => ?_)).trans c, r⟩
    obtain ⟨cur', e', h3, h4⟩ := hr g hj.symm
    rw [c] at h3
    simp only [Option.some.injEq, Obj.cells.injEq] at h3
    exact h4 h3.2.1.symm

theorem ownBlock_tag {w : World} {base : Nat} {e : TypeId} {size : Nat} {v : Value} {n : Nat} {xs : List Value} (h : w.ownsRow base e size v n xs) : ∀ j, v.ownBlock = some j → base ≤ j ∧ ∃ cur, w.heap[j]? = some (.cells cur e (0, 0)) := by
  intro j hj
  rcases h.2 with ⟨rfl, _⟩ | ⟨g, cap, cur, rfl, b, c, _⟩
  · cases hj
  · simp only [Value.ownBlock, Option.some.injEq] at hj
    subst hj
    exact ⟨b, cur, c⟩

/-- Data that stay readable while rows of frames grow: in elder blocks, or (own) in a block of bytes. -/
def Safe (own : Bool) (w : World) (base : Nat) (a : Option Addr) (n c : Nat) (d : List UInt8) : Prop :=
  Sl w (.slice a n c) d ∧ (d = [] ∨ ∃ b off, a = some ⟨b, off, none⟩ ∧ (b < base ∨ (own = true ∧ ∃ cur, w.heap[b]? = some (.cells cur 5 (0, 0)))))

theorem Safe.grown {own : Bool} {w w' : World} {base : Nat} {a : Option Addr} {n c : Nat} {d : List UInt8} {row : Option Nat} (h : Safe own w base a n c d) (hg : w.grownBy w' row)
    (hr : ∀ j, row = some j → base ≤ j ∧ (own = true → ∃ cur e', w.heap[j]? = some (.cells cur e' (0, 0)) ∧ e' ≠ 5)) : Safe own w' base a n c d := by
  obtain ⟨hs, h2⟩ := h
  rcases h2 with rfl | ⟨b, off, rfl, hb⟩
  · exact ⟨hs.empty hg.size, .inl rfl⟩
  · have hlt : d = [] ∨ b < w.heap.size := by
      obtain ⟨ao, cap, e, h1, _, h4⟩ := hs
      cases e
      by_cases hz : d.length = 0
      · exact .inl (List.eq_nil_of_length_eq_zero hz)
      · obtain ⟨b', off', e', hl, _⟩ := h4 (by omega)
        cases e'
        exact .inr hl
    rcases hlt with rfl | hlt
    · exact ⟨hs.empty hg.size, .inl rfl⟩
    · have hne : some b ≠ row := by
        intro e
        obtain ⟨h1, h2⟩ := hr b e.symm
        rcases hb with hb | ⟨ho, cur, hcur⟩
        · omega
        · obtain ⟨cur', e', h3, h4⟩ := h2 ho
          rw [hcur] at h3
          simp only [Option.some.injEq, Obj.cells.injEq] at h3
          exact h4 h3.2.1.symm
      have hblk := hg.block b hlt hne
      refine ⟨?_, .inr ⟨b, off, rfl, ?_⟩⟩
      · obtain ⟨ao, cap, e, h1, h2, h4⟩ := hs
        cases e
        refine ⟨_, c, rfl, h1, h2, fun hc => ?_⟩
        obtain ⟨b', off', e', hl, hcell⟩ := h4 hc
        cases e'
        exact ⟨b, off, rfl, by have := hg.size; omega, fun i hi => (World.cell?_of_block (a := ⟨b, off + i, none⟩) hblk).trans (hcell i hi)⟩
      · rcases hb with hb | ⟨ho, cur, hcur⟩
        · exact .inl hb
        · exact .inr ⟨ho, cur, hblk.trans hcur⟩

theorem Safe.below {own : Bool} {w w' : World} {base B : Nat} {a : Option Addr} {n c : Nat} {d : List UInt8} (h : Safe own w base a n c d) (hb : Below B w w') (hB : w.heap.size ≤ B) : Safe own w' base a n c d := by
  obtain ⟨hs, h2⟩ := h
  refine ⟨hs.below hb hB, h2.imp id ?_⟩
  rintro ⟨b, off, e, h⟩
  refine ⟨b, off, e, h.imp id ?_⟩
  rintro ⟨ho, cur, hc⟩
  exact ⟨ho, cur, (hb.block b (by have := lt_of_block hc; omega)).trans hc⟩

theorem Safe.of_new {w : World} {B base : Nat} {a : Option Addr} {n c : Nat} {d : List UInt8} (h : NewSl w B (.slice a n c) d) : Safe true w base a n c d := by
  refine ⟨h.1, ?_⟩
  rcases h.2 with h | h
  · exact .inl h
  · rcases h.2 with ⟨e, hz⟩ | ⟨g, cap, cur, e, _, hh, _⟩
    · exact .inl (List.eq_nil_of_length_eq_zero hz)
    · cases e
      exact .inr ⟨g, 0, rfl, .inr ⟨rfl, cur, hh⟩⟩

theorem Safe.of_old {w : World} {a : Option Addr} {n c : Nat} {d : List UInt8} (h : Sl w (.slice a n c) d) : Safe false w w.heap.size a n c d := by
  refine ⟨h, ?_⟩
  obtain ⟨ao, cap, e, h1, h2, h4⟩ := h
  cases e
  by_cases hz : d.length = 0
  · exact .inl (List.eq_nil_of_length_eq_zero hz)
  · obtain ⟨b, off, e, hl, _⟩ := h4 (by omega)
    exact .inr ⟨b, off, e, .inl hl⟩

/-- A slice of frames that a call made for itself. -/
def FOwn (own : Bool) (w : World) (lim base : Nat) (v : Value) (fs : List (UInt8 × List UInt8)) : Prop :=
  ∃ cs, w.ownsRow base 37 2 v fs.length cs ∧ ∀ i, (h : i < fs.length) → ∃ a n c, cs[i * 2]? = some (bv fs[i].1) ∧ cs[i * 2 + 1]? = some (.slice a n c) ∧ Safe own w lim a n c fs[i].2

theorem FOwn.nil (own : Bool) (w : World) (lim base : Nat) : FOwn own w lim base (.slice none 0 0) [] := ⟨[], World.ownsRow_nil _ _ _ _, fun i h => by simp at h⟩

theorem FOwn.below {own : Bool} {w w' : World} {lim base B : Nat} {v : Value} {fs : List (UInt8 × List UInt8)} (h : FOwn own w lim base v fs) (hb : Below B w w') (hB : w.heap.size ≤ B) : FOwn own w' lim base v fs := by
  obtain ⟨cs, h1, h2⟩ := h
  refine ⟨cs, ?_, fun i hi => ?_⟩
  · obtain ⟨q1, q2⟩ := h1
    refine ⟨q1, ?_⟩
    rcases q2 with h | ⟨g, cap, cur, a, b, c, r⟩
    · exact .inl h
    · exact .inr ⟨g, cap, cur, a, b, (hb.block g (by have := lt_of_block c; omega)).trans c, r⟩
  · obtain ⟨a, n, c, e1, e2, e3⟩ := h2 i hi
    exact ⟨a, n, c, e1, e2, e3.below hb hB⟩

theorem FOwn.fl {own : Bool} {w : World} {lim base : Nat} {v : Value} {fs : List (UInt8 × List UInt8)} (h : FOwn own w lim base v fs) : Fl w v fs := by
  obtain ⟨cs, ⟨q1, q2⟩, h2⟩ := h
  rcases q2 with ⟨rfl, hz⟩ | ⟨g, cap, cur, rfl, hb, hh, hn, hm, hsz, ht⟩
  · exact ⟨none, 0, by rw [hz], by omega, by omega, fun h => absurd hz h⟩
  · unfold maxLen at hm
    refine ⟨_, cap, rfl, hn, by omega, fun _ => ⟨g, 0, rfl, lt_of_block hh, fun i hi => ?_⟩⟩
    obtain ⟨a, n, c, e1, e2, e3⟩ := h2 i hi
    rw [← ht, List.getElem?_take_of_lt (by omega)] at e1 e2
    refine ⟨?_, a, n, c, ?_, e3.1⟩
    · simp only [World.cell?, hh]
      simpa using e1
    · simp only [World.cell?, hh]
      simpa using e2

/-- An append to a slice of frames of one's own. -/
theorem wpList_append_frame {own : Bool} {w : World} {ops : Array Oper} {rest : List Oper} {o : Oper} {a : Act} {Q : Exit → Act → World → Prop} (hgd : o.guard = none) (s x : Operand)
    (ho : o.op = .call { callee := .builtin .append, args := #[s, x], argTypes := #[41, 41] })
    (lim base : Nat) (hlim : lim ≤ base) (v : Value) (fs : List (UInt8 × List UInt8)) (hs : a.eval s = v) (hown : FOwn own w lim base v fs)
    (g : Nat) (k : UInt8) (a' : Option Addr) (n' c' : Nat) (d : List UInt8) (hx : a.eval x = .slice (some ⟨g, 0, none⟩) 1 1) (h0 : w.cell? ⟨g, 0, none⟩ = some (bv k)) (h1 : w.cell? ⟨g, 1, none⟩ = some (.slice a' n' c')) (hsafe : Safe own w lim a' n' c' d)
    (hlen : fs.length + 1 ≤ 4398046511104) (hbase : base ≤ w.heap.size)
    (h : ∀ v' w', FOwn own w' lim base v' (fs ++ [(k, d)]) → Below base w w' → w.grownBy w' v.ownBlock → wpList Try.prog ops Q rest (a.put o.dst v') w') : wpList Try.prog ops Q (o :: rest) a w := by
  obtain ⟨i0, hi, hz0, hz1, hz2⟩ := info_parts Try.infoF
  obtain ⟨cs, hrow, hdat⟩ := hown
  have htag := ownBlock_tag hrow
  refine wpList_append_own w hgd s x 41 ho base 37 i0 _ 2 32 Try.underlying41 hi hz0 hz1 hz2 rfl (by decide) v fs.length cs hs hrow ⟨g, 0, none⟩ 1 1 [bv k, .slice a' n' c'] hx (by simp) ?_ ?_ (by unfold maxLen; omega) (by omega) hbase ?_
  · intro j u hj
    match j, hj with
    | 0, hj => simp at hj; subst hj; exact h0
    | 1, hj => simp at hj; subst hj; exact h1
    | j + 2, hj => simp at hj
  · intro u hu
    simp at hu
    rcases hu with rfl | rfl <;> rfl
  · intro v' w' ho' hgr _
    refine h v' w' ⟨cs ++ [bv k, .slice a' n' c'], by simpa using ho', fun i hi => ?_⟩ ((Below.refl _ _).grown hgr hbase (fun j hj => (htag j hj).1)) hgr
    have hsz : cs.length = fs.length * 2 := hrow.1
    have hrr : ∀ j, v.ownBlock = some j → lim ≤ j ∧ (own = true → ∃ cur e', w.heap[j]? = some (.cells cur e' (0, 0)) ∧ e' ≠ 5) := by
      intro j hj
      obtain ⟨q1, cur, q2⟩ := htag j hj
      exact ⟨Nat.le_trans hlim q1, fun _ => ⟨cur, _, q2, by decide⟩⟩
    by_cases hlt : i < fs.length
    · obtain ⟨a1, n1, c1, e1, e2, e3⟩ := hdat i hlt
      refine ⟨a1, n1, c1, ?_, ?_, ?_⟩
      · rw [List.getElem?_append_left (by omega), e1, List.getElem_append_left hlt]
      · rw [List.getElem?_append_left (by omega), e2]
      · rw [List.getElem_append_left hlt]; exact e3.grown hgr hrr
    · have hi' : i = fs.length := by simp at hi; omega
      subst hi'
      refine ⟨a', n', c', ?_, ?_, ?_⟩
      · rw [List.getElem?_append_right (by omega), hsz]; simp
      · rw [List.getElem?_append_right (by omega), show fs.length * 2 + 1 - cs.length = 1 by omega]; simp
      · simp; exact hsafe.grown hgr hrr
theorem FOwn.mono {own : Bool} {w : World} {lim base b2 : Nat} {v : Value} {fs : List (UInt8 × List UInt8)} (h : FOwn own w lim base v fs) (hb : b2 ≤ base) : FOwn own w lim b2 v fs := by
  obtain ⟨cs, ⟨q1, q2⟩, h2⟩ := h
  refine ⟨cs, ⟨q1, ?_⟩, h2⟩
  rcases q2 with h | ⟨g, cap, cur, a, b, c⟩
  · exact .inl h
  · exact .inr ⟨g, cap, cur, a, by omega, c⟩

theorem FOwn.slice {own : Bool} {w : World} {lim base : Nat} {v : Value} {fs : List (UInt8 × List UInt8)} (h : FOwn own w lim base v fs) : ∃ a c, v = .slice a fs.length c := by
  obtain ⟨cs, ⟨_, q2⟩, _⟩ := h
  rcases q2 with ⟨rfl, hz⟩ | ⟨g, cap, cur, rfl, _⟩
  · exact ⟨none, 0, by rw [hz]⟩
  · exact ⟨_, _, rfl⟩
end Go.Proofs.Ytoclnnkeabbicaa
