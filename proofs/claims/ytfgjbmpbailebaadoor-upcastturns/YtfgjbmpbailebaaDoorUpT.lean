/-
  DERIVED. Upcasters in a row of one's own.
-/
import Derived.Test.YtfgjbmpbailebaaDoorUpR
import Derived.Test.YtfgjbmpbailebaaDoorUpQ
namespace Go.Proofs.YtfgjbmpbailebaaDoor
open Go.RowKit Go.Maps
set_option linter.unusedVariables false

/-- An upcaster's cells. -/
structure URow where
  type : List UInt8
  frm : Int
  a : Option Addr
  n : Nat
  c : Nat
def ucs (R : List URow) : List Value := R.flatMap (fun r => [sv r.type, .int .i64 r.frm, .slice r.a r.n r.c])
theorem ucs_cons (f : URow) (r : List URow) : ucs (f :: r) = sv f.type :: .int .i64 f.frm :: .slice f.a f.n f.c :: ucs r := by simp [ucs]
theorem ucs_append (A B : List URow) : ucs (A ++ B) = ucs A ++ ucs B := by simp [ucs]
theorem ucs_one (R : List URow) : ∀ u ∈ ucs R, u.oneCell' = true := by
  induction R with
  | nil => intro u hu; simp [ucs] at hu
  | cons f r ih =>
    intro u hu
    rw [ucs_cons] at hu
    simp only [List.mem_cons] at hu
    rcases hu with rfl | rfl | rfl | hu
    · rfl
    · rfl
    · rfl
    · exact ih u hu
theorem ucs_get : ∀ (R : List URow) (i : Nat) (r : URow), R[i]? = some r → (ucs R)[i * 3]? = some (sv r.type) ∧ (ucs R)[i * 3 + 1]? = some (.int .i64 r.frm) ∧ (ucs R)[i * 3 + 2]? = some (.slice r.a r.n r.c)
  | [], i, r, h => by simp at h
  | f :: q, 0, r, h => by simp at h; subst h; rw [ucs_cons]; simp
  | f :: q, i + 1, r, h => by
    have := ucs_get q i r (by simpa using h)
    rw [ucs_cons]
    have e : (i + 1) * 3 = i * 3 + 1 + 1 + 1 := by omega
    have e1 : (i + 1) * 3 + 1 = (i * 3 + 1) + 1 + 1 + 1 := by omega
    have e2 : (i + 1) * 3 + 2 = (i * 3 + 2) + 1 + 1 + 1 := by omega
    rw [e1, e2, e]
    simp only [List.getElem?_cons_succ]
    exact this

/-- Upcasters in a row of one's own; their changes lie where they lay in w0. -/
def UOwn (w0 w : World) (base : Nat) (v : Value) (S : List Upc) : Prop :=
  ∃ R : List URow, w.ownsRow base 38 3 v R.length (ucs R) ∧ R.length = S.length ∧ ∀ (i : Nat) (u : Upc) (r : URow), S[i]? = some u → R[i]? = some r → r.type = u.type ∧ r.frm = u.frm ∧ r.n = u.chs.length ∧ ChL w0 (.slice r.a r.n r.c) u.chs
theorem UOwn.nil (w0 w : World) (base : Nat) : UOwn w0 w base (.slice none 0 0) [] := ⟨[], World.ownsRow_nil _ _ _ _, rfl, fun i u r h => by simp at h⟩
theorem UOwn.slice {w0 w : World} {base : Nat} {v : Value} {S : List Upc} (h : UOwn w0 w base v S) : ∃ a c, v = .slice a S.length c := by
  obtain ⟨R, ⟨h1, h2⟩, h3, _⟩ := h
  rcases h2 with ⟨rfl, e⟩ | ⟨g, cap, cur, rfl, _⟩
  · exact ⟨none, 0, by rw [← h3, e]⟩
  · exact ⟨_, cap, by rw [← h3]⟩
theorem UOwn.below {B base : Nat} {w0 w w' : World} {v : Value} {l : List Upc} (h : UOwn w0 w base v l) (hb : Below B w w') (hB : w.heap.size ≤ B) : UOwn w0 w' base v l := by
  obtain ⟨R, ⟨h1, h2⟩, h3⟩ := h
  refine ⟨R, ⟨h1, ?_⟩, h3⟩
  rcases h2 with h | ⟨g, cap, cur, a, b, c, r⟩
  · exact .inl h
  · exact .inr ⟨g, cap, cur, a, b, (hb.block g (by have := lt_of_block c; omega)).trans c, r⟩
theorem UOwn.upl {w0 w : World} {base : Nat} {v : Value} {S : List Upc} (h : UOwn w0 w base v S) (hb : Below w0.heap.size w0 w) : UpL w v S := by
  obtain ⟨R, ⟨h1, h2⟩, h3, h4⟩ := h
  rcases h2 with ⟨rfl, e⟩ | ⟨g, cap, cur, rfl, hbs, hg, hn, hm, hs, ht⟩
  · exact ⟨none, 0, by rw [← h3, e], by omega, by omega, fun hz => absurd (h3.symm.trans e) hz⟩
  · refine ⟨some ⟨g, 0, none⟩, cap, by rw [← h3], by omega, by unfold maxLen at hm; omega, fun _ => ⟨g, 0, rfl, lt_of_block hg, fun i u hi => ?_⟩⟩
    have hil := (List.getElem?_eq_some_iff.1 hi).1
    obtain ⟨r, hr⟩ : ∃ r, R[i]? = some r := ⟨_, List.getElem?_eq_getElem (by omega)⟩
    have at' : ∀ j x, j < R.length * 3 → (ucs R)[j]? = some x → w.cell? ⟨g, 0 + j, none⟩ = some x := by
      intro j x hj hx
      have e : (cur.toList.take (R.length * 3))[j]? = (ucs R)[j]? := by rw [ht]
      rw [List.getElem?_take_of_lt hj, hx] at e
      simp only [World.cell?, hg, Nat.zero_add]
      simpa using e
    obtain ⟨g0, g1, g2⟩ := ucs_get R i r hr
    obtain ⟨e0, e1, e2, e3⟩ := h4 i u r hi hr
    rw [e0] at g0
    rw [e1] at g1
    rw [e2] at g2 e3
    exact ⟨at' _ _ (by omega) g0, at' _ _ (by omega) g1, r.a, r.c, at' _ _ (by omega) g2, e3.below hb (Nat.le_refl _)⟩
theorem Tryd.infoUp : (Tryd.prog.info? 38).map (fun i => (i.zero, i.size, i.bytes)) = some (some (.agg (uv [] 0 (.slice none 0 0))), 3, 48) := by kernel_rfl

/-- An append of an upcaster. -/
theorem wpList_append_up {w0 w : World} {ops : Array Oper} {rest : List Oper} {o : Oper} {a : Act} {Q : Exit → Act → World → Prop} (hgd : o.guard = none) (s x : Operand)
    (ho : o.op = .call { callee := .builtin .append, args := #[s, x], argTypes := #[23, 23] })
    (base : Nat) (v : Value) (S : List Upc) (hs : a.eval s = v) (hown : UOwn w0 w base v S) (q : Nat) (u : Upc) (ca : Option Addr) (cc : Nat) (hx : a.eval x = .slice (some ⟨q, 0, none⟩) 1 1) (hq : UBx w q u.type u.frm (.slice ca u.chs.length cc)) (hch : ChL w0 (.slice ca u.chs.length cc) u.chs) (hlen : S.length ≤ 2000000000) (hbase : base ≤ w.heap.size)
    (h : ∀ v' w', UOwn w0 w' base v' (S ++ [u]) → Below base w w' → wpList Tryd.prog ops Q rest (a.put o.dst v') w') : wpList Tryd.prog ops Q (o :: rest) a w := by
  obtain ⟨i0, hi, hh⟩ := Option.map_eq_some_iff.1 Tryd.infoUp
  simp only [Prod.mk.injEq] at hh
  obtain ⟨R, hrow, hRl, hR⟩ := hown
  refine wpList_append_own w hgd s x 23 ho base 38 i0 (.agg (uv [] 0 (.slice none 0 0))) 3 48 Tryd.underlying23 hi hh.1 hh.2.1 hh.2.2 rfl (by decide) v R.length (ucs R) hs hrow ⟨q, 0, none⟩ 1 1 (ucs [⟨u.type, u.frm, ca, u.chs.length, cc⟩]) hx (by simp [ucs]) (fun j y hj => by
    rw [addr_add, Nat.zero_add, cell_of_row _ _ _ _ _ _ hq]
    rw [← hj]; simp [ucs]) (ucs_one _) (by unfold maxLen; omega) (by omega) hbase ?_
  intro v' w' ho' hgr _
  refine h v' w' ⟨R ++ [⟨u.type, u.frm, ca, u.chs.length, cc⟩], by rw [ucs_append, List.length_append]; exact ho', by simp [hRl], fun i y r hy hr => ?_⟩ ((Below.refl _ _).grown hgr hbase ?_)
  · by_cases hil : i < S.length
    · rw [List.getElem?_append_left hil] at hy
      rw [List.getElem?_append_left (by omega)] at hr
      exact hR i y r hy hr
    · have hi2 : i = S.length := by
        have := (List.getElem?_eq_some_iff.1 hy).1
        simp at this
        omega
      subst hi2
      rw [List.getElem?_append_right (Nat.le_refl _)] at hy
      rw [List.getElem?_append_right (by omega)] at hr
      simp at hy
      simp [hRl] at hr
      subst hy hr
      exact ⟨rfl, rfl, rfl, hch⟩
  · intro k hk
    rcases hrow.2 with ⟨rfl, _⟩ | ⟨g, cap', cur, rfl, hb, _⟩
    · cases hk
    · simp only [Value.ownBlock, Option.some.injEq] at hk; omega
end Go.Proofs.YtfgjbmpbailebaaDoor
