/-
  DERIVED. Blocks and runs, plainly: canon L, the runs of a list of blocks.
-/
import Derived.Test.YtmnmciajldoabaaMath
namespace Go.Proofs.Ytmnmciajldoabaa
set_option linter.unusedVariables false

/-- The blocks of runs. -/
def bks (X : List (Nat × Nat)) : List Nat := X.flatMap fun x => List.range' x.1 x.2
theorem bks_nil : bks [] = [] := rfl
theorem bks_cons (x : Nat × Nat) (X : List (Nat × Nat)) : bks (x :: X) = List.range' x.1 x.2 ++ bks X := by simp [bks]
theorem bks_append (X Y : List (Nat × Nat)) : bks (X ++ Y) = bks X ++ bks Y := by simp [bks]
theorem bks_one (x : Nat × Nat) : bks [x] = List.range' x.1 x.2 := by simp [bks]

/-- A run behind runs: joined with the last one where it follows on it. -/
def jstep (X : List (Nat × Nat)) (r : Nat × Nat) : List (Nat × Nat) :=
  match X.getLast? with
  | none => X ++ [r]
  | some z => if z.1 + z.2 = r.1 then X.dropLast ++ [(z.1, z.2 + r.2)] else X ++ [r]
theorem jstep_nil (r : Nat × Nat) : jstep [] r = [r] := rfl
theorem jstep_join (X : List (Nat × Nat)) (a m n : Nat) : jstep (X ++ [(a, m)]) (a + m, n) = X ++ [(a, m + n)] := by simp [jstep]
theorem jstep_not (X : List (Nat × Nat)) (z r : Nat × Nat) (h : z.1 + z.2 ≠ r.1) : jstep (X ++ [z]) r = X ++ [z] ++ [r] := by simp [jstep, h]
theorem list_snoc {α : Type} (X : List α) : X = [] ∨ ∃ Y z, X = Y ++ [z] := by
  rcases List.eq_nil_or_concat X with h | ⟨Y, z, h⟩
  · exact .inl h
  · exact .inr ⟨Y, z, by simpa using h⟩
theorem jstep_cases (X : List (Nat × Nat)) (r : Nat × Nat) : jstep X r = X ++ [r] ∨ ∃ Y z, X = Y ++ [z] ∧ z.1 + z.2 = r.1 ∧ jstep X r = Y ++ [(z.1, z.2 + r.2)] := by
  rcases list_snoc X with rfl | ⟨Y, z, rfl⟩
  · exact .inl rfl
  · by_cases h : z.1 + z.2 = r.1
    · obtain ⟨r1, r2⟩ := r
      simp only at h
      subst h
      exact .inr ⟨Y, z, rfl, rfl, by obtain ⟨z1, z2⟩ := z; exact jstep_join Y z1 z2 r2⟩
    · exact .inl (jstep_not Y z r h)
theorem range_join (a m n : Nat) : List.range' a m ++ List.range' (a + m) n = List.range' a (m + n) := by simp
theorem bks_jstep (X : List (Nat × Nat)) (r : Nat × Nat) : bks (jstep X r) = bks X ++ List.range' r.1 r.2 := by
  rcases jstep_cases X r with h | ⟨Y, z, rfl, h1, h2⟩
  · rw [h, bks_append, bks_one]
  · rw [h2, bks_append, bks_one, bks_append, bks_one, List.append_assoc, ← h1, range_join]
/-- A run laid block by block. -/
theorem jstep_succ (X : List (Nat × Nat)) (a m : Nat) (hm : 0 < m) : jstep (jstep X (a, m)) (a + m, 1) = jstep X (a, m + 1) := by
  rcases jstep_cases X (a, m) with h | ⟨Y, z, rfl, h1, h2⟩
  · rw [h, jstep_join]
    rcases list_snoc X with rfl | ⟨Y, z, rfl⟩
    · rfl
    · by_cases hz : z.1 + z.2 = a
      · exfalso
        obtain ⟨z1, z2⟩ := z
        simp only at hz
        subst hz
        rw [jstep_join] at h
        have := congrArg List.length h
        simp at this
      · exact (jstep_not Y z _ hz).symm
  · obtain ⟨z1, z2⟩ := z
    simp only at h1 h2
    subst h1
    rw [h2, jstep_join, show z1 + z2 + m = z1 + (z2 + m) by omega, jstep_join, Nat.add_assoc]

/-- The runs of blocks. -/
def canon (L : List Nat) : List (Nat × Nat) := L.foldl (fun X b => jstep X (b, 1)) []
theorem canon_nil : canon [] = [] := rfl
theorem canon_snoc (L : List Nat) (b : Nat) : canon (L ++ [b]) = jstep (canon L) (b, 1) := by simp [canon]
theorem canon_run (L : List Nat) (a : Nat) : ∀ m, 0 < m → canon (L ++ List.range' a m) = jstep (canon L) (a, m)
  | 0, h => by omega
  | 1, _ => by rw [show List.range' a 1 = [a] by simp]; exact canon_snoc L a
  | m + 2, _ => by
    rw [List.range'_concat, ← List.append_assoc, Nat.one_mul, canon_snoc, canon_run L a (m + 1) (by omega), jstep_succ _ _ _ (by omega)]
/-- Runs laid behind. -/
def joinL (X Y : List (Nat × Nat)) : List (Nat × Nat) := Y.foldl jstep X
theorem joinL_snoc (X Y : List (Nat × Nat)) (r : Nat × Nat) : joinL X (Y ++ [r]) = jstep (joinL X Y) r := by simp [joinL]
theorem canon_join (L : List Nat) : ∀ (Y : List (Nat × Nat)), (∀ y ∈ Y, 0 < y.2) → canon (L ++ bks Y) = joinL (canon L) Y := by
  intro Y
  induction Y generalizing L with
  | nil => intro _; simp [bks, joinL]
  | cons y Y ih =>
    intro h
    rw [bks_cons, ← List.append_assoc, ih _ fun z hz => h z (List.mem_cons_of_mem _ hz), canon_run _ _ _ (h y (List.mem_cons_self ..))]
    rfl
theorem bks_joinL (X : List (Nat × Nat)) : ∀ Y : List (Nat × Nat), bks (joinL X Y) = bks X ++ bks Y := by
  intro Y
  induction Y generalizing X with
  | nil => simp [joinL, bks]
  | cons y Y ih =>
    show bks (joinL (jstep X y) Y) = _
    rw [ih, bks_jstep, bks_cons, List.append_assoc]
theorem bks_canon (L : List Nat) : bks (canon L) = L := by
  suffices h : ∀ (L : List Nat) (X : List (Nat × Nat)), bks (L.foldl (fun X b => jstep X (b, 1)) X) = bks X ++ L from by simpa [canon, bks] using h L []
  intro L
  induction L with
  | nil => simp
  | cons b L ih =>
    intro X
    rw [List.foldl_cons, ih, bks_jstep]
    simp

/-- No run follows on the one ahead of it; all have blocks. -/
def Norm : List (Nat × Nat) → Prop
  | [] => True
  | [x] => 0 < x.2
  | x :: y :: r => 0 < x.2 ∧ x.1 + x.2 ≠ y.1 ∧ Norm (y :: r)
theorem Norm.tail {x : Nat × Nat} {X : List (Nat × Nat)} (h : Norm (x :: X)) : Norm X := by
  cases X with
  | nil => trivial
  | cons y r => exact h.2.2
theorem Norm.head {x : Nat × Nat} {X : List (Nat × Nat)} (h : Norm (x :: X)) : 0 < x.2 := by
  cases X with
  | nil => exact h
  | cons y r => exact h.1
theorem Norm.pos {X : List (Nat × Nat)} (h : Norm X) : ∀ x ∈ X, 0 < x.2 := by
  induction X with
  | nil => intro x hx; cases hx
  | cons y r ih =>
    intro x hx
    rcases List.mem_cons.1 hx with rfl | hx
    · exact h.head
    · exact ih h.tail x hx
theorem Norm.left {X Y : List (Nat × Nat)} (h : Norm (X ++ Y)) : Norm X := by
  induction X with
  | nil => trivial
  | cons x X ih =>
    cases X with
    | nil => exact h.head
    | cons y r => exact ⟨h.1, h.2.1, ih h.2.2⟩
theorem Norm.right {X Y : List (Nat × Nat)} (h : Norm (X ++ Y)) : Norm Y := by
  induction X with
  | nil => exact h
  | cons x X ih => exact ih h.tail
theorem Norm.mid {X : List (Nat × Nat)} {z r : Nat × Nat} (h : Norm (X ++ [z] ++ [r])) : z.1 + z.2 ≠ r.1 := by
  have h2 : Norm ([z] ++ [r]) := Norm.right (X := X) (by simpa using h)
  exact h2.2.1
theorem Norm.snoc {X : List (Nat × Nat)} {r : Nat × Nat} (h : Norm X) (hr : 0 < r.2) (hl : ∀ Y z, X = Y ++ [z] → z.1 + z.2 ≠ r.1) : Norm (X ++ [r]) := by
  induction X with
  | nil => exact hr
  | cons x X ih =>
    cases X with
    | nil => exact ⟨h, hl [] x rfl, hr⟩
    | cons y q => exact ⟨h.1, h.2.1, ih h.2.2 fun Y z e => hl (x :: Y) z (by rw [e]; rfl)⟩
/-- The last run longer. -/
theorem Norm.last {X : List (Nat × Nat)} {a m n : Nat} (h : Norm (X ++ [(a, m)])) (hn : 0 < n) : Norm (X ++ [(a, n)]) := by
  refine Norm.snoc h.left hn fun Y z e => ?_
  subst e
  exact h.mid
/-- The first run cut ahead. -/
theorem Norm.first {X : List (Nat × Nat)} {a m k : Nat} (h : Norm ((a, m) :: X)) (hk : k < m) : Norm ((a + k, m - k) :: X) := by
  cases X with
  | nil => show 0 < m - k; omega
  | cons y r =>
    refine ⟨by show 0 < m - k; omega, ?_, h.2.2⟩
    have h1 := h.2.1
    simp only at h1 ⊢
    omega
theorem Norm.jstep {X : List (Nat × Nat)} {r : Nat × Nat} (h : Norm X) (hr : 0 < r.2) : Norm (jstep X r) := by
  rcases list_snoc X with rfl | ⟨Y, z, rfl⟩
  · exact hr
  · by_cases e : z.1 + z.2 = r.1
    · obtain ⟨r1, r2⟩ := r
      obtain ⟨z1, z2⟩ := z
      simp only at e
      subst e
      rw [jstep_join]
      exact h.last (by simp only at hr; omega)
    · rw [jstep_not _ _ _ e]
      refine h.snoc hr fun Y' z' e' => ?_
      have := List.append_inj' e' rfl
      have e2 : z = z' := by simpa using this.2
      rw [← e2]; exact e
theorem norm_canon (L : List Nat) : Norm (canon L) := by
  suffices h : ∀ (L : List Nat) (X : List (Nat × Nat)), Norm X → Norm (L.foldl (fun X b => jstep X (b, 1)) X) from h L [] trivial
  intro L
  induction L with
  | nil => intro X h; exact h
  | cons b L ih => intro X h; exact ih _ (h.jstep (by simp))
theorem canon_bks : ∀ (n : Nat) (X : List (Nat × Nat)), X.length = n → Norm X → canon (bks X) = X
  | 0, X, hl, _ => by rw [List.eq_nil_of_length_eq_zero hl]; rfl
  | n + 1, X, hl, h => by
    rcases list_snoc X with rfl | ⟨Y, z, rfl⟩
    · simp at hl
    · have hz : 0 < z.2 := h.pos z (by simp)
      rw [bks_append, bks_one, canon_run _ _ _ hz, canon_bks n Y (by simpa using hl) h.left]
      rcases list_snoc Y with rfl | ⟨Y', z', rfl⟩
      · rfl
      · exact jstep_not _ _ _ h.mid
theorem canon_of {X : List (Nat × Nat)} {L : List Nat} (h : Norm X) (e : bks X = L) : canon L = X := by rw [← e]; exact canon_bks _ X rfl h

/-- How many blocks runs have. -/
def tot (X : List (Nat × Nat)) : Nat := (bks X).length
theorem tot_nil : tot [] = 0 := rfl
theorem tot_cons (x : Nat × Nat) (X : List (Nat × Nat)) : tot (x :: X) = x.2 + tot X := by simp [tot, bks_cons]
theorem tot_append (X Y : List (Nat × Nat)) : tot (X ++ Y) = tot X + tot Y := by simp [tot, bks_append]
theorem tot_canon (L : List Nat) : tot (canon L) = L.length := by rw [tot, bks_canon]
/-- Where a block lies: in which run, and as which of it. -/
structure In (X : List (Nat × Nat)) (n r k : Nat) : Prop where
  lt : r < X.length
  kl : k < X[r].2
  sum : tot (X.take r) + k = n
theorem In.block {X : List (Nat × Nat)} {n r k : Nat} (h : In X n r k) : (bks X)[n]? = some ((X[r]'h.lt).1 + k) := by
  have hl := h.lt
  have e : X = X.take r ++ X[r] :: X.drop (r + 1) := by rw [← List.drop_eq_getElem_cons hl, List.take_append_drop]
  have hs := h.sum
  have hk := h.kl
  unfold tot at hs
  rw [show bks X = bks (X.take r) ++ (List.range' X[r].1 X[r].2 ++ bks (X.drop (r + 1))) from by
    conv => lhs; rw [e]
    rw [bks_append, bks_cons], List.getElem?_append_right (by omega), List.getElem?_append_left (by rw [List.length_range']; omega)]
  rw [List.getElem?_range' (by omega)]
  congr 1
  omega
/-- What is ahead of a place, and what is from there on. -/
def keptL (X : List (Nat × Nat)) (r k : Nat) : List (Nat × Nat) := X.take r ++ (if 0 < k then [((X[r]?.getD (0, 0)).1, k)] else [])
def goneL (X : List (Nat × Nat)) (r k : Nat) : List (Nat × Nat) := (((X[r]?.getD (0, 0)).1 + k, (X[r]?.getD (0, 0)).2 - k)) :: X.drop (r + 1)
theorem In.getD {X : List (Nat × Nat)} {n r k : Nat} (h : In X n r k) : X[r]?.getD (0, 0) = X[r]'h.lt := by simp [h.lt]
theorem In.kept_gone {X : List (Nat × Nat)} {n r k : Nat} (h : In X n r k) : bks (keptL X r k) ++ bks (goneL X r k) = bks X ∧ tot (keptL X r k) = n := by
  have hl := h.lt
  have hk := h.kl
  have e : X = X.take r ++ X[r] :: X.drop (r + 1) := by rw [← List.drop_eq_getElem_cons hl, List.take_append_drop]
  have hk2 : bks (keptL X r k) = bks (X.take r) ++ List.range' X[r].1 k := by
    rw [keptL, bks_append, h.getD]
    by_cases hz : 0 < k
    · rw [if_pos hz, bks_one]
    · have : k = 0 := by omega
      subst this
      simp [bks]
  refine ⟨?_, ?_⟩
  · rw [hk2, goneL, bks_cons, h.getD]
    conv => rhs; rw [e]
    rw [bks_append, bks_cons, List.append_assoc, ← List.append_assoc (List.range' _ _), range_join, show k + (X[r].2 - k) = X[r].2 by omega]
  · have hs := h.sum
    unfold tot at hs ⊢
    rw [hk2, List.length_append, List.length_range']
    exact hs
theorem In.norms {X : List (Nat × Nat)} {n r k : Nat} (h : In X n r k) (hn : Norm X) : Norm (keptL X r k) ∧ Norm (goneL X r k) := by
  have hl := h.lt
  have hk := h.kl
  have e : X = X.take r ++ X[r] :: X.drop (r + 1) := by rw [← List.drop_eq_getElem_cons hl, List.take_append_drop]
  have hn1 : Norm (X.take r ++ X[r] :: X.drop (r + 1)) := e ▸ hn
  refine ⟨?_, ?_⟩
  · rw [keptL, h.getD]
    by_cases hz : 0 < k
    · rw [if_pos hz]
      have h2 : Norm ((X.take r ++ [(X[r].1, X[r].2)]) ++ X.drop (r + 1)) := by rw [List.append_assoc]; exact hn1
      exact h2.left.last hz
    · rw [if_neg hz, List.append_nil]
      exact hn1.left
  · rw [goneL, h.getD]
    have h2 : Norm ((X[r].1, X[r].2) :: X.drop (r + 1)) := hn1.right
    exact h2.first hk
theorem In.kept {L : List Nat} {n r k : Nat} (h : In (canon L) n r k) : keptL (canon L) r k = canon (L.take n) ∧ goneL (canon L) r k = canon (L.drop n) := by
  obtain ⟨h1, h2⟩ := h.kept_gone
  obtain ⟨h3, h4⟩ := h.norms (norm_canon L)
  rw [bks_canon] at h1
  unfold tot at h2
  have e1 : bks (keptL (canon L) r k) = L.take n := by
    have := congrArg (List.take n) h1
    rw [List.take_append_of_le_length (by omega), ← h2, List.take_length] at this
    rw [this, h2]
  have e2 : bks (goneL (canon L) r k) = L.drop n := by
    have := congrArg (List.drop n) h1
    rw [List.drop_append_of_le_length (by omega), ← h2, List.drop_length, List.nil_append] at this
    rw [this, h2]
  exact ⟨(canon_of h3 e1).symm, (canon_of h4 e2).symm⟩
theorem canon_nil_iff {L : List Nat} : canon L = [] ↔ L = [] := by
  constructor
  · intro h
    rw [← bks_canon L, h]; rfl
  · rintro rfl; rfl
theorem canon_len (L : List Nat) : (canon L).length ≤ L.length := by
  have h := norm_canon L
  have h2 := tot_canon L
  suffices g : ∀ X : List (Nat × Nat), (∀ x ∈ X, 0 < x.2) → X.length ≤ tot X from by have := g _ h.pos; omega
  intro X
  induction X with
  | nil => intro _; simp
  | cons x X ih =>
    intro h
    have h1 := ih fun y hy => h y (List.mem_cons_of_mem _ hy)
    have h2 := h x (List.mem_cons_self ..)
    rw [tot_cons, List.length_cons]
    omega
/-- All blocks below 512. -/
def low (L : List Nat) : Prop := ∀ b ∈ L, b < 512
theorem low_run {X : List (Nat × Nat)} (h : low (bks X)) : ∀ x ∈ X, 0 < x.2 → x.1 + x.2 ≤ 512 := by
  intro x hx hp
  have : x.1 + (x.2 - 1) ∈ bks X := by
    unfold bks
    rw [List.mem_flatMap]
    refine ⟨x, hx, ?_⟩
    rw [List.mem_range']
    exact ⟨x.2 - 1, by omega, by omega⟩
  have := h _ this
  omega
theorem low_canon {L : List Nat} (h : low L) : ∀ x ∈ canon L, 0 < x.2 ∧ x.1 + x.2 ≤ 512 := fun x hx => by
  have hp := (norm_canon L).pos x hx
  exact ⟨hp, low_run (by rw [bks_canon]; exact h) x hx hp⟩
theorem low_take {L : List Nat} (h : low L) (n : Nat) : low (L.take n) := fun b hb => h b (List.mem_of_mem_take hb)
theorem low_drop {L : List Nat} (h : low L) (n : Nat) : low (L.drop n) := fun b hb => h b (List.mem_of_mem_drop hb)
theorem low_append {L M : List Nat} (h : low L) (h2 : low M) : low (L ++ M) := fun b hb => (List.mem_append.1 hb).elim (h b) (h2 b)
theorem low_bks {X : List (Nat × Nat)} (h : ∀ x ∈ X, x.1 + x.2 ≤ 512) : low (bks X) := by
  intro b hb
  unfold bks at hb
  rw [List.mem_flatMap] at hb
  obtain ⟨x, hx, hb⟩ := hb
  rw [List.mem_range'] at hb
  obtain ⟨i, hi, rfl⟩ := hb
  have := h x hx
  omega
end Go.Proofs.Ytmnmciajldoabaa
