/-
  DERIVED. The plain mathematics of free blocks: runs, how they are cut. Nothing of the program.
-/
namespace Go.Proofs.Ytmnmciajldoabaa

/-- Which blocks may be taken. -/
def may (U V : Nat → Bool) (n : Nat) : Bool := !U n && !V n

/-- How many blocks from n on may be taken, of k. -/
def runL (f : Nat → Bool) : Nat → Nat → Nat
  | 0, _ => 0
  | k + 1, n => if f n = true then runL f k (n + 1) + 1 else 0

theorem runL_le (f : Nat → Bool) : ∀ k n, runL f k n ≤ k
  | 0, _ => Nat.le_refl _
  | k + 1, n => by
    simp only [runL]
    split
    · have := runL_le f k (n + 1); omega
    · omega

/-- A block ahead of runs. -/
def consB (n : Nat) : List (Nat × Nat) → List (Nat × Nat)
  | [] => [(n, 1)]
  | (m, l) :: r => if m = n + 1 then (n, l + 1) :: r else (n, 1) :: (m, l) :: r

/-- The runs of k blocks from n on. -/
def runsF (f : Nat → Bool) : Nat → Nat → List (Nat × Nat)
  | 0, _ => []
  | k + 1, n => if f n = true then consB n (runsF f k (n + 1)) else runsF f k (n + 1)

theorem runsF_head (f : Nat → Bool) : ∀ k n, (∀ m l r, runsF f k n = (m, l) :: r → n ≤ m)
  | 0, _ => by intro m l r h; cases h
  | k + 1, n => by
    intro m l r h
    simp only [runsF] at h
    split at h
    · cases hq : runsF f k (n + 1) with
      | nil => rw [hq] at h; simp only [consB] at h; cases h; omega
      | cons x xs =>
        obtain ⟨m', l'⟩ := x
        rw [hq] at h
        simp only [consB] at h
        split at h <;> (cases h; omega)
    · have := runsF_head f k (n + 1) m l r h
      omega

theorem runsF_run (f : Nat → Bool) : ∀ k n, 0 < runL f k n → runsF f k n = (n, runL f k n) :: runsF f (k - (runL f k n + 1)) (n + runL f k n + 1)
  | 0, _ => by intro h; simp [runL] at h
  | k + 1, n => by
    intro h
    simp only [runL] at h ⊢
    split at h
    · rename_i hf
      simp only [runsF, hf, if_true]
      by_cases h0 : 0 < runL f k (n + 1)
      · rw [runsF_run f k (n + 1) h0]
        simp only [consB, if_true]
        congr 2
        · omega
        · omega
      · have hz : runL f k (n + 1) = 0 := by omega
        simp only [hz]
        cases k with
        | zero => simp [runsF, consB]
        | succ k =>
          simp only [runL] at hz
          split at hz
          · omega
          · rename_i hf2
            simp only [runsF, hf2]
            have e1 : n + (0 + 1) + 1 = n + 1 + 1 := by omega
            have e2 : k + 1 + 1 - (0 + 1 + 1) = k := by omega
            rw [e1, e2]
            cases hq : runsF f k (n + 1 + 1) with
            | nil => simp [consB]
            | cons x xs =>
              obtain ⟨m, l⟩ := x
              have := runsF_head f k (n + 1 + 1) m l xs hq
              have hne : ¬ m = n + 1 := by omega
              simp [consB, hne]
    · omega

theorem runsF_none (f : Nat → Bool) (k n : Nat) (h : runL f (k + 1) n = 0) : runsF f (k + 1) n = runsF f k (n + 1) := by
  simp only [runL] at h
  split at h
  · omega
  · rename_i hf
    simp [runsF, hf]

/-- The blocks of runs. -/
def blocks (xs : List (Nat × Nat)) : List Nat := xs.flatMap fun x => List.range' x.1 x.2

theorem blocks_consB (n : Nat) (xs : List (Nat × Nat)) (h : ∀ x ∈ xs, 1 ≤ x.2) : blocks (consB n xs) = n :: blocks xs := by
  cases xs with
  | nil => simp [consB, blocks]
  | cons x r =>
    obtain ⟨m, l⟩ := x
    simp only [consB]
    split
    · rename_i e
      subst e
      simp [blocks, List.range'_succ]
    · simp [blocks]

theorem runsF_pos (f : Nat → Bool) : ∀ k n, ∀ x ∈ runsF f k n, 1 ≤ x.2
  | 0, _ => by intro x h; cases h
  | k + 1, n => by
    intro x h
    have ih := runsF_pos f k (n + 1)
    simp only [runsF] at h
    split at h
    · cases hq : runsF f k (n + 1) with
      | nil => rw [hq] at h; simp only [consB, List.mem_singleton] at h; subst h; simp
      | cons y ys =>
        obtain ⟨m, l⟩ := y
        rw [hq] at h ih
        simp only [consB] at h
        split at h
        · rcases List.mem_cons.1 h with rfl | h
          · simp
          · exact ih x (List.mem_cons_of_mem _ h)
        · rcases List.mem_cons.1 h with rfl | h
          · simp
          · exact ih x h
    · exact ih x h

theorem blocks_runsF (f : Nat → Bool) : ∀ k n, blocks (runsF f k n) = (List.range' n k).filter f
  | 0, _ => rfl
  | k + 1, n => by
    simp only [runsF, List.range'_succ, List.filter_cons]
    split
    · rw [blocks_consB _ _ (runsF_pos f k (n + 1)), blocks_runsF f k (n + 1)]
    · exact blocks_runsF f k (n + 1)

theorem mem_blocks {xs : List (Nat × Nat)} {j : Nat} : j ∈ blocks xs ↔ ∃ x ∈ xs, x.1 ≤ j ∧ j < x.1 + x.2 := by
  simp [blocks, List.mem_flatMap, List.mem_range'_1]

theorem runsF_in (f : Nat → Bool) (k n : Nat) (x : Nat × Nat) (h : x ∈ runsF f k n) : n ≤ x.1 ∧ x.1 + x.2 ≤ n + k := by
  have hp := runsF_pos f k n x h
  have h1 : x.1 ∈ blocks (runsF f k n) := mem_blocks.2 ⟨x, h, by omega, by omega⟩
  have h2 : x.1 + x.2 - 1 ∈ blocks (runsF f k n) := mem_blocks.2 ⟨x, h, by omega, by omega⟩
  rw [blocks_runsF] at h1 h2
  have a1 := List.mem_range'_1.1 (List.mem_filter.1 h1).1
  have a2 := List.mem_range'_1.1 (List.mem_filter.1 h2).1
  omega

/-- How many blocks runs have. -/
def total (xs : List (Nat × Nat)) : Nat := (xs.map (·.2)).sum
theorem total_nil : total [] = 0 := rfl
theorem total_cons (x : Nat × Nat) (xs : List (Nat × Nat)) : total (x :: xs) = x.2 + total xs := by simp [total]
theorem total_append (xs ys : List (Nat × Nat)) : total (xs ++ ys) = total xs + total ys := by simp [total]
theorem total_blocks (xs : List (Nat × Nat)) : total xs = (blocks xs).length := by
  induction xs with
  | nil => rfl
  | cons x xs ih => rw [total_cons, ih]; simp [blocks]
theorem total_le_of_prefix {xs ys : List (Nat × Nat)} (h : xs <+: ys) : total xs ≤ total ys := by
  obtain ⟨r, rfl⟩ := h
  rw [total_append]; omega
theorem total_runsF (f : Nat → Bool) (k n : Nat) : total (runsF f k n) ≤ k := by
  rw [total_blocks, blocks_runsF]
  exact Nat.le_trans (List.length_filter_le _ _) (by simp)
theorem length_le_total {xs : List (Nat × Nat)} (h : ∀ x ∈ xs, 1 ≤ x.2) : xs.length ≤ total xs := by
  induction xs with
  | nil => simp
  | cons x xs ih =>
    have h1 := h x (List.mem_cons_self ..)
    have h2 := ih fun y hy => h y (List.mem_cons_of_mem _ hy)
    rw [total_cons]
    simp
    omega

/-- The first n blocks of runs. -/
def cut : Nat → List (Nat × Nat) → List (Nat × Nat)
  | _, [] => []
  | n, x :: xs => if n = 0 then [] else (x.1, min x.2 n) :: cut (n - min x.2 n) xs

theorem cut_zero (xs : List (Nat × Nat)) : cut 0 xs = [] := by cases xs <;> simp [cut]

theorem cut_full : ∀ (xs ys : List (Nat × Nat)) (n : Nat), n ≤ total xs → cut n (xs ++ ys) = cut n xs
  | [], ys, n, h => by
    have : n = 0 := by simp [total] at h; omega
    subst this
    simp [cut, cut_zero]
  | x :: xs, ys, n, h => by
    rw [total_cons] at h
    simp only [List.cons_append, cut]
    split
    · rfl
    · rw [cut_full xs ys (n - min x.2 n) (by omega)]

theorem cut_snoc : ∀ (xs : List (Nat × Nat)) (x : Nat × Nat) (n : Nat), total xs < n → cut n (xs ++ [x]) = cut n xs ++ [(x.1, min x.2 (n - total xs))]
  | [], x, n, h => by
    have : n ≠ 0 := by simp [total] at h; omega
    simp [cut, this, total]
  | y :: xs, x, n, h => by
    rw [total_cons] at h ⊢
    have h0 : n ≠ 0 := by omega
    have e : min y.2 n = y.2 := by omega
    simp only [List.cons_append, cut, h0, if_false, e]
    rw [cut_snoc xs x (n - y.2) (by omega), Nat.sub_sub]

theorem total_cut : ∀ (xs : List (Nat × Nat)) (n : Nat), n ≤ total xs → total (cut n xs) = n
  | [], n, h => by simp [total] at h; simp [cut, total, h]
  | x :: xs, n, h => by
    rw [total_cons] at h
    simp only [cut]
    split
    · rename_i h0; simp [total, h0]
    · rw [total_cons, total_cut xs _ (by omega)]
      simp only
      omega

theorem take_range' : ∀ (n a k : Nat), List.range' a (min k n) = (List.range' a k).take n
  | 0, a, k => by simp
  | n + 1, a, 0 => by simp
  | n + 1, a, k + 1 => by
    have e : min (k + 1) (n + 1) = min k n + 1 := by omega
    rw [e, List.range'_succ, List.range'_succ, List.take_succ_cons, take_range' n (a + 1) k]

theorem blocks_cut : ∀ (xs : List (Nat × Nat)) (n : Nat), blocks (cut n xs) = (blocks xs).take n
  | [], n => by simp [cut, blocks]
  | x :: xs, n => by
    simp only [cut]
    split
    · rename_i h0; subst h0; simp [blocks]
    · have ih := blocks_cut xs (n - min x.2 n)
      simp only [blocks, List.flatMap_cons] at ih ⊢
      rw [ih, List.take_append]
      congr 1
      · exact take_range' _ _ _
      · congr 1
        simp only [List.length_range']
        omega

theorem cut_pos : ∀ (xs : List (Nat × Nat)) (n : Nat), (∀ x ∈ xs, 1 ≤ x.2) → ∀ x ∈ cut n xs, 1 ≤ x.2
  | [], n, _, x, h => by simp [cut] at h
  | y :: xs, n, hp, x, h => by
    simp only [cut] at h
    split at h
    · cases h
    · rcases List.mem_cons.1 h with rfl | h
      · have := hp y (List.mem_cons_self ..)
        simp only
        omega
      · exact cut_pos xs _ (fun z hz => hp z (List.mem_cons_of_mem _ hz)) x h

theorem cut_in : ∀ (xs : List (Nat × Nat)) (n B : Nat), (∀ x ∈ xs, x.1 + x.2 ≤ B) → ∀ x ∈ cut n xs, x.1 + x.2 ≤ B
  | [], n, B, _, x, h => by simp [cut] at h
  | y :: xs, n, B, hp, x, h => by
    simp only [cut] at h
    split at h
    · cases h
    · rcases List.mem_cons.1 h with rfl | h
      · have := hp y (List.mem_cons_self ..)
        simp only
        omega
      · exact cut_in xs _ B (fun z hz => hp z (List.mem_cons_of_mem _ hz)) x h

/-- A run's blocks taken. -/
def mark (U : Nat → Bool) (x : Nat × Nat) : Nat → Bool := fun j => U j || (decide (x.1 ≤ j) && decide (j < x.1 + x.2))
def marks (U : Nat → Bool) (xs : List (Nat × Nat)) : Nat → Bool := xs.foldl mark U
theorem marks_nil (U : Nat → Bool) : marks U [] = U := rfl
theorem marks_snoc (U : Nat → Bool) (xs : List (Nat × Nat)) (x : Nat × Nat) : marks U (xs ++ [x]) = mark (marks U xs) x := by simp [marks]
theorem marks_eq (xs : List (Nat × Nat)) : ∀ (U : Nat → Bool) (j : Nat), marks U xs j = (U j || decide (j ∈ blocks xs)) := by
  induction xs with
  | nil => intro U j; simp [marks, blocks]
  | cons x xs ih =>
    intro U j
    have e : marks U (x :: xs) = marks (mark U x) xs := rfl
    rw [e, ih]
    have hb : j ∈ blocks (x :: xs) ↔ (x.1 ≤ j ∧ j < x.1 + x.2) ∨ j ∈ blocks xs := by
      rw [mem_blocks, mem_blocks]
      constructor
      · rintro ⟨y, hy, hh⟩
        rcases List.mem_cons.1 hy with rfl | hy
        · exact .inl hh
        · exact .inr ⟨y, hy, hh⟩
      · rintro (hh | ⟨y, hy, hh⟩)
        · exact ⟨x, List.mem_cons_self .., hh⟩
        · exact ⟨y, List.mem_cons_of_mem _ hy, hh⟩
    simp only [mark]
    by_cases h1 : x.1 ≤ j ∧ j < x.1 + x.2
    · have : j ∈ blocks (x :: xs) := hb.2 (.inl h1)
      simp [h1, this]
    · have : (decide (x.1 ≤ j) && decide (j < x.1 + x.2)) = false := by
        simp only [Bool.and_eq_false_iff, decide_eq_false_iff_not]; omega
      rw [this, Bool.or_false]
      congr 1
      apply decide_eq_decide.2
      rw [hb]
      exact ⟨.inr, fun h => h.resolve_left h1⟩

/-- A run within its bounds, whatever was given. -/
def cl (x : Nat × Nat) : Nat × Nat := if 1 ≤ x.2 ∧ x.1 + x.2 ≤ 512 then x else (0, 1)
theorem cl_in (x : Nat × Nat) : 1 ≤ (cl x).2 ∧ (cl x).1 + (cl x).2 ≤ 512 := by
  unfold cl
  split
  · assumption
  · decide
theorem cl_id {x : Nat × Nat} (h1 : 1 ≤ x.2) (h2 : x.1 + x.2 ≤ 512) : cl x = x := by simp [cl, h1, h2]
theorem cl_map {xs : List (Nat × Nat)} (h : ∀ x ∈ xs, 1 ≤ x.2 ∧ x.1 + x.2 ≤ 512) : xs.map cl = xs := by
  induction xs with
  | nil => rfl
  | cons x xs ih =>
    rw [List.map_cons, ih fun y hy => h y (List.mem_cons_of_mem _ hy), cl_id (h x (List.mem_cons_self ..)).1 (h x (List.mem_cons_self ..)).2]

/-- A run given back, where all its blocks are in use. -/
def dropGo : Nat → Nat → (Nat → Bool) → Option (Nat → Bool)
  | 0, _, U => some U
  | k + 1, n, U => if U n = true then dropGo k (n + 1) (fun j => if j = n then false else U j) else none
def dropR (B : Nat) (U : Nat → Bool) (x : Int × Int) : Option (Nat → Bool) :=
  if x.1 < 0 ∨ x.2 < 1 ∨ x.2 > B - x.1 then none else dropGo x.2.toNat x.1.toNat U
def giveL (B : Nat) : (Nat → Bool) → List (Int × Int) → Option (Nat → Bool)
  | U, [] => some U
  | U, x :: r => match dropR B U x with
    | none => none
    | some U' => giveL B U' r

/-- The runs that may be taken. -/
def runsOf (B : Nat) (U V : Nat → Bool) : List (Nat × Nat) := runsF (may U V) B 0
theorem runsOf_in {B : Nat} {U V : Nat → Bool} (hB : B ≤ 512) : ∀ x ∈ runsOf B U V, 1 ≤ x.2 ∧ x.1 + x.2 ≤ 512 := fun x h => by
  have h1 := runsF_pos _ _ _ x h
  have h2 := runsF_in _ _ _ x h
  omega
theorem runsOf_total (B : Nat) (U V : Nat → Bool) : total (runsOf B U V) ≤ B := total_runsF _ _ _

end Go.Proofs.Ytmnmciajldoabaa
