/-
  DERIVED. The plain mathematics of frames that are cut.
-/
import Derived.Test.YtoclnnkeabbicaaMath5
namespace Go.Proofs.Ytoclnnkeabbicaa

theorem laysF_take_mono (fs : List (UInt8 × List UInt8)) : ∀ {a b : Nat}, a ≤ b → (laysF (fs.take a)).length ≤ (laysF (fs.take b)).length := by
  intro a b h
  induction fs generalizing a b with
  | nil => simp
  | cons f fs ih =>
    match a, b, h with
    | 0, b, _ => simp [laysF]
    | a + 1, b + 1, h =>
      have := ih (a := a) (b := b) (by omega)
      simp only [List.take_succ_cons, laysF, List.length_append]
      omega

theorem scan_cut : ∀ (fs : List (UInt8 × List UInt8)) (n : Nat), (∀ f ∈ fs, f.2.length ≤ 2000) → n ≤ (laysF fs).length →
    ∃ m, m ≤ fs.length ∧ (laysF (fs.take m)).length ≤ n ∧ (m < fs.length → n < (laysF (fs.take (m + 1))).length) ∧ scanL ((laysF fs).take n) = (fs.take m, (laysF (fs.take m)).length)
  | [], n, _, h => by
    refine ⟨0, by simp, by simp [laysF], by simp, ?_⟩
    have := scan_bad (frE_short (l := []) (by decide))
    simpa [laysF] using this
  | f :: fs, n, hf, h => by
    have h1 := hf f (by simp)
    by_cases hn : n < (frLay f.1 f.2).length
    · refine ⟨0, by simp, by simp [laysF], by simpa [laysF] using hn, ?_⟩
      have e : (laysF (f :: fs)).take n = (frLay f.1 f.2).take n := by
        simp only [laysF]
        rw [List.take_append_of_le_length (by omega)]
      rw [e, scan_bad (fr_cut f.1 f.2 h1 n hn)]
      simp [laysF]
    · simp only [laysF, List.length_append] at h
      obtain ⟨m, m1, m2, m3, m4⟩ := scan_cut fs (n - (frLay f.1 f.2).length) (fun g hg => hf g (by simp [hg])) (by omega)
      have e : (laysF (f :: fs)).take n = frLay f.1 f.2 ++ (laysF fs).take (n - (frLay f.1 f.2).length) := by
        simp only [laysF]
        rw [List.take_append, List.take_of_length_le (by omega)]
      obtain ⟨e1, e2, e3, e4⟩ := fr_back f.1 f.2 ((laysF fs).take (n - (frLay f.1 f.2).length)) h1
      refine ⟨m + 1, by simp; omega, ?_, ?_, ?_⟩
      · simp only [List.take_succ_cons, laysF, List.length_append]; omega
      · intro hm
        have := m3 (by simpa using hm)
        simp only [List.take_succ_cons, laysF, List.length_append]
        omega
      · rw [e, scan_good e1, e2, e3, e4, List.drop_left, m4]
        simp [laysF]

/-- Where each frame ends. -/
def endsF (fs : List (UInt8 × List UInt8)) : List Nat := (List.range fs.length).map (fun j => (laysF (fs.take (j + 1))).length)
theorem endsF_len (fs : List (UInt8 × List UInt8)) : (endsF fs).length = fs.length := by simp [endsF]
theorem endsF_at (fs : List (UInt8 × List UInt8)) (j : Nat) (h : j < (endsF fs).length) : (endsF fs)[j] = (laysF (fs.take (j + 1))).length := by simp [endsF]
theorem endsF_snoc (fs : List (UInt8 × List UInt8)) (f : UInt8 × List UInt8) : endsF (fs ++ [f]) = endsF fs ++ [(laysF (fs ++ [f])).length] := by
  apply List.ext_getElem
  · simp [endsF]
  · intro i h1 h2
    rw [endsF_at]
    by_cases hi : i < fs.length
    · rw [List.getElem_append_left (by rw [endsF_len]; exact hi), endsF_at, List.take_append_of_le_length (by omega)]
    · have : i = fs.length := by simp [endsF] at h1; omega
      subst this
      rw [List.getElem_append_right (by simp [endsF]), List.take_of_length_le (by simp)]
      simp [endsF]

theorem many_eq (fs : List (UInt8 × List UInt8)) (n many m : Nat) (h1 : many ≤ fs.length) (h2 : ∀ j, j < many → (laysF (fs.take (j + 1))).length ≤ n) (h3 : many < fs.length → n < (laysF (fs.take (many + 1))).length)
    (m1 : m ≤ fs.length) (m2 : (laysF (fs.take m)).length ≤ n) (m3 : m < fs.length → n < (laysF (fs.take (m + 1))).length) : m = many := by
  rcases Nat.lt_trichotomy m many with h | h | h
  · have := h2 m h
    have := m3 (by omega)
    omega
  · exact h
  · have := h3 (by omega)
    have := laysF_take_mono fs (a := many + 1) (b := m) (by omega)
    omega
theorem laysF_len_le : ∀ (fs : List (UInt8 × List UInt8)), (∀ f ∈ fs, f.2.length ≤ 2000) → (laysF fs).length ≤ 2015 * fs.length
  | [], _ => by simp [laysF]
  | f :: fs, h => by
    have h1 := h f (by simp)
    have := laysF_len_le fs (fun g hg => h g (by simp [hg]))
    have hl := lay_len f.2.length
    simp only [laysF, List.length_append, List.length_cons, frLay, le4, frBody, List.length_nil]
    omega
end Go.Proofs.Ytoclnnkeabbicaa
