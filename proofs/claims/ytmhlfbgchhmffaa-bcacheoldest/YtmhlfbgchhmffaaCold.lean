/-
  DERIVED. Which keys are there, where nobody pins: plain, and one Put.
-/
import Derived.Test.YtmhlfbgchhmffaaCput3Ib
import Derived.Test.YtmhlfbgchhmffaaCkeysIb
namespace Go.Proofs.Ytmhlfbgchhmffaa
open Go.RowKit Go.Maps
set_option linter.unusedVariables false

def stepK (M : Nat) (k : Int) (ks : List Int) : List Int := if k ∈ ks then ks.filter (fun x => decide (x ≠ k)) ++ [k] else if ks.length < M then ks ++ [k] else ks.tail ++ [k]
def stepU (M : Nat) (k : Int) (U : List Int) : List Int := (k :: U.filter (fun x => decide (x ≠ k))).take M
theorem filter_ne_len {k : Int} : ∀ {U : List Int}, k ∈ U → (U.filter (fun x => decide (x ≠ k))).length < U.length
  | x :: U, h => by
    by_cases e : x = k
    · subst e
      simp
      exact Nat.lt_succ_of_le (List.length_filter_le _ _)
    · have h1 : k ∈ U := by
        rcases List.mem_cons.1 h with h | h
        · exact absurd h.symm e
        · exact h
      have := filter_ne_len h1
      simp [e] at this ⊢
      omega
theorem filter_ne_self {k : Int} {U : List Int} (h : k ∉ U) : U.filter (fun x => decide (x ≠ k)) = U := List.filter_eq_self.2 (fun x hx => by
  have : x ≠ k := fun e => h (e ▸ hx)
  simpa using this)
theorem step_eq (M : Nat) (k : Int) (U : List Int) (h1 : 1 ≤ M) (hl : U.length ≤ M) : stepK M k U.reverse = (stepU M k U).reverse := by
  unfold stepK stepU
  by_cases hm : k ∈ U
  · rw [if_pos (List.mem_reverse.2 hm), List.take_of_length_le (by have := filter_ne_len hm; rw [List.length_cons]; omega), List.reverse_cons, List.filter_reverse]
  · rw [if_neg (fun h => hm (List.mem_reverse.1 h)), filter_ne_self hm]
    by_cases hlt : U.length < M
    · rw [if_pos (by simpa using hlt), List.take_of_length_le (by simp; omega), List.reverse_cons]
    · rw [if_neg (by simpa using hlt)]
      have e : M = U.length := by omega
      subst e
      obtain ⟨A, x, rfl⟩ : ∃ A x, U = A ++ [x] := by
        rcases List.eq_nil_or_concat U with rfl | ⟨A, x, rfl⟩
        · simp at h1
        · exact ⟨A, x, by simp⟩
      simp
theorem stepU_len (M : Nat) (k : Int) (U : List Int) : (stepU M k U).length ≤ M := by unfold stepU; exact List.length_take_le _ _

theorem Ib.Put_step (W : World) (N c M Z : Nat) (L : List Ib.T) (k : Int) (h : Ib.CAt W N c M Z L) (hp : ∀ t ∈ L, t.p = 0) (hk : Ib.good k) (hZ : Z ≤ 1000000) (hN : N ≤ W.heap.size) :
    Calls Try.prog 19 #[.pointer (some ⟨c, 0, none⟩), .int .i64 k, .bool true, .bool false] W fun e w' => (∃ r, e = .returned r) ∧ (∃ L', Ib.CAt w' N c M (Z + 1) L' ∧ (∀ t ∈ L', t.p = 0) ∧ L'.map (·.k) = stepK M k (L.map (·.k))) ∧ Ib.Fr N W w' := by
  cases e : Ib.fnd L k with
  | some b =>
    obtain ⟨L1, t, L2, rfl, rfl, rfl, _⟩ := Ib.fnd_some e
    refine (Ib.Put_there W N c M Z L1 L2 t true false h).mono ?_
    rintro e1 w1 ⟨rfl, ⟨L', a1, rfl⟩, f1⟩
    refine ⟨⟨_, rfl⟩, ⟨_, a1.mono (Nat.le_succ _), fun x hx => ?_, ?_⟩, f1⟩
    · simp only [List.mem_append, List.mem_cons, List.not_mem_nil, or_false] at hx
      rcases hx with (hx | hx) | hx
      · exact hp x (by simp [hx])
      · exact hp x (by simp [hx])
      · subst hx; exact hp t (by simp)
    · obtain ⟨m, l, n, D, h⟩ := h
      obtain ⟨k1, k2, _⟩ := Ib.keys_mid h.keys
      unfold stepK
      rw [if_pos (by simp)]
      have e1 : (L1.map (·.k)).filter (fun x => decide (x ≠ t.k)) = L1.map (·.k) := filter_ne_self (fun hx => by
        obtain ⟨y, hy, e⟩ := List.mem_map.1 hx
        exact k1 y hy e)
      have e2 : (L2.map (·.k)).filter (fun x => decide (x ≠ t.k)) = L2.map (·.k) := filter_ne_self (fun hx => by
        obtain ⟨y, hy, e⟩ := List.mem_map.1 hx
        exact k2 y hy e)
      have e3 : (L1 ++ t :: L2).map (·.k) = L1.map (·.k) ++ t.k :: L2.map (·.k) := by simp
      have e4 : (t.k :: L2.map (·.k)).filter (fun x => decide (x ≠ t.k)) = L2.map (·.k) := by rw [List.filter_cons_of_neg (by simp), e2]
      rw [e3, List.filter_append, e1, e4]
      simp
  | none =>
    have hn : k ∉ L.map (·.k) := fun hx => by
      obtain ⟨y, hy, e2⟩ := List.mem_map.1 hx
      exact Ib.fnd_none.1 e y hy e2
    have hlen : L.length ≤ M := by
      obtain ⟨m, l, n, D, h⟩ := h
      exact h.len
    have hM : 1 ≤ M := by
      obtain ⟨m, l, n, D, h⟩ := h
      exact h.m1
    by_cases hlt : L.length < M
    · refine (Ib.Put_room W N c M Z L k true false h hk e hlt hZ hN).mono ?_
      rintro e1 w1 ⟨rfl, ⟨L', a1, b, rfl⟩, f1⟩
      refine ⟨⟨_, rfl⟩, ⟨_, a1, fun x hx => ?_, ?_⟩, f1⟩
      · rcases List.mem_append.1 hx with hx | hx
        · exact hp x hx
        · simp at hx; subst hx; rfl
      · unfold stepK
        rw [if_neg hn, if_pos (by simpa using hlt)]
        simp
    · cases L with
      | nil => simp at hlt; omega
      | cons t L2 =>
        refine (Ib.Put_goes W N c M Z [] L2 t k true false h hk e (by simp at hlt hlen ⊢; omega) (by simp) (hp t (by simp)) hZ hN).mono ?_
        rintro e1 w1 ⟨rfl, ⟨L', a1, b, rfl⟩, f1⟩
        refine ⟨⟨_, rfl⟩, ⟨_, a1, fun x hx => ?_, ?_⟩, f1⟩
        · rcases List.mem_append.1 hx with hx | hx
          · exact hp x (by simp at hx; simp [hx])
          · simp at hx; subst hx; rfl
        · unfold stepK
          rw [if_neg hn, if_neg (by simpa using hlt)]
          simp
end Go.Proofs.Ytmhlfbgchhmffaa
