/-
  DERIVED. Bytes as a string; a list that holds one number.
-/
import Derived.Test.YtbgaomfoiooegaaDopen
namespace Go.Proofs.Ytbgaomfoiooegaa
open Go.RowKit
set_option linter.unusedVariables false

theorem Sl.str {w : World} {v : Value} {l : List UInt8} (h : Sl w v l) : (convert 22 9 v).run Try.prog w = .ok (.string ⟨l.toArray⟩) w := by
  rcases h.cases with ⟨rfl, ao, rfl⟩ | ⟨b, off, cap, rfl, h1, h2, hb, hc⟩
  · cases ao with
    | none => exact run_convert_bytes_nil w 22 5 Try.underlying22 Try.underlying5 0 0 9 Try.underlying9
    | some a => exact run_convert_bytes_back w 22 9 5 a 0 [] Try.underlying22 Try.underlying5 Try.underlying9 (fun j hj => by simp at hj)
  · exact run_convert_bytes_back w 22 9 5 ⟨b, off, none⟩ cap l Try.underlying22 Try.underlying5 Try.underlying9 (fun j hj => by rw [addr_add]; exact hc j hj)

theorem one_of {l : List Nat} {k : Nat} (hr : l.Pairwise (· < ·)) (hm : ∀ x, x ∈ l ↔ x = k) : l = [k] := by
  cases l with
  | nil => exact absurd ((hm k).2 rfl) (by simp)
  | cons a r =>
    obtain rfl : a = k := (hm a).1 (by simp)
    obtain ⟨h1, _⟩ := List.pairwise_cons.1 hr
    have hr : r = [] := List.eq_nil_iff_forall_not_mem.2 fun x hx => by
      have := h1 x hx
      have e := (hm x).1 (by simp [hx])
      omega
    rw [hr]
theorem none_of {l : List Nat} (hm : ∀ x, ¬ x ∈ l) : l = [] := List.eq_nil_iff_forall_not_mem.2 hm

/-- Where one block alone has writes. -/
theorem keys_one {S : St} {k : Nat} (hk : k < S.safe.length) (h1 : S.pend k ≠ []) (h2 : ∀ j, j ≠ k → S.pend j = []) : S.keys = [k] :=
  one_of (pk_rising _ _) fun x => by
    unfold St.keys
    rw [mem_pk]
    constructor
    · rintro ⟨_, h⟩
      by_cases e : x = k
      · exact e
      · exact absurd (h2 x e) h
    · rintro rfl
      exact ⟨hk, h1⟩
theorem keys_none {S : St} (h2 : ∀ j, S.pend j = []) : S.keys = [] :=
  none_of fun x hx => (mem_pk.1 hx).2 (h2 x)

theorem crash_none {S : St} (h2 : ∀ j, S.pend j = []) (ps : List Int) : (S.crash ps).safe = S.safe := by
  unfold St.crash
  rw [keys_none h2]
  rfl
theorem crash_one {S : St} {k : Nat} (hk : k < S.safe.length) (h1 : S.pend k ≠ []) (h2 : ∀ j, j ≠ k → S.pend j = []) (ps : List Int) : (S.crash ps).safe = S.safe.set k (S.keptB k (pickAt ps 0)) := by
  have e := keys_one hk h1 h2
  unfold St.crash
  simp only [e, List.length_singleton]
  show St.crashTo S ps (0 + 1) = _
  rw [St.crashTo, e]
  rfl
theorem St.newest_crash (S : St) (ps : List Int) (k : Nat) : (S.crash ps).newest k = ((S.crash ps).safe[k]?).getD [] := rfl
end Go.Proofs.Ytbgaomfoiooegaa
