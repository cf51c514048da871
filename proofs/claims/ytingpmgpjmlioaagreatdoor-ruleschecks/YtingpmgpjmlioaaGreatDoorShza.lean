/-
  DERIVED. The names of the map, sorted; the walk of Read.
-/
import Derived.Test.YtingpmgpjmlioaaGreatDoorShi
namespace Go.Proofs.YtingpmgpjmlioaaGreatDoor
open Go.RowKit Go.Maps Go.Sort Go.Shelf
set_option linter.unusedVariables false

theorem le_lt {a b : List UInt8} (h : a ≤ b) (hne : a ≠ b) : a < b := (List.le_iff_lt_or_eq.1 h).resolve_right hne

def Once (S : List Fld) : Prop := S.Pairwise (fun a b => a.name ≠ b.name)
theorem Once.snoc {S : List Fld} {f : Fld} (h : Once S) (hf : S.any (fun g => g.name == f.name) = false) : Once (S ++ [f]) := by
  refine List.pairwise_append.2 ⟨h, List.pairwise_singleton _ _, ?_⟩
  intro a ha b hb
  rw [List.mem_singleton.1 hb]
  have := List.any_eq_false.1 hf a ha
  simpa using this
theorem readStep_once {S S' : List Fld} {p : List UInt8} (h : readStep S p = .ok S') (ho : Once S) : Once S' := by
  unfold readStep at h
  split at h
  · cases h
  · split at h
    · cases h
    · split at h
      · cases h
      · rename_i hn; cases h; exact ho.snoc (by simpa using hn)
theorem foldParts_once : ∀ (ps : List (List UInt8)) {S S' : List Fld}, foldParts S ps = .ok S' → Once S → Once S'
  | [], S, S', h, ho => by cases h; exact ho
  | p :: ps, S, S', h, ho => by
    rw [foldParts] at h
    split at h
    · cases h
    · rename_i S2 hr; exact foldParts_once ps h (readStep_once hr ho)
theorem foldParts_len : ∀ (ps : List (List UInt8)) {S S' : List Fld}, foldParts S ps = .ok S' → S.length ≤ 16 → S'.length ≤ 16
  | [], S, S', h, ho => by cases h; exact ho
  | p :: ps, S, S', h, ho => by
    rw [foldParts] at h
    split at h
    · cases h
    · rename_i S2 hr; exact foldParts_len ps h (readStep_len hr ho)
theorem readAll_once {t : List UInt8} {S : List Fld} (h : readAll t = .ok S) : Once S ∧ S.length ≤ 16 := by
  unfold readAll at h
  split at h
  · cases h; exact ⟨List.Pairwise.nil, by simp⟩
  · exact ⟨foldParts_once _ h List.Pairwise.nil, foldParts_len _ h (by simp)⟩

theorem getF_once {S : List Fld} (ho : Once S) {f : Fld} (hf : f ∈ S) : getF S f.name = some f := by
  unfold getF
  induction S with
  | nil => cases hf
  | cons a r ih =>
    obtain ⟨h1, h2⟩ := List.pairwise_cons.1 ho
    rcases List.mem_cons.1 hf with rfl | hf
    · simp
    · rw [List.find?_cons_of_neg (by simpa using h1 f hf)]
      exact ih h2 hf

theorem isRec_of {S : List Fld} {T : List (List UInt8)} (ho : Once S) (hT : T.Pairwise (· < ·)) (hm : ∀ k, k ∈ T ↔ ∃ f ∈ S, f.name = k) : IsRec S (T.map (fun k => (getF S k).getD fld0)) := by
  have nm : ∀ k ∈ T, ((getF S k).getD fld0).name = k ∧ (getF S k).getD fld0 ∈ S := by
    intro k hk
    obtain ⟨f, hf, rfl⟩ := (hm k).1 hk
    rw [getF_once ho hf]
    exact ⟨rfl, hf⟩
  refine ⟨?_, ?_⟩
  · unfold Rising
    rw [List.pairwise_map]
    exact hT.imp_of_mem (fun {a b} ha hb h => by rw [(nm a ha).1, (nm b hb).1]; exact h)
  · intro f
    rw [List.mem_map]
    constructor
    · rintro ⟨k, hk, rfl⟩; exact (nm k hk).2
    · intro hf
      exact ⟨f.name, (hm _).2 ⟨f, hf, rfl⟩, by rw [getF_once ho hf]; rfl⟩
end Go.Proofs.YtingpmgpjmlioaaGreatDoor

namespace Go.Proofs.YtingpmgpjmlioaaGreatDoor
open Go.RowKit Go.Maps Go.Sort Go.Shelf
set_option linter.unusedVariables false

/-- What Read reads. -/
def RdPost (w : World) (r : Except Int (List Fld)) (e : Ending) (w' : World) : Prop :=
  match r with
  | .error n => e = .returned (.tuple #[.slice none 0 0, .int .i64 n]) ∧ Below w.heap.size w w'
  | .ok S => ∃ (v : Value) (R : List Fld), e = .returned (.tuple #[v, .int .i64 0]) ∧ FOwn w' w.heap.size v R ∧ IsRec S R ∧ R.length ≤ 1000 ∧ Below w.heap.size w w'

theorem readAll_err {t : List UInt8} {n : Int} (h : readAll t = .error n) : n ≠ 0 := by
  unfold readAll at h
  split at h
  · cases h
  · have : ∀ (ps : List (List UInt8)) (S : List Fld), foldParts S ps = .error n → n ≠ 0 := by
      intro ps
      induction ps with
      | nil => intro S h; cases h
      | cons p ps ih =>
        intro S h
        rw [foldParts] at h
        split at h
        · rename_i e he; cases h; exact readStep_err he
        · exact ih _ h
    exact this _ _ h

theorem SOwn.slice {w : World} {base : Nat} {v : Value} {T : List (List UInt8)} (h : SOwn w base v T) : ∃ a c, v = .slice a T.length c ∧ T.length ≤ c ∧ (T.length ≠ 0 → ∃ g, a = some ⟨g, 0, none⟩ ∧ ∀ i x, T[i]? = some x → w.cell? ⟨g, i, none⟩ = some (sv x)) := by
  rcases h.2 with ⟨rfl, h0⟩ | ⟨g, cap, cur, rfl, hb, hg, hn, hm, hs, ht⟩
  · exact ⟨none, 0, by rw [h0], by omega, fun hz => absurd h0 hz⟩
  · refine ⟨_, cap, rfl, hn, fun _ => ⟨g, rfl, fun i x hx => ?_⟩⟩
    have hil := (List.getElem?_eq_some_iff.1 hx).1
    have e : (cur.toList.take (T.length * 1))[i]? = (T.map sv)[i]? := by rw [ht]
    rw [List.getElem?_take_of_lt (by omega), List.getElem?_map, hx] at e
    simp only [World.cell?, hg]
    simpa using e
theorem SOwn.frame {w w' : World} {base : Nat} {v : Value} {T : List (List UInt8)} (h : SOwn w base v T) (hk : ∀ (p : Nat) (cur : Array Value) (t : TypeId) (fr : Nat × Nat), w.heap[p]? = some (.cells cur t fr) → t ≠ 48 → w'.heap[p]? = w.heap[p]?) : SOwn w' base v T := by
  obtain ⟨h1, h2⟩ := h
  refine ⟨h1, ?_⟩
  rcases h2 with h | ⟨g, cap, cur, a, b, c, r⟩
  · exact .inl h
  · exact .inr ⟨g, cap, cur, a, b, (hk g _ _ _ c (by decide)).trans c, r⟩
theorem readStep_names {S S' : List Fld} {p : List UInt8} (h : readStep S p = .ok S') (hS : ∀ f ∈ S, nameB f.name = true) : ∀ f ∈ S', nameB f.name = true := by
  unfold readStep at h
  split at h
  · cases h
  · split at h
    · cases h
    · rename_i g hg
      split at h
      · cases h
      · cases h
        intro f hf
        rcases List.mem_append.1 hf with hf | hf
        · exact hS f hf
        · rw [List.mem_singleton.1 hf]; exact readP_name hg
theorem foldParts_names : ∀ (ps : List (List UInt8)) {S S' : List Fld}, foldParts S ps = .ok S' → (∀ f ∈ S, nameB f.name = true) → ∀ f ∈ S', nameB f.name = true
  | [], S, S', h, ho => by cases h; exact ho
  | p :: ps, S, S', h, ho => by
    rw [foldParts] at h
    split at h
    · cases h
    · rename_i S2 hr; exact foldParts_names ps h (readStep_names hr ho)
theorem readAll_nameB {t : List UInt8} {S : List Fld} (h : readAll t = .ok S) : ∀ f ∈ S, nameB f.name = true := by
  unfold readAll at h
  split at h
  · cases h; intro f hf; cases hf
  · exact foldParts_names _ h (fun f hf => by cases hf)
theorem readAll_names {t : List UInt8} {S : List Fld} (h : readAll t = .ok S) : ∀ f ∈ S, f.name.length ≤ maxLen := fun f hf => by
  have := (nameB_len (readAll_nameB h f hf)).2
  unfold maxLen; omega
theorem FOwn.mono {w : World} {base b2 : Nat} {v : Value} {l : List Fld} (h : FOwn w base v l) (hb : b2 ≤ base) : FOwn w b2 v l := by
  obtain ⟨h1, h2⟩ := h
  refine ⟨h1, ?_⟩
  rcases h2 with h | ⟨g, cap, cur, a, b, c⟩
  · exact .inl h
  · exact .inr ⟨g, cap, cur, a, by omega, c⟩

end Go.Proofs.YtingpmgpjmlioaaGreatDoor
