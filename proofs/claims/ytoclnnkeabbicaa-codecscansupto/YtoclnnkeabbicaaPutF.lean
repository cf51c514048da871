/-
  DERIVED. PutFrame, its length handed out as a number.
-/
import Derived.Test.YtoclnnkeabbicaaAwake
import Derived.Test.YtoclnnkeabbicaaLent
namespace Go.Proofs.Ytoclnnkeabbicaa
open Go.RowKit

theorem frLay_len (kind : UInt8) (d : List UInt8) (hd : d.length ≤ 2000) : 6 ≤ (frLay kind d).length ∧ (frLay kind d).length ≤ 2015 := by
  have := lay_len d.length
  simp [frLay, le4, frBody]; omega

theorem PutFrame_as (v : Value) (l : List UInt8) (kind : UInt8) (a : Option Addr) (n c : Nat) (d L : List UInt8) (m : Nat) (w : World) (hv : Sl w v l) (hd : Sl w (.slice a n c) d) (hl : d.length ≤ 2000) (hll : l.length + 2100 ≤ 140737488355328) (hL : L = frLay kind d) (hm : m = l.length + L.length) :
    Calls Try.prog 24 #[v, .agg #[bv kind, .slice a n c]] w fun e w' => ∃ g c', e = .returned (.tuple #[.slice (some ⟨g, 0, none⟩) m c', .int .i64 0]) ∧ Own w' w.heap.size (.slice (some ⟨g, 0, none⟩) m c') (l ++ L) ∧ Below w.heap.size w w' := by
  subst hm hL
  refine (PutFrame_ok v l kind a n c d w hv hd hl hll).mono ?_
  rintro e w' ⟨v', rfl, h1, h2⟩
  rw [← List.length_append]
  have h1' := h1
  rcases h1.2 with ⟨rfl, hz⟩ | ⟨g, cap, cur, rfl, _⟩
  · have := (frLay_len kind d hl).1
    rw [List.length_append] at hz
    omega
  · exact ⟨_, _, rfl, h1', h2⟩

theorem Own.slice {w : World} {base : Nat} {v : Value} {L : List UInt8} {n : Nat} (h : Own w base v L) (hn : n = L.length) (hp : 0 < n) : ∃ g c, v = .slice (some ⟨g, 0, none⟩) n c ∧ c ≤ 9223372036854775807 ∧ n ≤ c := by
  subst hn
  rcases h.2 with ⟨rfl, hz⟩ | ⟨g, cap, cur, rfl, _, _, h1, h2, _⟩
  · omega
  · unfold maxLen at h2
    exact ⟨_, _, rfl, by omega, h1⟩
end Go.Proofs.Ytoclnnkeabbicaa
