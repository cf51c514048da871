/-
  DERIVED. The document's PutBatch: what it refuses by its form.
-/
import Derived.Test.YtkikfdbjfhgfoaaRefCheck
import Derived.Test.YtkikfdbjfhgfoaaText
import Derived.Test.YtkikfdbjfhgfoaaBat2
import Derived.Deep.Cut
import Derived.Deep.CutRange
namespace Go.Proofs.Ytkikfdbjfhgfoaa
open Go.RowKit
set_option linter.unusedVariables false

theorem ext_below {w w' : World} (h : Below w.heap.size w w') (v : Value) : Ext w w' v v := ⟨⟨h.os, h.tape, h.output, h.size, fun k hk _ => h.block k hk⟩, .inl rfl⟩
theorem Ext.own {w w' : World} {v : Value} {base : Nat} {l : List UInt8} (h : Below w.heap.size w w') (ho : Own w base v l) : Own w' base v l := ho.below h (Nat.le_refl _)
/-- A call whose answer is bytes of its own, some. -/
theorem bytes_some {f : FuncId} {args : Array Value} {w : World} {L : List UInt8} (hL : 1 ≤ L.length)
    (h : Calls Try.prog f args w fun e w' => ∃ v', e = .returned v' ∧ Own w' w.heap.size v' L ∧ Below w.heap.size w w') :
    Calls Try.prog f args w fun e w' => ∃ g n cap, e = .returned (.slice (some ⟨g, 0, none⟩) n cap) ∧ Own w' w.heap.size (.slice (some ⟨g, 0, none⟩) n cap) L ∧ Below w.heap.size w w' := by
  refine h.mono ?_
  rintro e w' ⟨v', rfl, h1, h2⟩
  have h1' := h1
  rcases h1.2 with ⟨rfl, hz⟩ | ⟨g, cap, cur, rfl, _⟩
  · omega
  · exact ⟨_, _, _, rfl, h1', h2⟩
theorem layT_pos (s : List UInt8) : 1 ≤ (layT s).length := by have := (lay_len s.length).1; simp [layT]; omega
theorem rPutText_b (s : List UInt8) (w : World) (hl : s.length ≤ 1000000) : Calls Try.prog 24 #[sv s] w fun e w' => ∃ g n cap, e = .returned (.slice (some ⟨g, 0, none⟩) n cap) ∧ Own w' w.heap.size (.slice (some ⟨g, 0, none⟩) n cap) (layT s) ∧ Below w.heap.size w w' := bytes_some (layT_pos s) (rPutText_any s w (by omega))
theorem rPutInt_b (n : Int) (w : World) (hn0 : -9223372036854775808 ≤ n) (hn1 : n ≤ 9223372036854775807) : Calls Try.prog 27 #[.int .i64 n] w fun e w' => ∃ g m cap, e = .returned (.slice (some ⟨g, 0, none⟩) m cap) ∧ Own w' w.heap.size (.slice (some ⟨g, 0, none⟩) m cap) (lay (zig n)) ∧ Below w.heap.size w w' := bytes_some (lay_len (zig n)).1 (rPutInt_any n w hn0 hn1)
theorem rPutUint_b (x : Int) (n : Nat) (w : World) (hn : n ≤ 18446744073709551615) (hx : x = n) : Calls Try.prog 25 #[.int .u64 x] w fun e w' => ∃ g m cap, e = .returned (.slice (some ⟨g, 0, none⟩) m cap) ∧ Own w' w.heap.size (.slice (some ⟨g, 0, none⟩) m cap) (lay n) ∧ Below w.heap.size w w' := bytes_some (lay_len n).1 (rPutUint_at x n w hn hx)

set_option maxHeartbeats 4000000 in
theorem rPutBatch_form (s k : List UInt8) (fi : Int) (a : Option Addr) (n c : Nat) (es : List Evn) (w : World) (hs : s.length ≤ 9223372036854775807) (hv : EvL w (.slice a n c) es) (hbad : ¬ okBatch ⟨s, k, fi, es⟩) :
    Calls Try.prog 8 #[.agg (bt s k fi a n c)] w fun e w' => e = .returned (.tuple #[.slice none 0 0, .int .i64 11]) ∧ Below w.heap.size w w' := by
  obtain rfl : n = es.length := by obtain ⟨_, _, e, _⟩ := hv; cases e; rfl
  have HB := hide ((Below.refl w.heap.size w).alloc (Nat.le_refl _) (.cells (bt s k fi a es.length c) 25))
  rcases bat_cases hbad with hn | ⟨hn, h2⟩ | ⟨hn, h2, h3⟩ | ⟨hn, h2, h3, h4⟩ | ⟨hn, h2, h3, h4, h5⟩ | ⟨hn, h2, h3, h4, h5⟩
  · have HN := hide (ans_false hn)
    clear hbad hn hv
    go_enter Try.func8, Try.ntmps8
    go_wp2_with (go_at_call 23; refine (named_any s _ hs).mono ?_; rintro e w' ⟨rfl, rfl⟩; rw [unhide HN])
    go_ret2
    exact ⟨rfl, unhide HB⟩
  all_goals
    have HN := hide (ans_true hn)
    first | subst h5 | (have hN0 : decide ((es.length : Int) < 1) = false := decide_eq_false (by clear HN HB hn hbad hv; omega)) | skip
    clear hbad hn hv HB
    go_enter Try.func8, Try.ntmps8
    go_wp2_with (go_at_call 23; refine (named_any s _ hs).mono ?_; rintro e w' ⟨rfl, rfl⟩; rw [unhide HN])
    go_ret2
    exact ⟨rfl, (Below.refl _ _).alloc (Nat.le_refl _) _⟩

end Go.Proofs.Ytkikfdbjfhgfoaa
