/-
  DERIVED. SameRuns; Pick; bytes as a string.
-/
import Derived.Test.YtikoegmpbjeadabImem
namespace Go.Proofs.Ytikoegmpbjeadab
open Go.RowKit
set_option linter.unusedVariables false

abbrev I64 (x : Int) : Prop := -9223372036854775808 ≤ x ∧ x ≤ 9223372036854775807

theorem Sl.str {w : World} {v : Value} {l : List UInt8} (h : Sl w v l) : (convert 38 9 v).run Try.prog w = .ok (.string ⟨l.toArray⟩) w := by
  rcases h.cases with ⟨rfl, ao, rfl⟩ | ⟨b, off, cap, rfl, h1, h2, hb, hc⟩
  · cases ao with
    | none => exact run_convert_bytes_nil w 38 5 Try.underlying38 Try.underlying5 0 0 9 Try.underlying9
    | some a => exact run_convert_bytes_back w 38 9 5 a 0 [] Try.underlying38 Try.underlying5 Try.underlying9 (fun j hj => by simp at hj)
  · exact run_convert_bytes_back w 38 9 5 ⟨b, off, none⟩ cap l Try.underlying38 Try.underlying5 Try.underlying9 (fun j hj => by rw [addr_add]; exact hc j hj)

theorem Pick_any (c n : Int) (w : World) (h0 : -9223372036854775808 ≤ c) (h1 : c ≤ 9223372036854775807) (hn : 0 < n) (hn2 : n ≤ 9223372036854775807) :
    Calls Try.prog 7 #[.int .i64 c, .int .i64 n] w fun e w' => ∃ k : Nat, e = .returned (.int .i64 k) ∧ (k : Int) < n ∧ w = w' := by
  by_cases hc : c < 0
  · go_enter Try.func7, Try.ntmps7
    go_wp2
    go_ret
    have h2 := Int.emod_nonneg (-(c + 1)) (show n ≠ 0 by omega)
    have h3 := Int.emod_lt_of_pos (-(c + 1)) hn
    have e : -(c + 1).tmod n = -(c + 1) % n := by rw [← Int.neg_tmod, Int.tmod_eq_emod_of_nonneg (by omega)]
    exact ⟨(-(c + 1) % n).toNat, by rw [Int.toNat_of_nonneg h2, ← e]; rfl, by omega, rfl⟩
  · go_enter Try.func7, Try.ntmps7
    go_wp2
    go_ret
    have h2 := Int.emod_nonneg c (show n ≠ 0 by omega)
    have h3 := Int.emod_lt_of_pos c hn
    exact ⟨(c % n).toNat, by rw [Int.toNat_of_nonneg h2]; rfl, by omega, rfl⟩

theorem take_eq_step {α : Type} (l m : List α) (k : Nat) (h1 : k < l.length) (h2 : k < m.length) (h : l.take k = m.take k) (e : l[k] = m[k]) : l.take (k + 1) = m.take (k + 1) := by
  rw [List.take_succ_eq_append_getElem h1, List.take_succ_eq_append_getElem h2, h, e]

end Go.Proofs.Ytikoegmpbjeadab
