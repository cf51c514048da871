/-
  DERIVED. The walks of part.
-/
import Derived.Test.YtgpijeaehkabdaaXlaw
namespace Go.Proofs.Ytgpijeaehkabdaa
open Go.RowKit Go.Maps
set_option linter.unusedVariables false

/-- What part answers: so many, and where they lie. -/
def PartEPost (w : World) (a : Option Addr) (n fr mo : Nat) (e : Ending) (w' : World) : Prop :=
  ∃ a' c', e = .returned (.tuple #[.slice a' (min mo (n - fr)) c', .int .i64 0]) ∧ (min mo (n - fr) ≠ 0 → ∀ q, a = some ⟨q, 0, none⟩ → a' = some ⟨q, fr * 6, none⟩) ∧ min mo (n - fr) ≤ c' ∧ w' = w

set_option maxRecDepth 20000 in
set_option maxHeartbeats 4000000 in
theorem PartE_in (w : World) (q n c fr mo : Nat) (hnc : n ≤ c) (hc : c ≤ 9223372036854775807) (hfr : fr < n) (hmo : mo ≤ 9223372036854775807) :
    Calls Try.prog 28 #[.slice (some ⟨q, 0, none⟩) n c, .int .i64 (fr : Int), .int .i64 (mo : Int)] w (PartEPost w (some ⟨q, 0, none⟩) n fr mo) := by
  have h1 : decide ((fr : Int) < 0) = false := decide_eq_false (by omega)
  have h2 : decide ((mo : Int) < 0) = false := decide_eq_false (by omega)
  by_cases hm : n - fr < mo
  · have HP : Hid (PartEPost w (some ⟨q, 0, none⟩) n fr mo (.returned (.tuple #[.slice (some ⟨q, fr * 6, none⟩) (n - fr) (c - fr), .int .i64 0])) w) := hide ⟨_, c - fr, by rw [Nat.min_eq_right (by omega)], fun _ z hz => by cases hz; rfl, by omega, rfl⟩
    go_enter Try.func28, Try.ntmps28
    go_wp2
    go_ret2
    exact unhide HP
  · have HP : Hid (PartEPost w (some ⟨q, 0, none⟩) n fr mo (.returned (.tuple #[.slice (some ⟨q, fr * 6, none⟩) mo (c - fr), .int .i64 0])) w) := hide ⟨_, c - fr, by rw [Nat.min_eq_left (by omega)], fun _ z hz => by cases hz; rfl, by omega, rfl⟩
    go_enter Try.func28, Try.ntmps28
    go_wp2
    go_ret2
    exact unhide HP

set_option maxRecDepth 20000 in
set_option maxHeartbeats 4000000 in
theorem PartE_out (w : World) (q n c fr mo : Nat) (hnc : n ≤ c) (hc : c ≤ 9223372036854775807) (hfr : n ≤ fr) (hf : fr ≤ 9223372036854775807) (hmo : mo ≤ 9223372036854775807) :
    Calls Try.prog 28 #[.slice (some ⟨q, 0, none⟩) n c, .int .i64 (fr : Int), .int .i64 (mo : Int)] w (PartEPost w (some ⟨q, 0, none⟩) n fr mo) := by
  have h1 : decide ((fr : Int) < 0) = false := decide_eq_false (by omega)
  have h2 : decide ((mo : Int) < 0) = false := decide_eq_false (by omega)
  have HP : Hid (∀ a' c', PartEPost w (some ⟨q, 0, none⟩) n fr mo (.returned (.tuple #[.slice a' 0 c', .int .i64 0])) w) := hide (fun a' c' => ⟨a', c', by rw [show min mo (n - fr) = 0 by omega], fun h => absurd (show min mo (n - fr) = 0 by omega) h, by omega, rfl⟩)
  have hmin : min (fr : Int) (n : Int) = (n : Int) := Int.min_eq_right (by omega)
  have hm0 : min (mo : Int) 0 = 0 := Int.min_eq_right (by omega)
  by_cases hz : mo = 0
  · subst hz
    by_cases hcn : c = n
    · subst hcn
      by_cases hfe : fr = c
      · subst hfe
        go_enter Try.func28, Try.ntmps28
        go_wp2
        all_goals go_ret2
        all_goals exact unhide HP _ _
      · have hfl : c < fr := by omega
        go_enter Try.func28, Try.ntmps28
        go_wp2
        all_goals go_ret2
        all_goals exact unhide HP _ _
    · have hlc : n < c := by omega
      clear hcn
      by_cases hfe : fr = n
      · subst hfe
        go_enter Try.func28, Try.ntmps28
        go_wp2
        all_goals go_ret2
        all_goals exact unhide HP _ _
      · have hfl : n < fr := by omega
        go_enter Try.func28, Try.ntmps28
        go_wp2
        all_goals go_ret2
        all_goals exact unhide HP _ _
  · have hz' : 0 < mo := by omega
    clear hz
    by_cases hcn : c = n
    · subst hcn
      by_cases hfe : fr = c
      · subst hfe
        go_enter Try.func28, Try.ntmps28
        go_wp2
        all_goals go_ret2
        all_goals exact unhide HP _ _
      · have hfl : c < fr := by omega
        go_enter Try.func28, Try.ntmps28
        go_wp2
        all_goals go_ret2
        all_goals exact unhide HP _ _
    · have hlc : n < c := by omega
      clear hcn
      by_cases hfe : fr = n
      · subst hfe
        go_enter Try.func28, Try.ntmps28
        go_wp2
        all_goals go_ret2
        all_goals exact unhide HP _ _
      · have hfl : n < fr := by omega
        go_enter Try.func28, Try.ntmps28
        go_wp2
        all_goals go_ret2
        all_goals exact unhide HP _ _

set_option maxRecDepth 20000 in
set_option maxHeartbeats 4000000 in
theorem PartE_nil (w : World) (fr mo : Nat) (hf : fr ≤ 9223372036854775807) (hmo : mo ≤ 9223372036854775807) :
    Calls Try.prog 28 #[.slice none 0 0, .int .i64 (fr : Int), .int .i64 (mo : Int)] w (PartEPost w none 0 fr mo) := by
  have h1 : decide ((fr : Int) < 0) = false := decide_eq_false (by omega)
  have h2 : decide ((mo : Int) < 0) = false := decide_eq_false (by omega)
  have HP : Hid (PartEPost w none 0 fr mo (.returned (.tuple #[.slice none 0 0, .int .i64 0])) w) := hide ⟨none, 0, by rw [show min mo (0 - fr) = 0 by omega], fun h => absurd (show min mo (0 - fr) = 0 by omega) h, by omega, rfl⟩
  by_cases hz : mo = 0
  · subst hz
    by_cases hf0 : fr = 0
    · subst hf0
      go_enter Try.func28, Try.ntmps28
      go_wp2
      all_goals go_ret2
      all_goals exact unhide HP
    · have hf1 : 0 < fr := by omega
      go_enter Try.func28, Try.ntmps28
      go_wp2
      all_goals go_ret2
      all_goals exact unhide HP
  · have hz' : 0 < mo := by omega
    clear hz
    by_cases hf0 : fr = 0
    · subst hf0
      go_enter Try.func28, Try.ntmps28
      go_wp2
      all_goals go_ret2
      all_goals exact unhide HP
    · have hf1 : 0 < fr := by omega
      go_enter Try.func28, Try.ntmps28
      go_wp2
      all_goals go_ret2
      all_goals exact unhide HP

/-- What part answers: so many, and where they lie. -/
def PartIPost (w : World) (a : Option Addr) (n fr mo : Nat) (e : Ending) (w' : World) : Prop :=
  ∃ a' c', e = .returned (.tuple #[.slice a' (min mo (n - fr)) c', .int .i64 0]) ∧ (min mo (n - fr) ≠ 0 → ∀ q, a = some ⟨q, 0, none⟩ → a' = some ⟨q, fr, none⟩) ∧ min mo (n - fr) ≤ c' ∧ w' = w

set_option maxRecDepth 20000 in
set_option maxHeartbeats 4000000 in
theorem PartI_in (w : World) (q n c fr mo : Nat) (hnc : n ≤ c) (hc : c ≤ 9223372036854775807) (hfr : fr < n) (hmo : mo ≤ 9223372036854775807) :
    Calls Try.prog 32 #[.slice (some ⟨q, 0, none⟩) n c, .int .i64 (fr : Int), .int .i64 (mo : Int)] w (PartIPost w (some ⟨q, 0, none⟩) n fr mo) := by
  have h1 : decide ((fr : Int) < 0) = false := decide_eq_false (by omega)
  have h2 : decide ((mo : Int) < 0) = false := decide_eq_false (by omega)
  by_cases hm : n - fr < mo
  · have HP : Hid (PartIPost w (some ⟨q, 0, none⟩) n fr mo (.returned (.tuple #[.slice (some ⟨q, fr, none⟩) (n - fr) (c - fr), .int .i64 0])) w) := hide ⟨_, c - fr, by rw [Nat.min_eq_right (by omega)], fun _ z hz => by cases hz; rfl, by omega, rfl⟩
    go_enter Try.func32, Try.ntmps32
    go_wp2
    go_ret2
    exact unhide HP
  · have HP : Hid (PartIPost w (some ⟨q, 0, none⟩) n fr mo (.returned (.tuple #[.slice (some ⟨q, fr, none⟩) mo (c - fr), .int .i64 0])) w) := hide ⟨_, c - fr, by rw [Nat.min_eq_left (by omega)], fun _ z hz => by cases hz; rfl, by omega, rfl⟩
    go_enter Try.func32, Try.ntmps32
    go_wp2
    go_ret2
    exact unhide HP

set_option maxRecDepth 20000 in
set_option maxHeartbeats 4000000 in
theorem PartI_out (w : World) (q n c fr mo : Nat) (hnc : n ≤ c) (hc : c ≤ 9223372036854775807) (hfr : n ≤ fr) (hf : fr ≤ 9223372036854775807) (hmo : mo ≤ 9223372036854775807) :
    Calls Try.prog 32 #[.slice (some ⟨q, 0, none⟩) n c, .int .i64 (fr : Int), .int .i64 (mo : Int)] w (PartIPost w (some ⟨q, 0, none⟩) n fr mo) := by
  have h1 : decide ((fr : Int) < 0) = false := decide_eq_false (by omega)
  have h2 : decide ((mo : Int) < 0) = false := decide_eq_false (by omega)
  have HP : Hid (∀ a' c', PartIPost w (some ⟨q, 0, none⟩) n fr mo (.returned (.tuple #[.slice a' 0 c', .int .i64 0])) w) := hide (fun a' c' => ⟨a', c', by rw [show min mo (n - fr) = 0 by omega], fun h => absurd (show min mo (n - fr) = 0 by omega) h, by omega, rfl⟩)
  have hmin : min (fr : Int) (n : Int) = (n : Int) := Int.min_eq_right (by omega)
  have hm0 : min (mo : Int) 0 = 0 := Int.min_eq_right (by omega)
  by_cases hz : mo = 0
  · subst hz
    by_cases hcn : c = n
    · subst hcn
      by_cases hfe : fr = c
      · subst hfe
        go_enter Try.func32, Try.ntmps32
        go_wp2
        all_goals go_ret2
        all_goals exact unhide HP _ _
      · have hfl : c < fr := by omega
        go_enter Try.func32, Try.ntmps32
        go_wp2
        all_goals go_ret2
        all_goals exact unhide HP _ _
    · have hlc : n < c := by omega
      clear hcn
      by_cases hfe : fr = n
      · subst hfe
        go_enter Try.func32, Try.ntmps32
        go_wp2
        all_goals go_ret2
        all_goals exact unhide HP _ _
      · have hfl : n < fr := by omega
        go_enter Try.func32, Try.ntmps32
        go_wp2
        all_goals go_ret2
        all_goals exact unhide HP _ _
  · have hz' : 0 < mo := by omega
    clear hz
    by_cases hcn : c = n
    · subst hcn
      by_cases hfe : fr = c
      · subst hfe
        go_enter Try.func32, Try.ntmps32
        go_wp2
        all_goals go_ret2
        all_goals exact unhide HP _ _
      · have hfl : c < fr := by omega
        go_enter Try.func32, Try.ntmps32
        go_wp2
        all_goals go_ret2
        all_goals exact unhide HP _ _
    · have hlc : n < c := by omega
      clear hcn
      by_cases hfe : fr = n
      · subst hfe
        go_enter Try.func32, Try.ntmps32
        go_wp2
        all_goals go_ret2
        all_goals exact unhide HP _ _
      · have hfl : n < fr := by omega
        go_enter Try.func32, Try.ntmps32
        go_wp2
        all_goals go_ret2
        all_goals exact unhide HP _ _

set_option maxRecDepth 20000 in
set_option maxHeartbeats 4000000 in
theorem PartI_nil (w : World) (fr mo : Nat) (hf : fr ≤ 9223372036854775807) (hmo : mo ≤ 9223372036854775807) :
    Calls Try.prog 32 #[.slice none 0 0, .int .i64 (fr : Int), .int .i64 (mo : Int)] w (PartIPost w none 0 fr mo) := by
  have h1 : decide ((fr : Int) < 0) = false := decide_eq_false (by omega)
  have h2 : decide ((mo : Int) < 0) = false := decide_eq_false (by omega)
  have HP : Hid (PartIPost w none 0 fr mo (.returned (.tuple #[.slice none 0 0, .int .i64 0])) w) := hide ⟨none, 0, by rw [show min mo (0 - fr) = 0 by omega], fun h => absurd (show min mo (0 - fr) = 0 by omega) h, by omega, rfl⟩
  by_cases hz : mo = 0
  · subst hz
    by_cases hf0 : fr = 0
    · subst hf0
      go_enter Try.func32, Try.ntmps32
      go_wp2
      all_goals go_ret2
      all_goals exact unhide HP
    · have hf1 : 0 < fr := by omega
      go_enter Try.func32, Try.ntmps32
      go_wp2
      all_goals go_ret2
      all_goals exact unhide HP
  · have hz' : 0 < mo := by omega
    clear hz
    by_cases hf0 : fr = 0
    · subst hf0
      go_enter Try.func32, Try.ntmps32
      go_wp2
      all_goals go_ret2
      all_goals exact unhide HP
    · have hf1 : 0 < fr := by omega
      go_enter Try.func32, Try.ntmps32
      go_wp2
      all_goals go_ret2
      all_goals exact unhide HP
end Go.Proofs.Ytgpijeaehkabdaa
