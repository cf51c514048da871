/-
  DERIVED. The walks of part.
-/
import Derived.Test.YtabcmmhmghgliaaXlaw
namespace Go.Proofs.Ytabcmmhmghgliaa
open Go.RowKit Go.Maps
set_option linter.unusedVariables false

/-- What part answers: so many, and where they lie. -/
def PartEPost (w : World) (a : Option Addr) (n fr mo : Nat) (e : Ending) (w' : World) : Prop :=
  ∃ a' c', e = .returned (.tuple #[.slice a' (min mo (n - fr)) c', .int .i64 0]) ∧ (min mo (n - fr) ≠ 0 → ∀ q, a = some ⟨q, 0, none⟩ → a' = some ⟨q, fr * 6, none⟩) ∧ min mo (n - fr) ≤ c' ∧ w' = w

set_option maxRecDepth 20000 in
set_option maxHeartbeats 4000000 in
theorem PartE_in (w : World) (q n c fr mo : Nat) (hnc : n ≤ c) (hc : c ≤ 9223372036854775807) (hfr : fr < n) (hmo : mo ≤ 9223372036854775807) :
    Calls Try.prog 24 #[.slice (some ⟨q, 0, none⟩) n c, .int .i64 (fr : Int), .int .i64 (mo : Int)] w (PartEPost w (some ⟨q, 0, none⟩) n fr mo) := by
  have h1 : decide ((fr : Int) < 0) = false := decide_eq_false (by omega)
  have h2 : decide ((mo : Int) < 0) = false := decide_eq_false (by omega)
  by_cases hm : n - fr < mo
  · have HP : Hid (PartEPost w (some ⟨q, 0, none⟩) n fr mo (.returned (.tuple #[.slice (some ⟨q, fr * 6, none⟩) (n - fr) (c - fr), .int .i64 0])) w) := hide ⟨_, c - fr, by rw [Nat.min_eq_right (by omega)], fun _ z hz => by cases hz; rfl, by omega, rfl⟩
    go_enter Try.func24, Try.ntmps24
    go_wp2
    go_ret2
    exact unhide HP
  · have HP : Hid (PartEPost w (some ⟨q, 0, none⟩) n fr mo (.returned (.tuple #[.slice (some ⟨q, fr * 6, none⟩) mo (c - fr), .int .i64 0])) w) := hide ⟨_, c - fr, by rw [Nat.min_eq_left (by omega)], fun _ z hz => by cases hz; rfl, by omega, rfl⟩
    go_enter Try.func24, Try.ntmps24
    go_wp2
    go_ret2
    exact unhide HP

set_option maxRecDepth 20000 in
set_option maxHeartbeats 4000000 in
theorem PartE_out (w : World) (q n c fr mo : Nat) (hnc : n ≤ c) (hc : c ≤ 9223372036854775807) (hfr : n ≤ fr) (hf : fr ≤ 9223372036854775807) (hmo : mo ≤ 9223372036854775807) :
    Calls Try.prog 24 #[.slice (some ⟨q, 0, none⟩) n c, .int .i64 (fr : Int), .int .i64 (mo : Int)] w (PartEPost w (some ⟨q, 0, none⟩) n fr mo) := by
  have h1 : decide ((fr : Int) < 0) = false := decide_eq_false (by omega)
  have h2 : decide ((mo : Int) < 0) = false := decide_eq_false (by omega)
  have HP : Hid (∀ a' c', PartEPost w (some ⟨q, 0, none⟩) n fr mo (.returned (.tuple #[.slice a' 0 c', .int .i64 0])) w) := hide (fun a' c' => ⟨a', c', by rw [show min mo (n - fr) = 0 by omega], fun h => absurd (show min mo (n - fr) = 0 by omega) h, by omega, rfl⟩)
  have hmin : min (fr : Int) (n : Int) = (n : Int) := Int.min_eq_right (by omega)
  have hm0 : min (mo : Int) 0 = 0 := Int.min_eq_right (by omega)
  by_cases hz : mo = 0
  · subst hz
    by_cases hcn : c = n
    · subst hcn
      by_cases hfe : fr = c
      · subst hfe
        go_enter Try.func24, Try.ntmps24
        go_wp2
        all_goals go_ret2
        all_goals exact unhide HP _ _
      · have hfl : c < fr := by omega
        go_enter Try.func24, Try.ntmps24
        go_wp2
        all_goals go_ret2
        all_goals exact unhide HP _ _
    · have hlc : n < c := by omega
      clear hcn
      by_cases hfe : fr = n
      · subst hfe
        go_enter Try.func24, Try.ntmps24
        go_wp2
        all_goals go_ret2
        all_goals exact unhide HP _ _
      · have hfl : n < fr := by omega
        go_enter Try.func24, Try.ntmps24
        go_wp2
        all_goals go_ret2
        all_goals exact unhide HP _ _
  · have hz' : 0 < mo := by omega
    clear hz
    by_cases hcn : c = n
    · subst hcn
      by_cases hfe : fr = c
      · subst hfe
        go_enter Try.func24, Try.ntmps24
        go_wp2
        all_goals go_ret2
        all_goals exact unhide HP _ _
      · have hfl : c < fr := by omega
        go_enter Try.func24, Try.ntmps24
        go_wp2
        all_goals go_ret2
        all_goals exact unhide HP _ _
    · have hlc : n < c := by omega
      clear hcn
      by_cases hfe : fr = n
      · subst hfe
        go_enter Try.func24, Try.ntmps24
        go_wp2
        all_goals go_ret2
        all_goals exact unhide HP _ _
      · have hfl : n < fr := by omega
        go_enter Try.func24, Try.ntmps24
        go_wp2
        all_goals go_ret2
        all_goals exact unhide HP _ _

set_option maxRecDepth 20000 in
set_option maxHeartbeats 4000000 in
theorem PartE_nil (w : World) (fr mo : Nat) (hf : fr ≤ 9223372036854775807) (hmo : mo ≤ 9223372036854775807) :
    Calls Try.prog 24 #[.slice none 0 0, .int .i64 (fr : Int), .int .i64 (mo : Int)] w (PartEPost w none 0 fr mo) := by
  have h1 : decide ((fr : Int) < 0) = false := decide_eq_false (by omega)
  have h2 : decide ((mo : Int) < 0) = false := decide_eq_false (by omega)
  have HP : Hid (PartEPost w none 0 fr mo (.returned (.tuple #[.slice none 0 0, .int .i64 0])) w) := hide ⟨none, 0, by rw [show min mo (0 - fr) = 0 by omega], fun h => absurd (show min mo (0 - fr) = 0 by omega) h, by omega, rfl⟩
  by_cases hz : mo = 0
  · subst hz
    by_cases hf0 : fr = 0
    · subst hf0
      go_enter Try.func24, Try.ntmps24
      go_wp2
      all_goals go_ret2
      all_goals exact unhide HP
    · have hf1 : 0 < fr := by omega
      go_enter Try.func24, Try.ntmps24
      go_wp2
      all_goals go_ret2
      all_goals exact unhide HP
  · have hz' : 0 < mo := by omega
    clear hz
    by_cases hf0 : fr = 0
    · subst hf0
      go_enter Try.func24, Try.ntmps24
      go_wp2
      all_goals go_ret2
      all_goals exact unhide HP
    · have hf1 : 0 < fr := by omega
      go_enter Try.func24, Try.ntmps24
      go_wp2
      all_goals go_ret2
      all_goals exact unhide HP

/-- What part answers: so many, and where they lie. -/
def PartIPost (w : World) (a : Option Addr) (n fr mo : Nat) (e : Ending) (w' : World) : Prop :=
  ∃ a' c', e = .returned (.tuple #[.slice a' (min mo (n - fr)) c', .int .i64 0]) ∧ (min mo (n - fr) ≠ 0 → ∀ q, a = some ⟨q, 0, none⟩ → a' = some ⟨q, fr, none⟩) ∧ min mo (n - fr) ≤ c' ∧ w' = w

set_option maxRecDepth 20000 in
set_option maxHeartbeats 4000000 in
theorem PartI_in (w : World) (q n c fr mo : Nat) (hnc : n ≤ c) (hc : c ≤ 9223372036854775807) (hfr : fr < n) (hmo : mo ≤ 9223372036854775807) :
    Calls Try.prog 43 #[.slice (some ⟨q, 0, none⟩) n c, .int .i64 (fr : Int), .int .i64 (mo : Int)] w (PartIPost w (some ⟨q, 0, none⟩) n fr mo) := by
  have h1 : decide ((fr : Int) < 0) = false := decide_eq_false (by omega)
  have h2 : decide ((mo : Int) < 0) = false := decide_eq_false (by omega)
  by_cases hm : n - fr < mo
  · have HP : Hid (PartIPost w (some ⟨q, 0, none⟩) n fr mo (.returned (.tuple #[.slice (some ⟨q, fr, none⟩) (n - fr) (c - fr), .int .i64 0])) w) := hide ⟨_, c - fr, by rw [Nat.min_eq_right (by omega)], fun _ z hz => by cases hz; rfl, by omega, rfl⟩
    go_enter Try.func43, Try.ntmps43
    go_wp2
    go_ret2
    exact unhide HP
  · have HP : Hid (PartIPost w (some ⟨q, 0, none⟩) n fr mo (.returned (.tuple #[.slice (some ⟨q, fr, none⟩) mo (c - fr), .int .i64 0])) w) := hide ⟨_, c - fr, by rw [Nat.min_eq_left (by omega)], fun _ z hz => by cases hz; rfl, by omega, rfl⟩
    go_enter Try.func43, Try.ntmps43
    go_wp2
    go_ret2
    exact unhide HP

set_option maxRecDepth 20000 in
set_option maxHeartbeats 4000000 in
theorem PartI_out (w : World) (q n c fr mo : Nat) (hnc : n ≤ c) (hc : c ≤ 9223372036854775807) (hfr : n ≤ fr) (hf : fr ≤ 9223372036854775807) (hmo : mo ≤ 9223372036854775807) :
    Calls Try.prog 43 #[.slice (some ⟨q, 0, none⟩) n c, .int .i64 (fr : Int), .int .i64 (mo : Int)] w (PartIPost w (some ⟨q, 0, none⟩) n fr mo) := by
  have h1 : decide ((fr : Int) < 0) = false := decide_eq_false (by omega)
  have h2 : decide ((mo : Int) < 0) = false := decide_eq_false (by omega)
  have HP : Hid (∀ a' c', PartIPost w (some ⟨q, 0, none⟩) n fr mo (.returned (.tuple #[.slice a' 0 c', .int .i64 0])) w) := hide (fun a' c' => ⟨a', c', by rw [show min mo (n - fr) = 0 by omega], fun h => absurd (show min mo (n - fr) = 0 by omega) h, by omega, rfl⟩)
  have hmin : min (fr : Int) (n : Int) = (n : Int) := Int.min_eq_right (by omega)
  have hm0 : min (mo : Int) 0 = 0 := Int.min_eq_right (by omega)
  by_cases hz : mo = 0
  · subst hz
    by_cases hcn : c = n
    · subst hcn
      by_cases hfe : fr = c
      · subst hfe
        go_enter Try.func43, Try.ntmps43
        go_wp2
        all_goals go_ret2
        all_goals exact unhide HP _ _
      · have hfl : c < fr := by omega
        go_enter Try.func43, Try.ntmps43
        go_wp2
        all_goals go_ret2
        all_goals exact unhide HP _ _
    · have hlc : n < c := by omega
      clear hcn
      by_cases hfe : fr = n
      · subst hfe
        go_enter Try.func43, Try.ntmps43
        go_wp2
        all_goals go_ret2
        all_goals exact unhide HP _ _
      · have hfl : n < fr := by omega
        go_enter Try.func43, Try.ntmps43
        go_wp2
        all_goals go_ret2
        all_goals exact unhide HP _ _
  · have hz' : 0 < mo := by omega
    clear hz
    by_cases hcn : c = n
    · subst hcn
      by_cases hfe : fr = c
      · subst hfe
        go_enter Try.func43, Try.ntmps43
        go_wp2
        all_goals go_ret2
        all_goals exact unhide HP _ _
      · have hfl : c < fr := by omega
        go_enter Try.func43, Try.ntmps43
        go_wp2
        all_goals go_ret2
        all_goals exact unhide HP _ _
    · have hlc : n < c := by omega
      clear hcn
      by_cases hfe : fr = n
      · subst hfe
        go_enter Try.func43, Try.ntmps43
        go_wp2
        all_goals go_ret2
        all_goals exact unhide HP _ _
      · have hfl : n < fr := by omega
        go_enter Try.func43, Try.ntmps43
        go_wp2
        all_goals go_ret2
        all_goals exact unhide HP _ _

set_option maxRecDepth 20000 in
set_option maxHeartbeats 4000000 in
theorem PartI_nil (w : World) (fr mo : Nat) (hf : fr ≤ 9223372036854775807) (hmo : mo ≤ 9223372036854775807) :
    Calls Try.prog 43 #[.slice none 0 0, .int .i64 (fr : Int), .int .i64 (mo : Int)] w (PartIPost w none 0 fr mo) := by
  have h1 : decide ((fr : Int) < 0) = false := decide_eq_false (by omega)
  have h2 : decide ((mo : Int) < 0) = false := decide_eq_false (by omega)
  have HP : Hid (PartIPost w none 0 fr mo (.returned (.tuple #[.slice none 0 0, .int .i64 0])) w) := hide ⟨none, 0, by rw [show min mo (0 - fr) = 0 by omega], fun h => absurd (show min mo (0 - fr) = 0 by omega) h, by omega, rfl⟩
  by_cases hz : mo = 0
  · subst hz
    by_cases hf0 : fr = 0
    · subst hf0
      go_enter Try.func43, Try.ntmps43
      go_wp2
      all_goals go_ret2
      all_goals exact unhide HP
    · have hf1 : 0 < fr := by omega
      go_enter Try.func43, Try.ntmps43
      go_wp2
      all_goals go_ret2
      all_goals exact unhide HP
  · have hz' : 0 < mo := by omega
    clear hz
    by_cases hf0 : fr = 0
    · subst hf0
      go_enter Try.func43, Try.ntmps43
      go_wp2
      all_goals go_ret2
      all_goals exact unhide HP
    · have hf1 : 0 < fr := by omega
      go_enter Try.func43, Try.ntmps43
      go_wp2
      all_goals go_ret2
      all_goals exact unhide HP
end Go.Proofs.Ytabcmmhmghgliaa

namespace Go.Proofs.Ytabcmmhmghgliaa
open Go.RowKit Go.Maps
set_option linter.unusedVariables false

/-- An entry that goes out: its place, what it is, the block of its fields. -/
structure Eno where
  pos : Nat
  e : Ent
  fb : Nat
abbrev enA (p : Int) (s : List UInt8) (n : Int) (t : List UInt8) (v : Int) (a : Option Addr) (l c : Nat) : Array Value := #[.int .i64 p, sv s, .int .i64 n, sv t, .int .i64 v, .slice a l c]
def NBox (w : World) (q : Nat) (p : Int) (s : List UInt8) (n : Int) (t : List UInt8) (v : Int) (u : Value) : Prop := w.heap[q]? = some (.cells #[.int .i64 p, sv s, .int .i64 n, sv t, .int .i64 v, u] 64 (0, 0))
theorem NBox.cells {w : World} {q : Nat} {p : Int} {s : List UInt8} {n : Int} {t : List UInt8} {v : Int} {u : Value} (h : NBox w q p s n t v u) : w.cell? ⟨q, 0, none⟩ = some (.int .i64 p) ∧ w.cell? ⟨q, 1, none⟩ = some (sv s) ∧ w.cell? ⟨q, 2, none⟩ = some (.int .i64 n) ∧ w.cell? ⟨q, 3, none⟩ = some (sv t) ∧ w.cell? ⟨q, 4, none⟩ = some (.int .i64 v) ∧ w.cell? ⟨q, 5, none⟩ = some u ∧ ∀ i, w.frozen? ⟨q, i, none⟩ = false :=
  ⟨(cell_of_row _ _ _ _ _ _ h).trans rfl, (cell_of_row _ _ _ _ _ _ h).trans rfl, (cell_of_row _ _ _ _ _ _ h).trans rfl, (cell_of_row _ _ _ _ _ _ h).trans rfl, (cell_of_row _ _ _ _ _ _ h).trans rfl, (cell_of_row _ _ _ _ _ _ h).trans rfl, fun i => by simp [World.frozen?, show w.heap[q]? = _ from h]⟩
theorem NBox.same {w w' : World} {q : Nat} {p : Int} {s : List UInt8} {n : Int} {t : List UInt8} {v : Int} {u : Value} (h : NBox w q p s n t v u) (e : w'.heap[q]? = w.heap[q]?) : NBox w' q p s n t v u := e.trans h
theorem NBox.ev {w : World} {q : Nat} {p : Int} {s : List UInt8} {n : Int} {t : List UInt8} {v : Int} {u : Value} (h : NBox w q p s n t v u) (t' : List UInt8) (v' : Int) (u' : Value) : NBox (((w.setCell ⟨q, 3, none⟩ (sv t')).setCell ⟨q, 4, none⟩ (.int .i64 v')).setCell ⟨q, 5, none⟩ u') q p s n t' v' u' := by
  unfold NBox at h ⊢
  rw [heap_setCell_same _ q 5 _ _ _ (heap_setCell_same _ q 4 _ _ _ (heap_setCell_same w q 3 _ _ _ h))]
  rfl
theorem NBox.all {w : World} {q : Nat} {p : Int} {s : List UInt8} {n : Int} {t : List UInt8} {v : Int} {u : Value} (h : NBox w q p s n t v u) (p' : Int) (s' : List UInt8) (n' : Int) (t' : List UInt8) (v' : Int) (u' : Value) : NBox ((((((w.setCell ⟨q, 0, none⟩ (.int .i64 p')).setCell ⟨q, 1, none⟩ (sv s')).setCell ⟨q, 2, none⟩ (.int .i64 n')).setCell ⟨q, 3, none⟩ (sv t')).setCell ⟨q, 4, none⟩ (.int .i64 v')).setCell ⟨q, 5, none⟩ u') q p' s' n' t' v' u' := by
  unfold NBox at h ⊢
  rw [heap_setCell_same _ q 5 _ _ _ (heap_setCell_same _ q 4 _ _ _ (heap_setCell_same _ q 3 _ _ _ (heap_setCell_same _ q 2 _ _ _ (heap_setCell_same _ q 1 _ _ _ (heap_setCell_same w q 0 _ _ _ h)))))]
  rfl
theorem sizeEntry : (Try.prog.info? 64).map (·.size) = some 6 := by kernel_rfl

def EnPost (p : Int) (s : List UInt8) (n : Int) (t : List UInt8) (v : Int) (fs : List Fld) (w : World) (e : Ending) (w' : World) : Prop :=
  ∃ q, e = .returned (.agg (enA p s n t v (some ⟨q, 0, none⟩) fs.length fs.length)) ∧ w.heap.size ≤ q ∧ FdBlk w' q fs.length fs ∧ Below w.heap.size w w'

set_option maxRecDepth 20000 in
set_option maxHeartbeats 4000000 in
theorem entryApart_go (p : Int) (s : List UInt8) (n : Int) (t : List UInt8) (v : Int) (a : Option Addr) (l c : Nat) (fs : List Fld) (w : World) (hv : FdL w (.slice a l c) fs) (h16 : fs.length ≤ 16) :
    Calls Try.prog 26 #[.agg (enA p s n t v a l c)] w (EnPost p s n t v fs w) := by
  obtain ⟨w1, hw1⟩ : ∃ w1, w1 = (w.alloc (.cells (enA p s n t v a l c) 64)).alloc (.cells (enA 0 [] 0 [] 0 none 0 0) 64) := ⟨_, rfl⟩
  have z1 : w1.heap.size = w.heap.size + 2 := by rw [hw1]; simp
  have b1 : Below w.heap.size w w1 := by rw [hw1]; exact ((Below.refl _ _).alloc (Nat.le_refl _) _).alloc (by simp) _
  have x1 : NBox w1 w.heap.size p s n t v (.slice a l c) := by unfold NBox; rw [hw1, Below.heap_alloc _ _ _ (by simp)]; exact heap_alloc_self _ _
  have y1 : NBox w1 (w.heap.size + 1) 0 [] 0 [] 0 (.slice none 0 0) := by unfold NBox; rw [hw1, show w.heap.size + 1 = (w.alloc (.cells (enA p s n t v a l c) 64)).heap.size by simp]; exact heap_alloc_self _ _
  have CA := hide (apart_go t v a l c fs w1 (hv.below b1 (Nat.le_refl _)) h16)
  obtain ⟨p0, p1, p2, p3, p4, p5, p6⟩ := x1.cells
  obtain ⟨M, hM⟩ : ∃ M, M = fs.length := ⟨_, rfl⟩
  have HM := hide hM
  have HN : Hid (∀ w2, Below w1.heap.size w1 w2 → NBox w2 w.heap.size p s n t v (.slice a l c) ∧ NBox w2 (w.heap.size + 1) 0 [] 0 [] 0 (.slice none 0 0) ∧ Below w.heap.size w w2) := hide (fun w2 b2 => ⟨x1.same (b2.block _ (by omega)), y1.same (b2.block _ (by omega)), b1.trans (b2.mono (by omega))⟩)
  have HZ := hide z1
  clear x1 y1 b1 hv hM z1
  go_enter Try.func26, Try.ntmps26
  go_wp2_with fail
  rw [← hw1]
  clear hw1
  refine (unhide CA).mono ?_
  clear CA
  rintro e w2 ⟨q, rfl, hq, hf, b2⟩
  rw [← unhide HM]
  obtain ⟨x2, y2, bl2⟩ := unhide HN w2 b2
  have hqz := unhide HZ
  obtain ⟨B0, hB0⟩ : ∃ B0, B0 = w.heap.size := ⟨_, rfl⟩
  rw [← hB0] at x2 y2 hqz
  have x3 := x2.ev t v (.slice (some ⟨q, 0, none⟩) M M)
  have oth : ∀ z, z ≠ B0 → (((w2.setCell ⟨B0, 3, none⟩ (sv t)).setCell ⟨B0, 4, none⟩ (.int .i64 v)).setCell ⟨B0, 5, none⟩ (.slice (some ⟨q, 0, none⟩) M M)).heap[z]? = w2.heap[z]? := fun z hz => by
    rw [heap_setCell_other _ ⟨B0, 5, none⟩ _ _ hz, heap_setCell_other _ ⟨B0, 4, none⟩ _ _ hz, heap_setCell_other _ ⟨B0, 3, none⟩ _ _ hz]
  have y3 : NBox (((w2.setCell ⟨B0, 3, none⟩ (sv t)).setCell ⟨B0, 4, none⟩ (.int .i64 v)).setCell ⟨B0, 5, none⟩ (.slice (some ⟨q, 0, none⟩) M M)) (B0 + 1) 0 [] 0 [] 0 (.slice none 0 0) := y2.same (oth _ (by omega))
  have y4 := y3.all p s n t v (.slice (some ⟨q, 0, none⟩) M M)
  have f3 : FdBlk (((w2.setCell ⟨B0, 3, none⟩ (sv t)).setCell ⟨B0, 4, none⟩ (.int .i64 v)).setCell ⟨B0, 5, none⟩ (.slice (some ⟨q, 0, none⟩) M M)) q fs.length fs := hf.same (oth _ (by omega))
  have bl3 : Below w.heap.size w (((w2.setCell ⟨B0, 3, none⟩ (sv t)).setCell ⟨B0, 4, none⟩ (.int .i64 v)).setCell ⟨B0, 5, none⟩ (.slice (some ⟨q, 0, none⟩) M M)) := ((bl2.setCell (p := ⟨B0, 3, none⟩) (by show _ ≤ B0; omega) _).setCell (p := ⟨B0, 4, none⟩) (by show _ ≤ B0; omega) _).setCell (p := ⟨B0, 5, none⟩) (by show _ ≤ B0; omega) _
  obtain ⟨W3, hW3⟩ : ∃ W3, W3 = (((w2.setCell ⟨B0, 3, none⟩ (sv t)).setCell ⟨B0, 4, none⟩ (.int .i64 v)).setCell ⟨B0, 5, none⟩ (.slice (some ⟨q, 0, none⟩) M M)) := ⟨_, rfl⟩
  rw [← hW3] at x3 y3 y4 f3 bl3
  have hne : q ≠ B0 + 1 := by omega
  have f4 : FdBlk ((((((W3.setCell ⟨B0 + 1, 0, none⟩ (.int .i64 p)).setCell ⟨B0 + 1, 1, none⟩ (sv s)).setCell ⟨B0 + 1, 2, none⟩ (.int .i64 n)).setCell ⟨B0 + 1, 3, none⟩ (sv t)).setCell ⟨B0 + 1, 4, none⟩ (.int .i64 v)).setCell ⟨B0 + 1, 5, none⟩ (.slice (some ⟨q, 0, none⟩) M M)) q fs.length fs := f3.same (by
    rw [heap_setCell_other _ ⟨B0 + 1, 5, none⟩ _ _ hne, heap_setCell_other _ ⟨B0 + 1, 4, none⟩ _ _ hne, heap_setCell_other _ ⟨B0 + 1, 3, none⟩ _ _ hne, heap_setCell_other _ ⟨B0 + 1, 2, none⟩ _ _ hne, heap_setCell_other _ ⟨B0 + 1, 1, none⟩ _ _ hne, heap_setCell_other _ ⟨B0 + 1, 0, none⟩ _ _ hne])
  have hB1 : w.heap.size ≤ B0 + 1 := by omega
  have bl4 := (((((bl3.setCell (p := ⟨B0 + 1, 0, none⟩) hB1 (.int .i64 p)).setCell (p := ⟨B0 + 1, 1, none⟩) hB1 (sv s)).setCell (p := ⟨B0 + 1, 2, none⟩) hB1 (.int .i64 n)).setCell (p := ⟨B0 + 1, 3, none⟩) hB1 (sv t)).setCell (p := ⟨B0 + 1, 4, none⟩) hB1 (.int .i64 v)).setCell (p := ⟨B0 + 1, 5, none⟩) hB1 (.slice (some ⟨q, 0, none⟩) M M)
  have Y4 := hide y4
  have F4 := hide f4
  have L4 := hide bl4
  have HQ : Hid (w.heap.size ≤ q) := hide (by omega)
  obtain ⟨q0, q1, q2, q3, q4, q5, q6⟩ := x2.cells
  obtain ⟨r0, r1, r2, r3, r4, r5, r6⟩ := x3.cells
  obtain ⟨s0, s1, s2, s3, s4, s5, s6⟩ := y3.cells
  rw [← hB0]
  clear x2 y2 bl2 x3 y3 y4 f3 f4 bl3 bl4 oth hf hq b2 hqz hB0 HN HZ hne hB1
  go_upto_region 2 with fail
  rw [← hW3]
  clear hW3
  go_wp2
  exact bodyPost_ret (results_cell_row rfl _ _ (B0 + 1) 64 (enA p s n t v (some ⟨q, 0, none⟩) M M) (0, 0) _ rfl (unhide Y4) Try.underlying64 rfl sizeEntry) rfl ⟨q, by rw [unhide HM], unhide HQ, unhide F4, unhide L4⟩
end Go.Proofs.Ytabcmmhmghgliaa
