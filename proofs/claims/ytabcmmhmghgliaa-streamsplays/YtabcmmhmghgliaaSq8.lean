/-
  DERIVED. The law's spoil: rows of events (and of entries) that are written over.
-/
import Derived.Test.YtabcmmhmghgliaaSq5
import Derived.Test.YtabcmmhmghgliaaXsame2
namespace Go.Proofs.Ytabcmmhmghgliaa
open Go.RowKit
set_option linter.unusedVariables false

/-- Where fields lie that are written over. -/
structure SpR where
  g : Nat
  m : Nat
  c : Nat
/-- A row at eb of things of sz cells, whose last is a slice of fields; from the j-th on they are as they were. -/
structure SpAt (S : Nat → Prop) (w : World) (T : TypeId) (sz eb : Nat) (rs : List SpR) (j : Nat) : Prop where
  se : S eb
  row : ∃ cs, w.heap[eb]? = some (.cells cs T (0, 0)) ∧ rs.length * sz ≤ cs.size ∧ ∀ i r, j ≤ i → rs[i]? = some r → cs[i * sz + (sz - 1)]? = some (.slice (some ⟨r.g, 0, none⟩) r.m r.c)
  fds : ∀ r ∈ rs, S r.g ∧ r.g ≠ eb ∧ r.m ≤ r.c ∧ r.c ≤ 9223372036854775807 ∧ ∃ cs, w.heap[r.g]? = some (.cells cs 73 (0, 0)) ∧ r.m * 4 ≤ cs.size
theorem SpAt.next {S : Nat → Prop} {w : World} {T : TypeId} {sz eb j : Nat} {rs : List SpR} (h : SpAt S w T sz eb rs j) : SpAt S w T sz eb rs (j + 1) := by
  obtain ⟨h1, ⟨cs, a, b, c⟩, h3⟩ := h
  exact ⟨h1, ⟨cs, a, b, fun i r hi hr => c i r (by omega) hr⟩, h3⟩
theorem SpAt.setF {S : Nat → Prop} {w : World} {T : TypeId} {sz eb j : Nat} {rs : List SpR} (h : SpAt S w T sz eb rs j) {q : Nat} (hq : q ≠ eb) (i : Nat) (v : Value) : SpAt S (w.setCell ⟨q, i, none⟩ v) T sz eb rs j := by
  obtain ⟨h1, ⟨cs, a, b, c⟩, h3⟩ := h
  refine ⟨h1, ⟨cs, (heap_setCell_other _ ⟨q, i, none⟩ _ _ (fun e => hq e.symm)).trans a, b, c⟩, fun r hr => ?_⟩
  obtain ⟨p1, p2, p3, p4, cs', p5, p6⟩ := h3 r hr
  refine ⟨p1, p2, p3, p4, ?_⟩
  by_cases hg : r.g = q
  · subst hg
    exact ⟨_, heap_setCell_same w r.g i _ _ v p5, by simpa using p6⟩
  · exact ⟨cs', (heap_setCell_other _ ⟨q, i, none⟩ _ _ hg).trans p5, p6⟩
theorem SpAt.setE {S : Nat → Prop} {w : World} {T : TypeId} {sz eb j : Nat} {rs : List SpR} (h : SpAt S w T sz eb rs j) (hz : 0 < sz) (p : Nat) (hp : p < j * sz) (v : Value) : SpAt S (w.setCell ⟨eb, p, none⟩ v) T sz eb rs j := by
  obtain ⟨h1, ⟨cs, a, b, c⟩, h3⟩ := h
  refine ⟨h1, ⟨_, heap_setCell_same w eb p _ _ v a, by simpa using b, fun i r hi hr => ?_⟩, fun r hr => ?_⟩
  · rw [Array.getElem?_setIfInBounds]
    have : j * sz ≤ i * sz := Nat.mul_le_mul_right _ hi
    rw [if_neg (by omega)]
    exact c i r hi hr
  · obtain ⟨p1, p2, p3, p4, cs', p5, p6⟩ := h3 r hr
    exact ⟨p1, p2, p3, p4, cs', (heap_setCell_other _ ⟨eb, p, none⟩ _ _ p2).trans p5, p6⟩
theorem Kept.set {S : Nat → Prop} {w W : World} (h : Kept S w W) {q : Nat} (hq : S q) (i : Nat) (v : Value) : Kept S w (W.setCell ⟨q, i, none⟩ v) :=
  ⟨h.os, h.tape, h.output, by rw [World.size_setCell]; exact h.size, fun k hk hn => (heap_setCell_other _ ⟨q, i, none⟩ _ _ (show k ≠ q from fun e => hn (by rw [e]; exact hq))).trans (h.block k hk hn)⟩
theorem SpAt.slice {S : Nat → Prop} {w : World} {T : TypeId} {sz eb j : Nat} {rs : List SpR} (h : SpAt S w T sz eb rs j) {r : SpR} (hr : rs[j]? = some r) : w.cell? ⟨eb, j * sz + (sz - 1), none⟩ = some (.slice (some ⟨r.g, 0, none⟩) r.m r.c) := by
  obtain ⟨h1, ⟨cs, a, b, c⟩, h3⟩ := h
  exact (cell_of_row _ _ _ _ _ _ a).trans (c j r (Nat.le_refl _) hr)
theorem SpAt.roomE {S : Nat → Prop} {w : World} {T : TypeId} {sz eb j : Nat} {rs : List SpR} (h : SpAt S w T sz eb rs j) (p : Nat) (hp : p < rs.length * sz) : (∃ v, w.cell? ⟨eb, p, none⟩ = some v) ∧ w.frozen? ⟨eb, p, none⟩ = false := by
  obtain ⟨h1, ⟨cs, a, b, c⟩, h3⟩ := h
  have hlt : p < cs.size := by omega
  exact ⟨⟨cs[p], (cell_of_row _ _ _ _ _ _ a).trans (Array.getElem?_eq_getElem hlt)⟩, by simp [World.frozen?, a]⟩
theorem SpAt.roomF {S : Nat → Prop} {w : World} {T : TypeId} {sz eb j : Nat} {rs : List SpR} (h : SpAt S w T sz eb rs j) {r : SpR} (hr : r ∈ rs) (p : Nat) (hp : p < r.m * 4) : (∃ v, w.cell? ⟨r.g, p, none⟩ = some v) ∧ w.frozen? ⟨r.g, p, none⟩ = false := by
  obtain ⟨_, _, _, _, cs, a, b⟩ := h.fds r hr
  have hlt : p < cs.size := by omega
  exact ⟨⟨cs[p], (cell_of_row _ _ _ _ _ _ a).trans (Array.getElem?_eq_getElem hlt)⟩, by simp [World.frozen?, a]⟩
theorem SpAt.put4 {S : Nat → Prop} {w w0 : World} {T : TypeId} {sz eb j : Nat} {rs : List SpR} (h : SpAt S w T sz eb rs j) (k : Kept S w0 w) {r : SpR} (hr : r ∈ rs) (i : Nat) (v0 v1 v2 v3 : Value) : SpAt S ((((w.setCell ⟨r.g, i, none⟩ v0).setCell ⟨r.g, i + 1, none⟩ v1).setCell ⟨r.g, i + 2, none⟩ v2).setCell ⟨r.g, i + 3, none⟩ v3) T sz eb rs j ∧ Kept S w0 ((((w.setCell ⟨r.g, i, none⟩ v0).setCell ⟨r.g, i + 1, none⟩ v1).setCell ⟨r.g, i + 2, none⟩ v2).setCell ⟨r.g, i + 3, none⟩ v3) := by
  obtain ⟨p1, p2, _⟩ := h.fds r hr
  exact ⟨(((h.setF p2 i v0).setF p2 (i + 1) v1).setF p2 (i + 2) v2).setF p2 (i + 3) v3, (((k.set p1 i v0).set p1 (i + 1) v1).set p1 (i + 2) v2).set p1 (i + 3) v3⟩

set_option maxRecDepth 20000 in
set_option maxHeartbeats 8000000 in
theorem spoil_go (S : Nat → Prop) (a : Option Addr) (n c eb : Nat) (rs : List SpR) (w : World) (hn : n = rs.length) (hnc : n ≤ c) (hc : c ≤ 9223372036854775807) (h : n ≠ 0 → a = some ⟨eb, 0, none⟩ ∧ SpAt S w 49 3 eb rs 0) :
    Calls Try.prog 19 #[.slice a n c] w fun e w' => e = .returned (.tuple #[]) ∧ Kept S w w' := by
  have HN := hide hn
  have HA : Hid (n ≠ 0 → a = some ⟨eb, 0, none⟩) := hide fun q => (h q).1
  have HS0 : Hid (n ≠ 0 → SpAt S w 49 3 eb rs 0) := hide fun q => (h q).2
  have HK0 := hide (Kept.refl S w)
  have hnm : n ≤ 9223372036854775807 := by omega
  clear hn h
  go_enter Try.func19, Try.ntmps19
  go_wp2_with fail
  go_loopw [2, 3] (fun i _ W => ∃ (j : Nat), j ≤ n ∧ i = .int .i64 (j : Int) ∧ Hid (n ≠ 0 → SpAt S W 49 3 eb rs j) ∧ Hid (Kept S w W)) (fun i _ _ => n - (intOf i).toNat)
  case atStart => exact ⟨0, by omega, rfl, HS0, HK0⟩
  case round =>
    clear HS0 HK0
    obtain ⟨j, hj, rfl, HS, HK⟩ := hrel
    by_cases hlt : j < n
    · obtain ⟨r, hr⟩ : ∃ r, rs[j]? = some r := ⟨_, List.getElem?_eq_getElem (by have := unhide HN; omega)⟩
      have ha := unhide HA (by omega)
      subst ha
      have HR := hide (And.intro hr (List.mem_of_getElem? hr))
      obtain ⟨_, _, q3, q4, _⟩ := (unhide HS (by omega)).fds r (List.mem_of_getElem? hr)
      obtain ⟨rg, hrg⟩ : ∃ rg, rg = r.g := ⟨_, rfl⟩
      obtain ⟨rm, hrm⟩ : ∃ rm, rm = r.m := ⟨_, rfl⟩
      obtain ⟨rc, hrc⟩ : ∃ rc, rc = r.c := ⟨_, rfl⟩
      have HRE := hide (And.intro hrg (And.intro hrm hrc))
      rw [← hrm, ← hrc] at q3
      rw [← hrc] at q4
      clear hr hrg hrm hrc
      have hji : (j : Int) < (n : Int) := by omega
      have hj0 : ¬ (j : Int) < 0 := by omega
      have HS1 : Hid (SpAt S wr 49 3 eb rs j) := hide (unhide HS (by omega))
      clear HS
      go_wp2_with fail
      go_loopw [3] (fun k W => ∃ (kk : Nat), kk ≤ rm ∧ k = .int .i64 (kk : Int) ∧ Hid (SpAt S W 49 3 eb rs j) ∧ Hid (Kept S w W)) (fun k _ => rm - (intOf k).toNat)
      case atStart => exact ⟨0, by omega, rfl, HS1, HK⟩
      case round =>
        clear HS1 HK
        obtain ⟨k, hk, rfl, HS, HK⟩ := hrel
        rename World => W1
        have x2 : W1.cell? ⟨eb, j * 3 + 2, none⟩ = some (.slice (some ⟨rg, 0, none⟩) rm rc) := by
          have := (unhide HS).slice (unhide HR).1
          rw [(unhide HRE).1, (unhide HRE).2.1, (unhide HRE).2.2]; exact this
        by_cases hkt : k < rm
        · have hki : (k : Int) < (rm : Int) := by omega
          have hk0 : ¬ (k : Int) < 0 := by omega
          have HRM : Hid (∀ i, i < 4 → (∃ v, W1.cell? ⟨rg, k * 4 + i, none⟩ = some v) ∧ W1.frozen? ⟨rg, k * 4 + i, none⟩ = false) := hide (fun i hi => by
            have := (unhide HS).roomF (unhide HR).2 (k * 4 + i) (by have := (unhide HRE).2.1; omega)
            rw [(unhide HRE).1]; exact this)
          have HP : Hid (∀ v0 v1 v2 v3, SpAt S ((((W1.setCell ⟨rg, k * 4, none⟩ v0).setCell ⟨rg, k * 4 + 1, none⟩ v1).setCell ⟨rg, k * 4 + 2, none⟩ v2).setCell ⟨rg, k * 4 + 3, none⟩ v3) 49 3 eb rs j ∧ Kept S w ((((W1.setCell ⟨rg, k * 4, none⟩ v0).setCell ⟨rg, k * 4 + 1, none⟩ v1).setCell ⟨rg, k * 4 + 2, none⟩ v2).setCell ⟨rg, k * 4 + 3, none⟩ v3)) := hide (fun v0 v1 v2 v3 => by
            rw [(unhide HRE).1]; exact (unhide HS).put4 (unhide HK) (unhide HR).2 (k * 4) v0 v1 v2 v3)
          obtain ⟨⟨v0, r0⟩, s0⟩ := unhide HRM 0 (by omega)
          obtain ⟨⟨v1, r1⟩, s1⟩ := unhide HRM 1 (by omega)
          obtain ⟨⟨v2, r2⟩, s2⟩ := unhide HRM 2 (by omega)
          obtain ⟨⟨v3, r3⟩, s3⟩ := unhide HRM 3 (by omega)
          rw [Nat.add_zero] at r0 s0
          clear HS HK HRM
          go_wp2
          go_roundw
          case rel => exact ⟨k + 1, by omega, by go_num, hide (unhide HP _ _ _ _).1, hide (unhide HP _ _ _ _).2⟩
          case measure => simp [intOf]; omega
        · have hki : ¬ (k : Int) < (rm : Int) := by omega
          have HRM : Hid (∀ i, i < 3 → (∃ v, W1.cell? ⟨eb, j * 3 + i, none⟩ = some v) ∧ W1.frozen? ⟨eb, j * 3 + i, none⟩ = false) := hide (fun i hi => (unhide HS).roomE (j * 3 + i) (by have := unhide HN; omega))
          have HP : Hid (∀ v0 v1 v2, SpAt S (((W1.setCell ⟨eb, j * 3, none⟩ v0).setCell ⟨eb, j * 3 + 1, none⟩ v1).setCell ⟨eb, j * 3 + 2, none⟩ v2) 49 3 eb rs (j + 1) ∧ Kept S w (((W1.setCell ⟨eb, j * 3, none⟩ v0).setCell ⟨eb, j * 3 + 1, none⟩ v1).setCell ⟨eb, j * 3 + 2, none⟩ v2)) := hide (fun v0 v1 v2 =>
            ⟨(((unhide HS).next.setE (by omega) _ (by omega) v0).setE (by omega) _ (by omega) v1).setE (by omega) _ (by omega) v2, (((unhide HK).set (unhide HS).se _ v0).set (unhide HS).se _ v1).set (unhide HS).se _ v2⟩)
          obtain ⟨⟨v0, r0⟩, s0⟩ := unhide HRM 0 (by omega)
          obtain ⟨⟨v1, r1⟩, s1⟩ := unhide HRM 1 (by omega)
          obtain ⟨⟨v2, r2⟩, s2⟩ := unhide HRM 2 (by omega)
          rw [Nat.add_zero] at r0 s0
          clear HS HK HRM
          go_wp2
          go_roundw
          case rel => exact ⟨j + 1, by omega, by go_num, hide (fun _ => (unhide HP _ _ _).1), hide (unhide HP _ _ _).2⟩
          case measure => simp [intOf]; omega
    · have hki : ¬ (j : Int) < (n : Int) := by omega
      go_wp2
      go_end0
      exact ⟨rfl, unhide HK⟩
end Go.Proofs.Ytabcmmhmghgliaa

namespace Go.Proofs.Ytabcmmhmghgliaa
open Go.RowKit
set_option linter.unusedVariables false

theorem SpAt.below {S : Nat → Prop} {w w' : World} {T : TypeId} {sz eb j : Nat} {rs : List SpR} (h : SpAt S w T sz eb rs j) (hb : Below w.heap.size w w') : SpAt S w' T sz eb rs j := by
  obtain ⟨h1, ⟨cs, a, b, c⟩, h3⟩ := h
  refine ⟨h1, ⟨cs, (hb.block eb (lt_of_block a)).trans a, b, c⟩, fun r hr => ?_⟩
  obtain ⟨p1, p2, p3, p4, cs', p5, p6⟩ := h3 r hr
  exact ⟨p1, p2, p3, p4, cs', (hb.block r.g (lt_of_block p5)).trans p5, p6⟩

set_option maxRecDepth 20000 in
set_option maxHeartbeats 8000000 in
theorem entries_go (S : Nat → Prop) (a : Option Addr) (n c eb : Nat) (a' : Option Addr) (n' c' : Nat) (err : Int) (L : List (Nat × Ent)) (rs : List SpR) (w : World) (hL : EnL w (.slice a n c) L) (hL' : EnL w (.slice a' n' c') L) (hn : n = rs.length) (hnc : n ≤ c) (hc : c ≤ 9223372036854775807) (h : n ≠ 0 → a = some ⟨eb, 0, none⟩ ∧ SpAt S w 64 6 eb rs 0) :
    Calls Try.prog 8 #[.slice a n c, .int .i64 err, .slice a' n' c', .int .i64 err] w fun e w' => e = .returned (.bool true) ∧ Kept S w w' := by
  have CE := hide (SameEntries_eq a a' n c n' c' L w hL hL')
  have hee : (err == err) = true := beq_self_eq_true _
  clear hL hL'
  have HN := hide hn
  have HA : Hid (n ≠ 0 → a = some ⟨eb, 0, none⟩) := hide fun q => (h q).1
  have HS00 : Hid (n ≠ 0 → SpAt S w 64 6 eb rs 0) := hide fun q => (h q).2
  have hnm : n ≤ 9223372036854775807 := by omega
  clear hn h
  go_enter Try.func8, Try.ntmps8
  go_wp2_with fail
  refine (unhide CE).mono ?_
  rintro e w1 ⟨rfl, b1⟩
  have HS0 : Hid (n ≠ 0 → SpAt S w1 64 6 eb rs 0) := hide fun q => (unhide HS00 q).below b1
  have HK0 : Hid (Kept S w w1) := hide (Kept.of_below b1)
  clear HS00 CE b1
  go_wp2_with fail
  go_loopw [10, 11] (fun i _ W => ∃ (j : Nat), j ≤ n ∧ i = .int .i64 (j : Int) ∧ Hid (n ≠ 0 → SpAt S W 64 6 eb rs j) ∧ Hid (Kept S w W)) (fun i _ _ => n - (intOf i).toNat)
  case atStart => exact ⟨0, by omega, rfl, HS0, HK0⟩
  case round =>
    clear HS0 HK0
    obtain ⟨j, hj, rfl, HS, HK⟩ := hrel
    by_cases hlt : j < n
    · obtain ⟨r, hr⟩ : ∃ r, rs[j]? = some r := ⟨_, List.getElem?_eq_getElem (by have := unhide HN; omega)⟩
      have ha := unhide HA (by omega)
      subst ha
      have HR := hide (And.intro hr (List.mem_of_getElem? hr))
      obtain ⟨_, _, q3, q4, _⟩ := (unhide HS (by omega)).fds r (List.mem_of_getElem? hr)
      obtain ⟨rg, hrg⟩ : ∃ rg, rg = r.g := ⟨_, rfl⟩
      obtain ⟨rm, hrm⟩ : ∃ rm, rm = r.m := ⟨_, rfl⟩
      obtain ⟨rc, hrc⟩ : ∃ rc, rc = r.c := ⟨_, rfl⟩
      have HRE := hide (And.intro hrg (And.intro hrm hrc))
      rw [← hrm, ← hrc] at q3
      rw [← hrc] at q4
      clear hr hrg hrm hrc
      have hji : (j : Int) < (n : Int) := by omega
      have hj0 : ¬ (j : Int) < 0 := by omega
      have HS1 : Hid (SpAt S wr 64 6 eb rs j) := hide (unhide HS (by omega))
      clear HS
      go_wp2_with fail
      go_loopw [11] (fun k W => ∃ (kk : Nat), kk ≤ rm ∧ k = .int .i64 (kk : Int) ∧ Hid (SpAt S W 64 6 eb rs j) ∧ Hid (Kept S w W)) (fun k _ => rm - (intOf k).toNat)
      case atStart => exact ⟨0, by omega, rfl, HS1, HK⟩
      case round =>
        clear HS1 HK
        obtain ⟨k, hk, rfl, HS, HK⟩ := hrel
        rename World => W1
        have x2 : W1.cell? ⟨eb, j * 6 + 5, none⟩ = some (.slice (some ⟨rg, 0, none⟩) rm rc) := by
          have := (unhide HS).slice (unhide HR).1
          rw [(unhide HRE).1, (unhide HRE).2.1, (unhide HRE).2.2]; exact this
        by_cases hkt : k < rm
        · have hki : (k : Int) < (rm : Int) := by omega
          have hk0 : ¬ (k : Int) < 0 := by omega
          have HRM : Hid (∀ i, i < 4 → (∃ v, W1.cell? ⟨rg, k * 4 + i, none⟩ = some v) ∧ W1.frozen? ⟨rg, k * 4 + i, none⟩ = false) := hide (fun i hi => by
            have := (unhide HS).roomF (unhide HR).2 (k * 4 + i) (by have := (unhide HRE).2.1; omega)
            rw [(unhide HRE).1]; exact this)
          have HP : Hid (∀ v0 v1 v2 v3, SpAt S ((((W1.setCell ⟨rg, k * 4, none⟩ v0).setCell ⟨rg, k * 4 + 1, none⟩ v1).setCell ⟨rg, k * 4 + 2, none⟩ v2).setCell ⟨rg, k * 4 + 3, none⟩ v3) 64 6 eb rs j ∧ Kept S w ((((W1.setCell ⟨rg, k * 4, none⟩ v0).setCell ⟨rg, k * 4 + 1, none⟩ v1).setCell ⟨rg, k * 4 + 2, none⟩ v2).setCell ⟨rg, k * 4 + 3, none⟩ v3)) := hide (fun v0 v1 v2 v3 => by
            rw [(unhide HRE).1]; exact (unhide HS).put4 (unhide HK) (unhide HR).2 (k * 4) v0 v1 v2 v3)
          obtain ⟨⟨v0, r0⟩, s0⟩ := unhide HRM 0 (by omega)
          obtain ⟨⟨v1, r1⟩, s1⟩ := unhide HRM 1 (by omega)
          obtain ⟨⟨v2, r2⟩, s2⟩ := unhide HRM 2 (by omega)
          obtain ⟨⟨v3, r3⟩, s3⟩ := unhide HRM 3 (by omega)
          rw [Nat.add_zero] at r0 s0
          clear HS HK HRM
          go_wp2
          go_roundw
          case rel => exact ⟨k + 1, by omega, by go_num, hide (unhide HP _ _ _ _).1, hide (unhide HP _ _ _ _).2⟩
          case measure => simp [intOf]; omega
        · have hki : ¬ (k : Int) < (rm : Int) := by omega
          have HRM : Hid (∀ i, i < 6 → (∃ v, W1.cell? ⟨eb, j * 6 + i, none⟩ = some v) ∧ W1.frozen? ⟨eb, j * 6 + i, none⟩ = false) := hide (fun i hi => (unhide HS).roomE (j * 6 + i) (by have := unhide HN; omega))
          have HP : Hid (∀ v0 v1 v2 v3 v4 v5, SpAt S ((((((W1.setCell ⟨eb, j * 6, none⟩ v0).setCell ⟨eb, j * 6 + 1, none⟩ v1).setCell ⟨eb, j * 6 + 2, none⟩ v2).setCell ⟨eb, j * 6 + 3, none⟩ v3).setCell ⟨eb, j * 6 + 4, none⟩ v4).setCell ⟨eb, j * 6 + 5, none⟩ v5) 64 6 eb rs (j + 1) ∧ Kept S w ((((((W1.setCell ⟨eb, j * 6, none⟩ v0).setCell ⟨eb, j * 6 + 1, none⟩ v1).setCell ⟨eb, j * 6 + 2, none⟩ v2).setCell ⟨eb, j * 6 + 3, none⟩ v3).setCell ⟨eb, j * 6 + 4, none⟩ v4).setCell ⟨eb, j * 6 + 5, none⟩ v5)) := hide (fun v0 v1 v2 v3 v4 v5 =>
            ⟨((((((unhide HS).next.setE (by omega) _ (by omega) v0).setE (by omega) _ (by omega) v1).setE (by omega) _ (by omega) v2).setE (by omega) _ (by omega) v3).setE (by omega) _ (by omega) v4).setE (by omega) _ (by omega) v5, ((((((unhide HK).set (unhide HS).se _ v0).set (unhide HS).se _ v1).set (unhide HS).se _ v2).set (unhide HS).se _ v3).set (unhide HS).se _ v4).set (unhide HS).se _ v5⟩)
          obtain ⟨⟨v0, r0⟩, s0⟩ := unhide HRM 0 (by omega)
          obtain ⟨⟨v1, r1⟩, s1⟩ := unhide HRM 1 (by omega)
          obtain ⟨⟨v2, r2⟩, s2⟩ := unhide HRM 2 (by omega)
          obtain ⟨⟨v3, r3⟩, s3⟩ := unhide HRM 3 (by omega)
          obtain ⟨⟨v4, r4⟩, s4⟩ := unhide HRM 4 (by omega)
          obtain ⟨⟨v5, r5⟩, s5⟩ := unhide HRM 5 (by omega)
          rw [Nat.add_zero] at r0 s0
          clear HS HK HRM
          go_wp2
          go_roundw
          case rel => exact ⟨j + 1, by omega, by go_num, hide (fun _ => (unhide HP _ _ _ _ _ _).1), hide (unhide HP _ _ _ _ _ _).2⟩
          case measure => simp [intOf]; omega
    · have hki : ¬ (j : Int) < (n : Int) := by omega
      go_wp2
      go_ret
      exact ⟨rfl, unhide HK⟩
end Go.Proofs.Ytabcmmhmghgliaa
