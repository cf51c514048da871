/-
  DERIVED. The reader in memory; need, next.
-/
import Derived.Test.YtankbanonbmffabGreatDoorRqP
import Derived.Test.YtankbanonbmffabGreatDoorRqQ
import Derived.Test.YtankbanonbmffabGreatDoorBase
import Derived.Test.YtankbanonbmffabGreatDoorShA
import Derived.Deep.RegionHeld3
import Derived.Deep.Cut
import Derived.Laws.ResultCell
import Derived.Laws.Rows
namespace Go.Proofs.YtankbanonbmffabGreatDoor
open Go.RowKit
set_option linter.unusedVariables false

/-- A text as a value. -/
abbrev qv (s : List UInt8) : Value := .string ⟨s.toArray⟩
/-- Only block q has turned, of those that were there. -/
structure QF (q : Nat) (w w' : World) : Prop where
  os : w'.os = w.os
  tape : w'.tape = w.tape
  output : w'.output = w.output
  size : w.heap.size ≤ w'.heap.size
  block : ∀ g, g < w.heap.size → g ≠ q → w'.heap[g]? = w.heap[g]?
theorem QF.refl (q : Nat) (w : World) : QF q w w := ⟨rfl, rfl, rfl, Nat.le_refl _, fun _ _ _ => rfl⟩
theorem QF.trans {q : Nat} {a b c : World} (h : QF q a b) (k : QF q b c) : QF q a c := ⟨k.os.trans h.os, k.tape.trans h.tape, k.output.trans h.output, Nat.le_trans h.size k.size, fun g hg hq => (k.block g (Nat.lt_of_lt_of_le hg h.size) hq).trans (h.block g hg hq)⟩
theorem QF.drewN {q : Nat} {a b : World} (h : QF q a b) (n : Nat) : QF q a (b.drewN n) := ⟨h.os, h.tape, h.output, h.size, h.block⟩
theorem QF.drew {q : Nat} {a b : World} (h : QF q a b) : QF q a b.drew := ⟨h.os, h.tape, h.output, h.size, h.block⟩
theorem QF.set {q : Nat} {a b : World} (h : QF q a b) (i : Nat) (v : Value) : QF q a (b.setCell ⟨q, i, none⟩ v) :=
  ⟨h.os, h.tape, h.output, by simpa [World.setCell] using h.size, fun g hg hq => (Below.heap_setCell b ⟨q, i, none⟩ v g hq).trans (h.block g hg hq)⟩
theorem QF.alloc {q : Nat} {a b : World} (h : QF q a b) (o : Obj) : QF q a (b.alloc o) :=
  ⟨h.os, h.tape, h.output, by simp; have := h.size; omega, fun g hg hq => (Below.heap_alloc b o g (Nat.lt_of_lt_of_le hg h.size)).trans (h.block g hg hq)⟩
theorem QF.of {q : Nat} {a b : World} (h : Below a.heap.size a b) : QF q a b := ⟨h.os, h.tape, h.output, h.size, fun g hg _ => h.block g hg⟩
theorem QF.below {q : Nat} {a b : World} (h : QF q a b) {B : Nat} (hB : B ≤ q) (hs : B ≤ a.heap.size) : Below B a b := ⟨h.os, h.tape, h.output, h.size, fun g hg => h.block g (Nat.lt_of_lt_of_le hg hs) (by omega)⟩

theorem QF.grow {q B : Nat} {a b c : World} (h : QF q a b) (k : Below B b c) (hB : a.heap.size ≤ B) : QF q a c := ⟨k.os.trans h.os, k.tape.trans h.tape, k.output.trans h.output, Nat.le_trans h.size k.size, fun g hg hq => (k.block g (by omega)).trans (h.block g hg hq)⟩

/-- A reader: its text, how far it is, the request so far. -/
structure Rd where
  s : List UInt8
  at' : Nat
  m : List UInt8
  p : List UInt8
  q : List UInt8
  hv : Value
  b : List UInt8
  cl : Bool
  fn : Value
  ln : Int
def rdC (R : Rd) : Array Value := #[qv R.s, .int .i64 (R.at' : Int), qv R.m, qv R.p, qv R.q, R.hv, qv R.b, .bool R.cl, R.fn, .int .i64 R.ln]
def RdAt (w : World) (g : Nat) (R : Rd) : Prop := w.heap[g]? = some (.cells (rdC R) 35 (0, 0)) ∧ R.at' ≤ R.s.length ∧ R.s.length ≤ 281474976710656
theorem RdAt.lt {w : World} {g : Nat} {R : Rd} (h : RdAt w g R) : g < w.heap.size := lt_of_block h.1
theorem RdAt.data {w : World} {g : Nat} {R : Rd} (h : RdAt w g R) : w.cell? ⟨g, 0, none⟩ = some (qv R.s) := (cell_of_row _ _ _ _ _ _ h.1).trans rfl
theorem RdAt.at_ {w : World} {g : Nat} {R : Rd} (h : RdAt w g R) : w.cell? ⟨g, 1, none⟩ = some (.int .i64 (R.at' : Int)) := (cell_of_row _ _ _ _ _ _ h.1).trans rfl
theorem RdAt.ln_ {w : World} {g : Nat} {R : Rd} (h : RdAt w g R) : w.cell? ⟨g, 9, none⟩ = some (.int .i64 R.ln) := (cell_of_row _ _ _ _ _ _ h.1).trans rfl
theorem RdAt.fn_ {w : World} {g : Nat} {R : Rd} (h : RdAt w g R) : w.cell? ⟨g, 8, none⟩ = some R.fn := (cell_of_row _ _ _ _ _ _ h.1).trans rfl
theorem RdAt.hv_ {w : World} {g : Nat} {R : Rd} (h : RdAt w g R) : w.cell? ⟨g, 5, none⟩ = some R.hv := (cell_of_row _ _ _ _ _ _ h.1).trans rfl
theorem RdAt.fz {w : World} {g : Nat} {R : Rd} (h : RdAt w g R) : ∀ i, w.frozen? ⟨g, i, none⟩ = false := fun i => by simp [World.frozen?, h.1]
theorem RdAt.same {w w' : World} {g : Nat} {R : Rd} (h : RdAt w g R) (e : w'.heap[g]? = w.heap[g]?) : RdAt w' g R := ⟨e.trans h.1, h.2⟩
theorem RdAt.setAt {w : World} {g : Nat} {R : Rd} (h : RdAt w g R) (n : Nat) (m : Int) (hm : m = n) (hn : n ≤ R.s.length) : RdAt (w.setCell ⟨g, 1, none⟩ (.int .i64 m)) g { R with at' := n } := by
  subst hm
  exact ⟨heap_setCell_same w g 1 _ _ _ h.1, hn, h.2.2⟩
theorem RdAt.drewN {w : World} {g : Nat} {R : Rd} (h : RdAt w g R) (n : Nat) : RdAt (w.drewN n) g R := ⟨h.1, h.2⟩

/-- A call gives up with that status. -/
abbrev panQ (n : Int) : Ending := .panicked [{ v := .iface 36 (.int .i64 n), recovered := false }]

theorem need_ok (n : Int) (w : World) : Calls Tryz.prog 14 #[.bool true, .int .i64 n] w fun e w' => e = .returned (.tuple #[]) ∧ w' = w := by
  go_enter Tryz.func14, Tryz.ntmps14
  go_wp2_with fail
  refine bodyPost_end (results_none rfl _ _ _) rfl ?_
  exact ⟨rfl, rfl⟩
theorem need_no (n : Int) (w : World) : Calls Tryz.prog 14 #[.bool false, .int .i64 n] w fun e w' => e = panQ n ∧ w' = w := by
  go_enter Tryz.func14, Tryz.ntmps14
  go_wp2_with fail
  exact ⟨rfl, rfl, rfl⟩

/-- What a part of the reader comes to. -/
def QEnds {α : Type} (r : Rs α) (val : α → Value) (g : Nat) (R : Rd) (w : World) (e : Ending) (w' : World) : Prop :=
  (match r with
    | .ok a n => e = .returned (val a) ∧ RdAt w' g { R with at' := R.at' + n }
    | .no s => e = panQ s) ∧ QF g w w'
/-- The next byte. -/
def qNext : List UInt8 → Rs UInt8
  | [] => .no 0
  | b :: _ => .ok b 1

theorem qbyte_at {s : List UInt8} {k : Nat} {c : UInt8} (h : s[k]? = some c) : ∀ hb : k < (⟨s.toArray⟩ : ByteArray).size, (⟨s.toArray⟩ : ByteArray)[k]'hb = c := by
  intro hb
  obtain ⟨h1, h2⟩ := List.getElem?_eq_some_iff.1 h
  rw [← h2]; rfl

set_option maxHeartbeats 2000000 in
set_option maxRecDepth 20000 in
theorem next_any (g : Nat) (R : Rd) (w : World) (h : RdAt w g R) : Calls Tryz.prog 30 #[.pointer (some ⟨g, 0, none⟩)] w (QEnds (qNext (R.s.drop R.at')) bv g R w) := by
  have c0 := h.data
  have c1 := h.at_
  have hle := h.2.1
  have hls := h.2.2
  by_cases hlt : R.at' < R.s.length
  · obtain ⟨b, hb⟩ : ∃ b, R.s[R.at']? = some b := ⟨_, List.getElem?_eq_getElem hlt⟩
    have HE : Hid (qNext (R.s.drop R.at') = .ok b 1) := hide (by rw [drop_cons hb]; rfl)
    rw [unhide HE]
    have hB := qbyte_at hb
    have HN := hide (fun nq => (h.drewN nq).setAt (R.at' + 1) ((R.at' : Int) + 1) (by simp) (by omega))
    have HF := hide h.fz
    have hlt' : (R.at' : Int) < (R.s.length : Int) := by omega
    have wr1 : IntKind.i64.wrap ((R.at' : Int) + 1) = (R.at' : Int) + 1 := by rw [IntKind.wrap_i64]; omega
    have wr2 : IntKind.i64.wrap (R.at' : Int) = (R.at' : Int) := by rw [IntKind.wrap_i64]; omega
    clear hle hls hb h hlt
    go_enter Tryz.func30, Tryz.ntmps30
    go_wp2_with fail
    refine wp_region_quiet_last (n := 10) (L := ?L1) (l := ?l1) (by kernel_rfl) (by rfl) ?hL1 ?hl1 ?hp1 ?hB1 ?h1
    case hL1 => (simp only [List.getElem?_toArray, List.getElem?_cons_succ, List.getElem?_cons_zero]; rfl)
    case hl1 => (simp only [List.pop_toArray, List.dropLast_cons_cons, List.dropLast_singleton]; rfl)
    case hp1 => kernel_rfl
    case hB1 => kernel_rfl
    case h1 =>
      repeat (go_big_quiet_step (fail))
      refine wpQuiet_nil ?_
      intro _ hw'
      obtain ⟨nq, hw''⟩ := hw'
      subst hw''
      go_simp
      refine (need_ok 0 _).mono ?_
      rintro e w' ⟨rfl, rfl⟩
      have d1 : (w.drewN nq).cell? ⟨g, 1, none⟩ = some (.int .i64 (R.at' : Int)) := c1
      have df : ∀ i, (w.drewN nq).frozen? ⟨g, i, none⟩ = false := unhide HF
      have HN1 := hide (unhide HN nq)
      have HQ1 : Hid (QF g w ((w.drewN nq).setCell ⟨g, 1, none⟩ (.int .i64 ((R.at' : Int) + 1)))) := hide (((QF.refl g w).drewN nq).set 1 _)
      clear c0 c1 HN
      go_upto_region 3 with fail
      obtain ⟨W1, hW1⟩ : ∃ W1, W1 = (w.drewN nq).setCell ⟨g, 1, none⟩ (.int .i64 ((R.at' : Int) + 1)) := ⟨_, rfl⟩
      rw [← hW1] at HN1 HQ1 ⊢
      have c0 := (unhide HN1).data
      have c1 := (unhide HN1).at_
      rw [show ((R.at' + 1 : Nat) : Int) = (R.at' : Int) + 1 by simp] at c1
      clear hW1 d1 df
      go_quiet (fail)
      go_wp2
      go_ret
      exact ⟨⟨rfl, (unhide HN1).drewN _⟩, (unhide HQ1).drewN _⟩
  · have HE : Hid (qNext (R.s.drop R.at') = .no 0) := hide (by rw [List.drop_of_length_le (by omega)]; rfl)
    rw [unhide HE]
    have hlt' : decide (R.at' < R.s.length) = false := decide_eq_false (by omega)
    clear hle hls h hlt
    go_enter Tryz.func30, Tryz.ntmps30
    go_wp2_with fail
    refine wp_region_quiet_last (n := 10) (L := ?L2) (l := ?l2) (by kernel_rfl) (by rfl) ?hL2 ?hl2 ?hp2 ?hB2 ?h2
    case hL2 => (simp only [List.getElem?_toArray, List.getElem?_cons_succ, List.getElem?_cons_zero]; rfl)
    case hl2 => (simp only [List.pop_toArray, List.dropLast_cons_cons, List.dropLast_singleton]; rfl)
    case hp2 => kernel_rfl
    case hB2 => kernel_rfl
    case h2 =>
      repeat (go_big_quiet_step (fail))
      refine wpQuiet_nil ?_
      intro _ hw'
      obtain ⟨nq, hw''⟩ := hw'
      subst hw''
      go_simp
      refine (need_no 0 _).mono ?_
      rintro e w' ⟨rfl, rfl⟩
      exact ⟨rfl, rfl, (QF.refl g w).drewN nq⟩
theorem next_some {g : Nat} {R : Rd} {w : World} (h : RdAt w g R) {b : UInt8} (hb : R.s[R.at']? = some b) : Calls Tryz.prog 30 #[.pointer (some ⟨g, 0, none⟩)] w fun e w' => e = .returned (bv b) ∧ RdAt w' g { R with at' := R.at' + 1 } ∧ QF g w w' := by
  have := next_any g R w h
  rw [drop_cons hb] at this
  exact this.mono fun e w' ⟨⟨h1, h2⟩, h3⟩ => ⟨h1, h2, h3⟩
theorem next_none {g : Nat} {R : Rd} {w : World} (h : RdAt w g R) (hb : R.s[R.at']? = none) : Calls Tryz.prog 30 #[.pointer (some ⟨g, 0, none⟩)] w fun e w' => e = panQ 0 ∧ QF g w w' := by
  have := next_any g R w h
  rw [List.drop_of_length_le (List.getElem?_eq_none_iff.1 hb)] at this
  exact this.mono fun e w' ⟨h1, h3⟩ => ⟨h1, h3⟩
end Go.Proofs.YtankbanonbmffabGreatDoor
