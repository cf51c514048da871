/-
  DERIVED. What each block may be: an array of slices of strings.
-/
import Derived.Test.YtdcggplmoiodjaaDcalls
import Derived.Test.YtdcggplmoiodjaaDawake
namespace Go.Proofs.Ytdcggplmoiodjaa
open Go.RowKit
set_option linter.unusedVariables false

/-- Bytes as a string. -/
def str (L : List UInt8) : ByteArray := ⟨L.toArray⟩
theorem str_inj {L M : List UInt8} (h : str L = str M) : L = M := by
  unfold str at h
  injection h with h
  simpa using congrArg Array.toList h

structure MayAt (w : World) (F : Nat → Prop) (A : Nat) (mv : Nat → Value) (ms : Nat → List ByteArray) : Prop where
  arr : w.heap[A]? = some (.cells ((List.range 64).map mv).toArray 46 (0, 0))
  rows : ∀ n, w.ownsRow 0 9 1 (mv n) (ms n).length ((ms n).map Value.string)
  foot : ∀ n q, (mv n).ownBlock = some q → ¬ F q ∧ q ≠ A
  apart : ∀ n n' q, (mv n).ownBlock = some q → (mv n').ownBlock = some q → n = n'
  na : ¬ F A

theorem MayAt.lt {w : World} {F : Nat → Prop} {A : Nat} {mv : Nat → Value} {ms : Nat → List ByteArray} (h : MayAt w F A mv ms) : A < w.heap.size := lt_of_block h.arr
theorem MayAt.cell {w : World} {F : Nat → Prop} {A : Nat} {mv : Nat → Value} {ms : Nat → List ByteArray} (h : MayAt w F A mv ms) (n : Nat) (hn : n < 64) : w.cell? ⟨A, n, none⟩ = some (mv n) := by
  rw [cell_of_row _ _ _ _ _ _ h.arr]
  simp [List.getElem?_map, List.getElem?_range hn]
theorem MayAt.nf {w : World} {F : Nat → Prop} {A : Nat} {mv : Nat → Value} {ms : Nat → List ByteArray} (h : MayAt w F A mv ms) (n : Nat) : w.frozen? ⟨A, n, none⟩ = false := frozen_of_row w A n _ _ h.arr

theorem row_frame {w w' : World} {e : TypeId} {v : Value} {n : Nat} {xs : List Value} (h : w.ownsRow 0 e 1 v n xs) (hk : ∀ q, v.ownBlock = some q → q < w.heap.size → w'.heap[q]? = w.heap[q]?) : w'.ownsRow 0 e 1 v n xs := by
  obtain ⟨h1, h2⟩ := h
  refine ⟨h1, ?_⟩
  rcases h2 with h2 | ⟨q, cap, cur, rfl, hb, hg, r⟩
  · exact .inl h2
  · exact .inr ⟨q, cap, cur, rfl, hb, (hk q rfl (lt_of_block hg)).trans hg, r⟩
theorem row_lt {w : World} {e : TypeId} {v : Value} {n : Nat} {xs : List Value} (h : w.ownsRow 0 e 1 v n xs) {q : Nat} (hq : v.ownBlock = some q) : q < w.heap.size ∧ ∃ cur, w.heap[q]? = some (.cells cur e (0, 0)) := by
  rcases h.2 with ⟨rfl, _⟩ | ⟨g, cap, cur, rfl, hb, hg, r⟩
  · cases hq
  · cases hq; exact ⟨lt_of_block hg, cur, hg⟩

/-- What may be stands while the device turns. -/
theorem MayAt.kept {w w' : World} {F G : Nat → Prop} {A : Nat} {mv : Nat → Value} {ms : Nat → List ByteArray} (h : MayAt w F A mv ms) (hk : Kept F w w') (hG : ∀ q, G q → F q ∨ w.heap.size ≤ q) : MayAt w' G A mv ms :=
  { arr := (hk.block A h.lt h.na).trans h.arr
    rows := fun n => row_frame (h.rows n) fun q hq hl => hk.block q hl (h.foot n q hq).1
    foot := fun n q hq => ⟨fun hg => by
      rcases hG q hg with h1 | h1
      · exact (h.foot n q hq).1 h1
      · have := (row_lt (h.rows n) hq).1; omega, (h.foot n q hq).2⟩
    apart := h.apart
    na := fun hg => by
      rcases hG A hg with h1 | h1
      · exact h.na h1
      · have := h.lt; omega }
theorem MayAt.grown {w w' : World} {F : Nat → Prop} {A : Nat} {mv : Nat → Value} {ms : Nat → List ByteArray} (h : MayAt w F A mv ms) (hb : Below w.heap.size w w') : MayAt w' F A mv ms := h.kept (Kept.of_below hb) (fun _ h => .inl h)

def upd {α : Type} (f : Nat → α) (k : Nat) (x : α) : Nat → α := fun n => if n = k then x else f n

theorem upd_lt {α : Type} (z : α) (j : Nat) : (fun n => if n < j + 1 then [z] else []) = upd (fun n => if n < j then [z] else []) j [z] := by
  funext n
  by_cases e1 : n = j
  · subst e1; simp [upd]
  · by_cases e2 : n < j
    · simp [upd, e1, e2]; omega
    · simp [upd, e1, e2]; omega

/-- A slice laid into the array. -/
theorem MayAt.set {w w1 : World} {F : Nat → Prop} {A : Nat} {mv : Nat → Value} {ms : Nat → List ByteArray} (h : MayAt w F A mv ms) (k : Nat) (hk : k < 64) (v : Value) (l : List ByteArray) (hg : w.grownBy w1 (mv k).ownBlock)
    (hv : w1.ownsRow 0 9 1 v l.length (l.map Value.string)) (hat : ∀ q, v.ownBlock = some q → (mv k).ownBlock = some q ∨ (w.heap.size ≤ q ∧ ¬ F q)) : MayAt (w1.setCell ⟨A, k, none⟩ v) F A (upd mv k v) (upd ms k l) := by
  have hA1 : w1.heap[A]? = w.heap[A]? := hg.block A h.lt fun e => (h.foot k A e.symm).2 rfl
  have hset : ∀ q, q ≠ A → (w1.setCell ⟨A, k, none⟩ v).heap[q]? = w1.heap[q]? := fun q hq => heap_setCell_other _ _ _ _ hq
  have hvA : ∀ q, v.ownBlock = some q → q ≠ A := fun q hq => by
    rcases hat q hq with h1 | h1
    · exact (h.foot k q h1).2
    · have := h.lt; omega
  have hold : ∀ n q, n ≠ k → (mv n).ownBlock = some q → w1.heap[q]? = w.heap[q]? := fun n q hn hq => hg.block q (row_lt (h.rows n) hq).1 fun e => hn (h.apart n k q hq e.symm)
  refine { arr := ?_, rows := ?_, foot := ?_, apart := ?_, na := h.na }
  · rw [heap_setCell_same w1 A k _ _ _ (hA1.trans h.arr)]
    congr 2
    apply Array.ext'
    rw [Array.toList_setIfInBounds]
    apply List.ext_getElem (by simp)
    intro i h1 h2
    rw [List.getElem_set]
    simp only [List.getElem_map, List.getElem_range, upd]
    by_cases e : k = i
    · subst e; simp
    · rw [if_neg e, if_neg (fun h => e h.symm)]
  · intro n
    by_cases e : n = k
    · subst e
      simp only [upd, if_true]
      exact row_frame hv fun q hq _ => hset q (hvA q hq)
    · simp only [upd, if_neg e]
      exact row_frame (h.rows n) fun q hq _ => (hset q (h.foot n q hq).2).trans (hold n q e hq)
  · intro n q hq
    by_cases e : n = k
    · subst e
      simp only [upd, if_true] at hq
      rcases hat q hq with h1 | h1
      · exact h.foot n q h1
      · exact ⟨h1.2, hvA q hq⟩
    · simp only [upd, if_neg e] at hq
      exact h.foot n q hq
  · intro n n' q hq hq'
    have key : ∀ x, x ≠ k → (mv x).ownBlock = some q → v.ownBlock = some q → False := fun x hx h1 h2 => by
      rcases hat q h2 with h3 | h3
      · exact hx (h.apart x k q h1 h3)
      · have := (row_lt (h.rows x) h1).1; omega
    by_cases e : n = k
    · by_cases e' : n' = k
      · rw [e, e']
      · simp only [upd, if_pos e] at hq
        simp only [upd, if_neg e'] at hq'
        exact (key n' e' hq' hq).elim
    · by_cases e' : n' = k
      · simp only [upd, if_neg e] at hq
        simp only [upd, if_pos e'] at hq'
        exact (key n e hq hq').elim
      · simp only [upd, if_neg e] at hq
        simp only [upd, if_neg e'] at hq'
        exact h.apart n n' q hq hq'

/-- A slice of one string, just made. -/
theorem row_one (w : World) (s : ByteArray) : (w.alloc (.cells #[.string s] 9)).ownsRow 0 9 1 (.slice (some ⟨w.heap.size, 0, none⟩) 1 1) 1 ([s].map Value.string) :=
  ⟨rfl, .inr ⟨w.heap.size, 1, #[.string s], rfl, Nat.zero_le _, heap_alloc_self _ _, Nat.le_refl _, by unfold maxLen; omega, rfl, rfl⟩⟩

theorem idx_may (A j : Nat) (hj : j < 64) (W : World) : (Instr.indexAt 46 (.pointer (some ⟨A, 0, none⟩)) (.int .i64 (j : Nat))).run Try.prog W = .ok (.pointer (some ⟨A, j, none⟩)) W := by
  have hu : Try.prog.underlying 46 = some (.array (Try.prog.arrayLen 46) (Try.prog.elem 46)) := by kernel_rfl
  have hl : Try.prog.arrayLen 46 = 64 := by kernel_rfl
  rw [run_indexAt_array (h := hu), hl, if_pos (by omega)]
  have e : Try.prog.elem 46 = 41 := by kernel_rfl
  have e2 : (sizeOf 41).run Try.prog W = .ok 1 W := by kernel_rfl
  rw [e, e2, Result.andThen_ok, Nat.mul_one, Int.toNat_natCast, addr_add, Nat.zero_add]

/-- The array's cells at first. -/
def nilCells : Array Value := ((List.range 64).map fun _ => nilS).toArray
theorem run_alloc_may (w : World) : (Instr.alloc 46 true (.tuple #[])).run Try.prog w = .ok (.pointer (some ⟨w.heap.size, 0, none⟩)) (w.alloc (.cells nilCells 46)) := by kernel_rfl
theorem wpList_alloc_may {ops : Array Oper} {rest : List Oper} {o : Oper} {a : Act} {w : World} {Q : Exit → Act → World → Prop} (hgd : o.guard = none)
    (ho : o.op = .alloc 46) (h : wpList Try.prog ops Q rest (a.put o.dst (.pointer (some ⟨w.heap.size, 0, none⟩))) (w.alloc (.cells nilCells 46))) : wpList Try.prog ops Q (o :: rest) a w := by
  refine wpList_plain hgd fun K hK => ?_
  unfold Oper.wp execOp
  simp only [ho, Sem.run_bind, Sem.run_pure, run_alloc_may, Result.andThen_ok]
  exact hK _ _ h

set_option maxRecDepth 20000 in
theorem Noughts_any (w : World) : Calls Try.prog 18 #[] w fun e w' => e = .returned (.string (str (List.replicate 512 0))) ∧ Below w.heap.size w w' := by
  have mk := run_make_512 w
  have hs := (Row.sl (w := w.alloc (.cells ((List.replicate 512 (0 : UInt8)).map bv).toArray 5)) (g := w.heap.size) (L := List.replicate 512 0) (heap_alloc_self _ _) List.length_replicate).str
  have hb : Below w.heap.size w (w.alloc (.cells ((List.replicate 512 (0 : UInt8)).map bv).toArray 5)) := (Below.refl _ _).alloc (Nat.le_refl _) _
  obtain ⟨s, hse⟩ : ∃ s, s = (⟨(List.replicate 512 (0 : UInt8)).toArray⟩ : ByteArray) := ⟨_, rfl⟩
  have HSE : Hid (str (List.replicate 512 0) = s) := hide (by rw [hse]; rfl)
  obtain ⟨w0, hw0⟩ : ∃ w0, w0 = w.alloc (.cells ((List.replicate 512 (0 : UInt8)).map bv).toArray 5) := ⟨_, rfl⟩
  rw [← hw0] at mk hs hb
  rw [← hse] at hs
  rw [unhide HSE]
  have HB := hide hb
  clear hw0 hse hb HSE
  go_enter Try.func18, Try.ntmps18
  go_wp2
  go_ret
  exact ⟨rfl, unhide HB⟩

/-- The states: what was written last. -/
theorem newest_wrote (S : St) (k n : Nat) (L : List UInt8) : (S.burn.wrote k L).newest n = if n = k then L else S.newest n := by
  unfold St.newest
  show ((putP S.pend k L n).getLast?).getD _ = _
  unfold putP
  by_cases e : n = k
  · subst e; simp
  · simp only [if_neg e]; rfl
theorem newest_flushed (S : St) (n : Nat) (hn : n < S.safe.length) : (S.burn.flushed.safe[n]?).getD [] = S.newest n := by
  show (((List.range S.safe.length).map S.burn.newest)[n]?).getD [] = _
  rw [List.getElem?_map, List.getElem?_range hn]
  rfl

/-- What a crash keeps is one of what was there. -/
theorem crashTo_mem (S : St) (ps : List Int) : ∀ i n, n < S.safe.length → ((S.crashTo ps i)[n]?).getD [] = (S.safe[n]?).getD [] ∨ ((S.crashTo ps i)[n]?).getD [] ∈ S.pend n
  | 0, n, hn => .inl rfl
  | i + 1, n, hn => by
    have ih := crashTo_mem S ps i n hn
    rw [St.crashTo]
    obtain ⟨k, hk⟩ : ∃ k, k = (S.keys[i]?).getD 0 := ⟨_, rfl⟩
    rw [← hk]
    by_cases e : k = n
    · rw [e]
      have hl : n < (S.crashTo ps i).length := by rw [St.crashTo_len]; exact hn
      rw [List.getElem?_set_self hl, Option.getD_some]
      unfold St.keptB
      simp only
      have hlt := pickR_lt (pickAt ps i) (S.pend n).length
      split
      · exact ih
      · rename_i hne
        right
        rw [List.getElem?_eq_getElem (by omega), Option.getD_some]
        exact List.getElem_mem _
    · rw [List.getElem?_set_ne e]
      exact ih
theorem crash_mem (S : St) (ps : List Int) (n : Nat) (hn : n < S.safe.length) : (S.crash ps).newest n = (S.safe[n]?).getD [] ∨ (S.crash ps).newest n ∈ S.pend n := crashTo_mem S ps _ n hn

theorem may_first (S : St) (k : Nat) (L : List UInt8) : (fun n => if n < 64 then [str ((S.burn.wrote k L).newest n)] else []) = if k < 64 then upd (fun n => if n < 64 then [str (S.newest n)] else []) k [str L] else (fun n => if n < 64 then [str ((S.burn.wrote k L).newest n)] else []) := by
  by_cases hk : k < 64
  · rw [if_pos hk]
    funext n
    simp only [upd, newest_wrote]
    by_cases e : n = k
    · subst e; simp [hk]
    · simp [e]
  · rw [if_neg hk]
/-- What each block may be, behind the flush. -/
def mayS (S : St) : Nat → List ByteArray := fun n => if n < 64 then str ((S.safe[n]?).getD []) :: (S.pend n).map str else []
theorem may_flush (S : St) (h : S.safe.length = 64) : (fun n => if n < 64 then [str (S.newest n)] else []) = mayS S.burn.flushed := by
  funext n
  unfold mayS
  by_cases e : n < 64
  · rw [if_pos e, if_pos e, newest_flushed S n (by omega)]
    rfl
  · rw [if_neg e, if_neg e]
theorem may_then (S : St) (k : Nat) (hk : k < 64) (L : List UInt8) : mayS (S.burn.wrote k L) = upd (mayS S) k (mayS S k ++ [str L]) := by
  funext n
  unfold mayS upd
  show (if n < 64 then str ((S.safe[n]?).getD []) :: (putP S.pend k L n).map str else []) = _
  unfold putP
  by_cases e : n = k
  · subst e; simp [hk]
  · simp [e]
theorem may_has (S : St) (ps : List Int) (n : Nat) (hn : n < 64) (h : S.safe.length = 64) : str ((S.crash ps).newest n) ∈ mayS S n := by
  unfold mayS
  rw [if_pos hn]
  rcases crash_mem S ps n (by omega) with h1 | h1
  · rw [h1]; exact List.mem_cons_self
  · exact List.mem_cons_of_mem _ (List.mem_map.2 ⟨_, h1, rfl⟩)
end Go.Proofs.Ytdcggplmoiodjaa
