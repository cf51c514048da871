/-
  DERIVED. drop: a run given back.
-/
import Derived.Test.YtmnmciajldoabaaArun
import Derived.BigQuiet
namespace Go.Proofs.Ytmnmciajldoabaa
open Go.RowKit
set_option linter.unusedVariables false

def ri (x : Int × Int) : Value := .agg #[.int .i64 x.1, .int .i64 x.2]

theorem grown_drewN {w w' : World} {row : Option Nat} (h : w.grownBy w' row) (n : Nat) : w.grownBy (w'.drewN n) row := ⟨h.os, h.tape, h.output, h.size, h.block⟩
theorem MapAt.drewN {w : World} {b B : Nat} {U V : Nat → Bool} (h : MapAt w b B U V) (n : Nat) : MapAt (w.drewN n) b B U V := ⟨h.blk, h.le⟩

def DropPost (w : World) (b B : Nat) (U V : Nat → Bool) (x : Int × Int) (e : Ending) (w' : World) : Prop :=
  e = .returned (.bool (dropR B U x).isSome) ∧ (∃ U', MapAt w' b B U' V ∧ ∀ U1, dropR B U x = some U1 → U' = U1) ∧ w.grownBy w' (some b)

set_option maxHeartbeats 2000000 in
set_option maxRecDepth 20000 in
theorem drop_any (w : World) (b B : Nat) (x : Int × Int) (U V : Nat → Bool) (h : MapAt w b B U V) (hx1 : -9223372036854775808 ≤ x.1) (hx2 : x.1 ≤ 9223372036854775807) (hl1 : -9223372036854775808 ≤ x.2) (hl2 : x.2 ≤ 9223372036854775807) :
    Calls Try.prog 29 #[.pointer (some ⟨b, 0, none⟩), ri x] w (DropPost w b B U V x) := by
  obtain ⟨x, l⟩ := x
  simp only at hx1 hx2 hl1 hl2
  unfold ri
  simp only
  have hB := h.le
  have hb := h.lt
  have hne : b ≠ w.heap.size := by omega
  have h' := h.alloc (.cells #[.int .i64 x, .int .i64 l] 36)
  have c0 := h'.num
  have hBi : (B : Int) ≤ 512 := by omega
  have hNo : Hid (x < 0 ∨ l < 1 ∨ l > B - x → ∀ w', w.grownBy w' (some b) → MapAt w' b B U V → DropPost w b B U V (x, l) (.returned (.bool false)) w') := hide (fun hq w' hg hm => by
    have e : dropR B U (x, l) = none := by simp only [dropR]; rw [if_pos hq]
    exact ⟨by rw [e]; rfl, ⟨U, hm, fun U1 h1 => by rw [e] at h1; cases h1⟩, hg⟩)
  have HM := hide h'
  have HG : Hid (w.grownBy (w.alloc (.cells #[.int .i64 x, .int .i64 l] 36)) (some b)) := hide (World.grownBy_alloc _ _ _)
  clear h'
  by_cases h1 : x < 0
  · clear h
    have h1' : decide (x < 0) = true := decide_eq_true h1
    go_enter Try.func29, Try.ntmps29
    go_wp2_with fail
    go_quiet (fail)
    go_wp2
    go_ret
    exact unhide hNo (.inl h1) _ (grown_drewN (unhide HG) _) ((unhide HM).drewN _)
  · have h1' : decide (x < 0) = false := decide_eq_false h1
    by_cases h2 : l < 1
    · clear h
      have h2' : decide (l < 1) = true := decide_eq_true h2
      go_enter Try.func29, Try.ntmps29
      go_wp2_with fail
      go_quiet (fail)
      go_wp2
      go_ret
      exact unhide hNo (.inr (.inl h2)) _ (grown_drewN (unhide HG) _) ((unhide HM).drewN _)
    · have h2' : decide (l < 1) = false := decide_eq_false h2
      by_cases h3 : l > B - x
      · clear h
        have h3' : decide ((B : Int) - x < l) = true := decide_eq_true h3
        go_enter Try.func29, Try.ntmps29
        go_wp2_with fail
        go_quiet (fail)
        go_wp2
        go_ret
        exact unhide hNo (.inr (.inr h3)) _ (grown_drewN (unhide HG) _) ((unhide HM).drewN _)
      · have h3' : decide ((B : Int) - x < l) = false := decide_eq_false h3
        have hE : Hid (dropR B U (x, l) = dropGo l.toNat x.toNat U) := hide (by simp only [dropR]; rw [if_neg (by omega)])
        clear hNo
        go_enter Try.func29, Try.ntmps29
        go_wp2_with fail
        go_quiet (fail)
        go_wp2
        go_loopw [5] (fun i wr => ∃ (k : Nat) (Uk : Nat → Bool), i = .int .i64 (x + (k : Int)) ∧ (k : Int) ≤ l ∧ MapAt wr b B Uk V ∧ Hid (dropR B U (x, l) = dropGo (l.toNat - k) (x.toNat + k) Uk) ∧ w.grownBy wr (some b) ∧ wr.cell? ⟨w.heap.size, 0, none⟩ = some (.int .i64 x) ∧ wr.cell? ⟨w.heap.size, 1, none⟩ = some (.int .i64 l)) (fun i _ => (x + l).toNat - (intOf i).toNat)
        case atStart => exact ⟨0, U, by simp, by omega, (unhide HM).drewN _, hide (by rw [unhide hE]; simp), grown_drewN (unhide HG) _, (cell_of_row _ _ 0 _ _ (0, 0) (heap_alloc_new w (.cells #[.int .i64 x, .int .i64 l] 36))).trans rfl, (cell_of_row _ _ 1 _ _ (0, 0) (heap_alloc_new w (.cells #[.int .i64 x, .int .i64 l] 36))).trans rfl⟩
        case round =>
          obtain ⟨k, Uk, rfl, hk, hm, HE, hg, d0, d1⟩ := hrel
          obtain ⟨j, hj⟩ : ∃ j : Nat, (j : Int) = x + k := ⟨(x + k).toNat, by omega⟩
          rw [← hj]
          have hj0 : (j : Int) ≤ 512 := by omega
          have hs512 : x + l ≤ 512 := by omega
          by_cases hlt : (k : Int) < l
          · have hlt' : (j : Int) < x + l := by omega
            have hj5 : (j : Int) < 512 := by omega
            have cU := hm.used (n := j) (by omega)
            have cf := hm.frozen (1 + j)
            have ej : x.toNat + k = j := by omega
            have ek : l.toNat - k = (l.toNat - (k + 1)) + 1 := by omega
            cases hU : Uk j with
            | false =>
              rw [hU] at cU
              have HN : Hid (dropR B U (x, l) = none) := hide (by rw [unhide HE, ek, ej]; simp [dropGo, hU])
              have HM2 := hide hm
              have HG2 := hide hg
              clear hj hm hg h ej ek HE hE
              go_wp2
              go_ret
              exact ⟨by rw [unhide HN]; rfl, ⟨Uk, unhide HM2, fun U1 h1 => by rw [unhide HN] at h1; cases h1⟩, unhide HG2⟩
            | true =>
              rw [hU] at cU
              have HE2 : Hid (dropR B U (x, l) = dropGo (l.toNat - (k + 1)) (x.toNat + (k + 1)) (fun q => if q = j then false else Uk q)) := hide (by
                rw [unhide HE, ek, ej, dropGo, if_pos hU]
                rw [show j + 1 = x.toNat + (k + 1) by omega])
              have HM2 := hide (hm.set j (by omega) false)
              have HG2 : Hid (w.grownBy (wr.setCell ⟨b, 1 + j, none⟩ (.bool false)) (some b)) := hide (hg.trans (setCell_grown wr b (1 + j) _))
              have e0 : Hid ((wr.setCell ⟨b, 1 + j, none⟩ (.bool false)).cell? ⟨w.heap.size, 0, none⟩ = some (.int .i64 x)) := hide (by rw [World.cell?_setCell_other _ _ _ _ (fun e => hne (congrArg Addr.block e))]; exact d0)
              have e1 : Hid ((wr.setCell ⟨b, 1 + j, none⟩ (.bool false)).cell? ⟨w.heap.size, 1, none⟩ = some (.int .i64 l)) := hide (by rw [World.cell?_setCell_other _ _ _ _ (fun e => hne (congrArg Addr.block e))]; exact d1)
              have HJ := hide hj
              clear hj hm hg h ej ek HE hE
              go_wp2
              go_roundw
              case rel => exact ⟨k + 1, _, by have := unhide HJ; congr 1; omega, by omega, unhide HM2, HE2, unhide HG2, unhide e0, unhide e1⟩
              case measure => simp [intOf]; omega
          · have hlt' : ¬ (j : Int) < x + l := by omega
            have HN : Hid (dropR B U (x, l) = some Uk) := hide (by rw [unhide HE, show l.toNat - k = 0 by omega]; rfl)
            have HM2 := hide hm
            have HG2 := hide hg
            clear hj hm hg h HE hE
            go_wp2
            go_ret
            exact ⟨by rw [unhide HN]; rfl, ⟨Uk, unhide HM2, fun U1 h1 => by rw [unhide HN] at h1; cases h1; rfl⟩, unhide HG2⟩
end Go.Proofs.Ytmnmciajldoabaa
