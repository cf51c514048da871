/-
  DERIVED. The walk of Get.
-/
import Derived.Test.YtankbanonbmffabGreatDoorRqG
namespace Go.Proofs.YtankbanonbmffabGreatDoor
open Go.RowKit
set_option linter.unusedVariables false

/-- A request as a value. -/
def rqV (m p q : List UInt8) (hv : Value) (b : List UInt8) (cl : Bool) : Array Value := #[qv m, qv p, qv q, hv, qv b, .bool cl]

/-- How far Get is. -/
def getSt (hs : List Hd) (n : List UInt8) (k : Nat) (v : List UInt8) (c : Nat) : Prop := qGet (hs.take k) n = (v, c) ∧ c ≤ k
theorem getSt.start (hs : List Hd) (n : List UInt8) : getSt hs n 0 [] 0 := ⟨rfl, Nat.le_refl _⟩
theorem filter_head (l : List Hd) (h : Hd) : ((l ++ [h]).head?.map (·.2)).getD [] = if l.length = 0 then h.2 else ((l.head?).map (·.2)).getD [] := by
  cases l <;> simp
theorem getSt.hit {hs : List Hd} {n : List UInt8} {k : Nat} {v : List UInt8} {c : Nat} (h : getSt hs n k v c) {x : Hd} (hx : hs[k]? = some x) (e : x.1 = n) : getSt hs n (k + 1) (if c = 0 then x.2 else v) (c + 1) := by
  obtain ⟨h1, h2⟩ := h
  refine ⟨?_, by omega⟩
  unfold qGet at h1 ⊢
  rw [List.take_add_one, hx]
  have hf : ((hs.take k ++ (some x).toList).filter (·.1 == n)) = (hs.take k).filter (·.1 == n) ++ [x] := by simp [List.filter_append, e]
  rw [hf, filter_head, List.length_append]
  simp only [Prod.mk.injEq] at h1
  rw [h1.1, h1.2]
  simp
theorem getSt.miss {hs : List Hd} {n : List UInt8} {k : Nat} {v : List UInt8} {c : Nat} (h : getSt hs n k v c) {x : Hd} (hx : hs[k]? = some x) (e : x.1 ≠ n) : getSt hs n (k + 1) v c := by
  obtain ⟨h1, h2⟩ := h
  refine ⟨?_, by omega⟩
  unfold qGet at h1 ⊢
  rw [List.take_add_one, hx]
  have hf : ((hs.take k ++ (some x).toList).filter (·.1 == n)) = (hs.take k).filter (·.1 == n) := by simp [List.filter_append, e]
  rw [hf]; exact h1
theorem getSt.done {hs : List Hd} {n : List UInt8} {k : Nat} {v : List UInt8} {c : Nat} (h : getSt hs n k v c) (hk : ¬ k < hs.length) : qGet hs n = (v, c) := by
  have := h.1
  rwa [List.take_of_length_le (by omega)] at this

/-- A header line's box. -/
theorem hbox_cells {w : World} {q : Nat} {a b : List UInt8} (h : w.heap[q]? = some (.cells #[qv a, qv b] 40 (0, 0))) : w.cell? ⟨q, 0, none⟩ = some (qv a) ∧ w.cell? ⟨q, 1, none⟩ = some (qv b) :=
  ⟨(cell_of_row _ _ _ _ _ _ h).trans rfl, (cell_of_row _ _ _ _ _ _ h).trans rfl⟩

set_option maxHeartbeats 4000000 in
theorem qGet_any (m p q : List UInt8) (hv : Value) (b : List UInt8) (cl : Bool) (hs : List Hd) (n : List UInt8) (w : World) (h : HdL w hv hs) (hsm : ∀ x ∈ hs, x.2.length ≤ 281474976710656) (hlen : hs.length ≤ 4398046511104) :
    Calls Tryz.prog 6 #[.agg (rqV m p q hv b cl), qv n] w fun e w' => e = .returned (.tuple #[qv (qGet hs n).1, .int .i64 ((qGet hs n).2 : Int)]) ∧ Below w.heap.size w w' := by
  obtain ⟨ao, cap, rfl, g1, g2, g4⟩ := id h
  obtain ⟨N, hN⟩ : ∃ N, N = hs.length := ⟨_, rfl⟩
  have HN := hide hN
  have H4 := hide g4
  have HB0 := hide ((Below.refl w.heap.size w).alloc (Nat.le_refl _) (.cells (rqV m p q (.slice ao hs.length cap) b cl) 27))
  have HSM := hide hsm
  rw [← hN] at g1 HB0 hlen ⊢
  unfold rqV at HB0 ⊢
  clear g4 hN h hsm
  go_enter Tryz.func6, Tryz.ntmps6
  go_wp2_with fail
  go_loopw [6, 7, 9, 13] (fun v c _ i wr => ∃ (k cn : Nat) (vv : List UInt8), k ≤ N ∧ v = qv vv ∧ c = .int .i64 (cn : Int) ∧ i = .int .i64 k ∧ Hid (getSt hs n k vv cn) ∧ Hid (Below w.heap.size w wr)) (fun _ _ _ i _ => N - (intOf i).toNat)
  case atStart => exact ⟨0, 0, [], by omega, rfl, rfl, rfl, hide (getSt.start hs n), HB0⟩
  case round =>
    clear HB0
    obtain ⟨k, cn, vv, hk, rfl, rfl, rfl, HG, HB⟩ := hrel
    have hcn := (unhide HG).2
    by_cases hlt : k < N
    · have hkl : k < hs.length := by have := unhide HN; omega
      obtain ⟨bk, off, rfl, hb, hc⟩ := unhide H4 (by omega)
      obtain ⟨c0, c1⟩ := hc k hkl
      obtain ⟨f, hf⟩ : ∃ f, f = hs[k] := ⟨_, rfl⟩
      rw [← hf] at c0 c1
      have hfk : hs[k]? = some f := by rw [hf]; exact List.getElem?_eq_getElem hkl
      have hfs := unhide HSM f (by rw [hf]; exact List.getElem_mem hkl)
      have d0 := ((unhide HB).cell (p := ⟨bk, off + k * 2, none⟩) hb).trans c0
      have d1 := ((unhide HB).cell (p := ⟨bk, off + k * 2 + 1, none⟩) hb).trans c1
      have hsz := (unhide HB).size
      have HBx := hide ((unhide HB).alloc hsz (.cells #[qv f.1, qv f.2] 40))
      have HCl := hide (fun W => sClone_any f.2 W hfs)
      clear hf hc c0 c1 hfs
      obtain ⟨fn, fs⟩ := f
      simp only at d0 d1 HBx HCl
      by_cases he : fn = n
      · have HH := hide ((unhide HG).hit hfk he)
        have hbq : (fn == n) = true := beq_iff_eq.2 he
        have hbn : (fn != n) = false := by rw [bne, hbq]; rfl
        by_cases hz : cn = 0
        · rw [if_pos hz] at HH
          subst hz
          clear he hfk
          go_wp2_with (go_at_call 11; refine (unhide HCl _).mono ?_; rintro e w2 ⟨rfl, b2⟩; have HB2 := hide ((unhide HBx).trans (b2.mono (unhide HBx).size)); clear b2)
          go_roundw
          case rel => exact ⟨k + 1, 0 + 1, fs, by omega, rfl, by go_num, by go_num, HH, HB2⟩
          case measure => simp [intOf]; omega
        · rw [if_neg hz] at HH
          have hz' : ((cn : Int) == 0) = false := by rw [beq_eq_false_iff_ne]; omega
          clear he hfk hz
          go_wp2_with fail
          go_roundw
          case rel => exact ⟨k + 1, cn + 1, vv, by omega, rfl, by go_num, by go_num, HH, HBx⟩
          case measure => simp [intOf]; omega
      · have HH := hide ((unhide HG).miss hfk he)
        have hbq : (fn == n) = false := beq_eq_false_iff_ne.2 he
        have hbn : (fn != n) = true := by rw [bne, hbq]; rfl
        clear he hfk
        go_wp2_with fail
        go_roundw
        case rel => exact ⟨k + 1, cn, vv, by omega, rfl, rfl, by go_num, HH, HBx⟩
        case measure => simp [intOf]; omega
    · have HD := hide ((unhide HG).done (by have := unhide HN; omega))
      go_wp2_with fail
      go_ret2
      rw [unhide HD]
      exact ⟨rfl, unhide HB⟩
end Go.Proofs.YtankbanonbmffabGreatDoor
