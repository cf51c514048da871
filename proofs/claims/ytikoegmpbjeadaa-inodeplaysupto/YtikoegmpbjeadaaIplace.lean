/-
  DERIVED. place, At.
-/
import Derived.Test.YtikoegmpbjeadaaIfun
import Derived.WalkMore
namespace Go.Proofs.Ytikoegmpbjeadaa
open Go.RowKit
set_option linter.unusedVariables false

theorem tot_take (X : List (Nat × Nat)) (r : Nat) (h : r < X.length) : tot (X.take (r + 1)) = tot (X.take r) + X[r].2 := by
  rw [List.take_succ_eq_append_getElem h, tot_append]
  simp [tot, bks_one]

set_option maxHeartbeats 2000000 in
theorem place_any (w : World) (b n : Nat) (v : Value) (L : List Nat) (h : NdAt w b n v L) (k : Nat) (hk : k < L.length) :
    Calls Try.prog 41 #[.pointer (some ⟨b, 0, none⟩), .int .i64 (k : Int)] w fun e w' => ∃ r j : Nat, e = .returned (.tuple #[.int .i64 (r : Int), .int .i64 (j : Int)]) ∧ In (canon L) k r j ∧ w' = w := by
  have c1 := h.val
  have hs := h.small
  have hT := tot_canon L
  have hpos := (norm_canon L).pos
  obtain ⟨ao, cap, hv, hv1, hv2, hv4⟩ := h.runs.form
  have hlow : ∀ x ∈ canon L, x.1 + x.2 ≤ 512 := fun x hx => ((low_canon h.lw) x hx).2
  clear h
  obtain ⟨X, hX⟩ : ∃ X, X = canon L := ⟨_, rfl⟩
  rw [← hX] at hv hv1 hv4 hT hpos hs hlow ⊢
  clear hX
  subst hv
  obtain ⟨q, hq⟩ : ∃ q, q = X.length := ⟨_, rfl⟩
  rw [← hq] at c1 hv1 hs
  have HQ := hide hq
  have HT : Hid (k < tot X) := hide (by omega)
  have hkI : (k : Int) ≤ 64 := by omega
  have hqI : (q : Int) ≤ 64 := by omega
  have H4 := hide hv4
  clear hv4 hT hq
  go_enter Try.func41, Try.ntmps41
  go_wp2
  go_step3
  go_wp2
  go_step3
  go_wp2
  go_loopw [1, 11] (fun s i wr => ∃ (r y : Nat), i = .int .i64 (r : Int) ∧ s = .int .i64 (y : Int) ∧ r ≤ q ∧ Hid (tot (X.take r) + y = k) ∧ wr = w) (fun _ i _ => q - (intOf i).toNat)
  case atStart => exact ⟨0, k, rfl, rfl, by omega, hide (by simp [tot, bks]), rfl⟩
  case round =>
    obtain ⟨r, y, rfl, rfl, hr, HK, rfl⟩ := hrel
    have hyk : (y : Int) ≤ 64 := by have := unhide HK; omega
    by_cases hlt : r < q
    · have hlt' : (r : Int) < (q : Int) := by omega
      have hrl : r < X.length := by rw [← unhide HQ]; exact hlt
      obtain ⟨g, rfl, _, hgl, hc⟩ := unhide H4 (by omega)
      obtain ⟨d0, d1⟩ := hc r hrl
      have HTk := hide (tot_take X r hrl)
      have hx2 := hlow X[r] (List.getElem_mem hrl)
      obtain ⟨x, hx⟩ : ∃ x, x = X[r] := ⟨_, rfl⟩
      rw [← hx] at d0 d1 HTk hx2
      have HX := hide hx
      clear hx hc hlt
      obtain ⟨x1, x2⟩ := x
      simp only at d0 d1 hx2
      have hx2I : (x2 : Int) ≤ 512 := by omega
      go_wp2
      go_loopw [1, 22] (fun s i wr2 => ∃ (j z : Nat), i = .int .i64 (j : Int) ∧ s = .int .i64 (z : Int) ∧ j ≤ x2 ∧ Hid (tot (X.take r) + j + z = k) ∧ wr2 = wr) (fun _ i _ => x2 - (intOf i).toNat)
      case atStart => exact ⟨0, y, rfl, rfl, by omega, hide (by have := unhide HK; omega), rfl⟩
      case round =>
        obtain ⟨j, z, rfl, rfl, hj, HK2, rfl⟩ := hrel
        have hzk : (z : Int) ≤ 64 := by have := unhide HK2; omega
        by_cases hjl : j < x2
        · have hjl' : (j : Int) < (x2 : Int) := by omega
          by_cases hz : z = 0
          · subst hz
            go_wp2
            try rw [Exit.noGoto_ret]
            go_ret2
            refine ⟨r, j, rfl, ⟨hrl, ?_, by have := unhide HK2; omega⟩, rfl⟩
            rw [← unhide HX]
            exact hjl
          · have hz' : ¬ (z : Int) = 0 := by omega
            have hz2 : (1 : Int) ≤ (z : Int) := by omega
            go_wp2
            go_roundw
            case rel => exact ⟨j + 1, z - 1, rfl, by rw [Int.natCast_sub (by omega)]; rfl, by omega, hide (by have := unhide HK2; omega), by first | rfl | trivial⟩
            case measure => simp [intOf]; omega
        · have hjl' : ¬ (j : Int) < (x2 : Int) := by omega
          go_wp2
          go_roundw
          case rel => exact ⟨r + 1, z, rfl, rfl, by omega, hide (by
            rw [unhide HTk]
            have := unhide HK2
            omega), by first | rfl | trivial⟩
          case measure => simp [intOf]; omega
    · exfalso
      have h1 := unhide HK
      have h2 := unhide HT
      rw [List.take_of_length_le (by have := unhide HQ; omega)] at h1
      omega

theorem At_ok (w : World) (b n : Nat) (v : Value) (L : List Nat) (h : NdAt w b n v L) (k : Nat) (hk : k < n) :
    Calls Try.prog 23 #[.pointer (some ⟨b, 0, none⟩), .int .i64 (k : Int)] w fun e w' => ∃ c : Nat, e = .returned (.tuple #[.int .i64 (c : Int), .int .i64 ((k % 512 : Nat) : Int), .int .i64 0]) ∧ L[k / 512]? = some c ∧ w' = w := by
  have c0 := h.num
  have c1 := h.val
  have hle := h.le
  have hkl : k / 512 < L.length := by rw [h.len]; unfold bf; omega
  have HM := hide h
  have hlow : ∀ x ∈ canon L, x.1 + x.2 ≤ 512 := fun x hx => ((low_canon h.lw) x hx).2
  obtain ⟨ao, cap, rfl, hv1, hv2, hv4⟩ := h.runs.form
  have H4 := hide hv4
  have hsm := h.small
  clear h hv4
  have h1 : ¬ (k : Int) < 0 := by omega
  have h2 : ¬ (n : Int) ≤ (k : Int) := by omega
  have h3 : (k : Int) ≤ 32768 := by omega
  go_enter Try.func23, Try.ntmps23
  go_wp2_with fail
  rw [show (k : Int) / 512 = ((k / 512 : Nat) : Int) by omega]
  refine (place_any w b n _ L (unhide HM) (k / 512) hkl).mono ?_
  rintro e w1 ⟨r, j, rfl, hin, rfl⟩
  have hr := hin.lt
  have hj := hin.kl
  have HB := hide hin.block
  obtain ⟨g, rfl, _, _, hc⟩ := unhide H4 (by omega)
  obtain ⟨d0, d1⟩ := hc r hr
  have hx := hlow _ (List.getElem_mem hr)
  obtain ⟨x, hx0⟩ : ∃ x, x = (canon L)[r] := ⟨_, rfl⟩
  rw [← hx0] at d0 d1 HB hx hj
  clear hx0 hc hin
  obtain ⟨x1, x2⟩ := x
  simp only at d0 d1 HB hx hj
  have hrI : (r : Int) < ((canon L).length : Int) := by omega
  have hxI : (x1 : Int) + (j : Int) ≤ 512 := by omega
  go_wp2
  go_ret3
  refine ⟨x1 + j, rfl, ?_, rfl⟩
  have hB := unhide HB
  rw [bks_canon] at hB
  exact hB
theorem At_far (w : World) (b n : Nat) (v : Value) (L : List Nat) (h : NdAt w b n v L) (k : Int) (hk : k < 0 ∨ (n : Int) ≤ k) (h9 : k ≤ 9223372036854775807) :
    Calls Try.prog 23 #[.pointer (some ⟨b, 0, none⟩), .int .i64 k] w fun e w' => e = .returned (.tuple #[.int .i64 0, .int .i64 0, .int .i64 60]) ∧ w' = w := by
  have c0 := h.num
  clear h
  by_cases h1 : k < 0
  · clear hk
    go_enter Try.func23, Try.ntmps23
    go_wp2
    go_ret3
    exact ⟨rfl, rfl⟩
  · have h2 : (n : Int) ≤ k := by omega
    clear hk
    go_enter Try.func23, Try.ntmps23
    go_wp2
    go_ret3
    exact ⟨rfl, rfl⟩
theorem At_nil (w : World) (k : Int) : Calls Try.prog 23 #[.pointer none, .int .i64 k] w fun e w' => e = .returned (.tuple #[.int .i64 0, .int .i64 0, .int .i64 1]) ∧ w' = w := by
  go_enter Try.func23, Try.ntmps23
  go_wp2
  go_ret3
  exact ⟨rfl, rfl⟩
end Go.Proofs.Ytikoegmpbjeadaa
