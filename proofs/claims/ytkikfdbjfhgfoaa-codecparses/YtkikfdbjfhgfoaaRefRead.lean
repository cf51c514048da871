/-
  DERIVED. The walks of the document's Uint, Int, Text, U32.
-/
import Derived.Test.YtkikfdbjfhgfoaaText
import Derived.Test.YtkikfdbjfhgfoaaMath4
namespace Go.Proofs.Ytkikfdbjfhgfoaa
open Go.RowKit
set_option linter.unusedVariables false

theorem rd_next' {l : List UInt8} {k : Nat} {c : UInt8} (hk : k < 10) (hl : k < l.length) (hc : c = l[k]) (h : rd l = rdGo k (valr (l.take k)) (l.drop k)) (h1 : 128 ≤ c.toNat) : rd l = rdGo (k + 1) (valr (l.take (k + 1))) (l.drop (k + 1)) := by
  have := rd_next hk hl hc h h1
  rw [take_snoc' l k hl, valr_snoc, ← hc]
  have e : (l.take k).length = k := by simp; omega
  rw [e]
  exact this

theorem val_step (V : Nat) (c : Nat) : (((V % 18446744073709551616 : Nat) : Int) * 128 % 18446744073709551616 + ((c : Int) % 128) % 18446744073709551616) % 18446744073709551616 = (((c % 128 + 128 * V) % 18446744073709551616 : Nat) : Int) := by omega

set_option maxHeartbeats 4000000 in
set_option maxRecDepth 100000 in
theorem rUint_some (b off cap : Nat) (l : List UInt8) (w : World) (_h1 : l.length ≤ cap) (_h2 : cap ≤ 9223372036854775807) (hb : b < w.heap.size)
    (hc : ∀ i, (h : i < l.length) → w.cell? ⟨b, off + i, none⟩ = some (bv l[i])) :
    Calls Try.prog 49 #[.slice (some ⟨b, off, none⟩) l.length cap] w fun e w' => e = .returned (.tuple #[.int .u64 (rd l).1, .int .i64 (rd l).2.1, .int .i64 (rd l).2.2]) ∧ Below w.heap.size w w' := by
  go_enter Try.func49, Try.ntmps49
  go_wp2
  go_loop [5] (fun i => ∃ k : Nat, k ≤ 10 ∧ k ≤ l.length ∧ i = .int .i64 k ∧ Hid (rd l = rdGo k (valr (l.take k)) (l.drop k))) (fun i => 10 - (intOf i).toNat)
  case atStart => exact ⟨0, by omega, by omega, rfl, hide rfl⟩
  case round =>
    obtain ⟨k, hk1, hk2, rfl, HR⟩ := hrel
    by_cases hk : k < 10 ∧ k < l.length
    · obtain ⟨hk3, hk4⟩ := hk
      have hcx := hc k hk4
      obtain ⟨c, hcc⟩ : ∃ c, c = l[k] := ⟨_, rfl⟩
      rw [← hcc] at hcx
      have Hcc := hide hcc
      have HC := hide hc
      clear hcc hc
      by_cases hA : 128 ≤ c.toNat
      · go_wp2
        go_round
        case rel => exact ⟨k + 1, by omega, by omega, by go_num, hide (rd_next' hk3 hk4 (unhide Hcc) (unhide HR) hA)⟩
        case measure => simp [intOf]; omega
      · have h10 : ((k : Int) == 10) = false := beq_eq_false_iff_ne.2 (by omega)
        have hln : ((k : Int) == (l.length : Int)) = false := beq_eq_false_iff_ne.2 (by omega)
        go_wp2
        go_loop [6, 7] (fun n i => ∃ j : Nat, j ≤ k + 1 ∧ i = .int .i64 ((j : Int) - 1) ∧ n = .int .u64 (valr ((l.take (k + 1)).drop j) % 18446744073709551616 : Nat)) (fun _ i => (intOf i + 1).toNat)
        case atStart => exact ⟨k + 1, by omega, by go_num, by simp [valr]⟩
        case round =>
          obtain ⟨j, hj, rfl, rfl⟩ := hrel
          by_cases hj0 : 1 ≤ j
          · have hjl : j - 1 < l.length := by omega
            have hcj := unhide HC (j - 1) hjl
            have hvd := valr_drop l (k + 1) (j - 1) (by omega) (by omega)
            rw [show j - 1 + 1 = j by omega] at hvd
            obtain ⟨d, hdd⟩ : ∃ d, d = l[j - 1] := ⟨_, rfl⟩
            rw [← hdd] at hcj hvd
            obtain ⟨V, hV⟩ : ∃ V, V = valr ((l.take (k + 1)).drop j) := ⟨_, rfl⟩
            rw [← hV] at hvd ⊢
            have HV := hide hvd
            have hst := val_step V d.toNat
            have HS := hide hst
            clear hvd hV hdd hst
            have hd8 := d.toNat_lt
            clear hcx
            go_wp2
            go_round
            case rel =>
              refine ⟨j - 1, by omega, by go_num, ?_⟩
              rw [unhide HV]
              show Value.int .u64 _ = Value.int .u64 _
              congr 1
              clear HS HV
              (try simp only [IntKind.wrap_u64])
              omega
            case measure => simp [intOf]; omega
          · obtain rfl : j = 0 := by omega
            rw [List.drop_zero]
            have hru := ref_uint l k c (by omega) hk4 (unhide Hcc) (by omega) (unhide HR)
            obtain ⟨N, hN⟩ : ∃ N, N = valr (l.take (k + 1)) % 18446744073709551616 := ⟨_, rfl⟩
            rw [← hN] at hru ⊢
            have hNlt : N ≤ 18446744073709551615 := by omega
            have HRU := hide hru
            clear hru hN
            go_wp2_with fail
            refine (rPutUint_at _ N _ hNlt rfl).mono ?_
            rintro e w1 ⟨v1, rfl, own1, b1⟩
            obtain ⟨ao, cp, rfl, q1, q2, q4⟩ := own1.sl
            have hll := lay_len N
            obtain ⟨m, hm⟩ : ∃ m, m = (lay N).length := ⟨_, rfl⟩
            have HRU2 := unhide HRU
            rw [← hm] at hll q1 HRU2 ⊢
            have HF := hide HRU2
            have cx1 := (b1.cell (p := ⟨b, off + k, none⟩) (by show b < w.heap.size; exact hb)).trans hcx
            have HB := hide b1
            clear own1 b1 q4 hm HRU2 hcx HRU HR q2
            by_cases hmk : m = k + 1
            · subst hmk
              by_cases hk9 : k = 9
              · subst hk9
                by_cases hc1 : 1 < c.toNat
                · have HE := hide ((unhide HF).1 (.inr ⟨rfl, hc1⟩))
                  go_wp2
                  go_ret3
                  rw [unhide HE]
                  exact ⟨rfl, unhide HB⟩
                · have HE := hide ((unhide HF).2 (by omega))
                  go_wp2
                  go_ret3
                  rw [unhide HE]
                  exact ⟨rfl, unhide HB⟩
              · have HE := hide ((unhide HF).2 (by omega))
                have h9 : ((k : Int) == 9) = false := beq_eq_false_iff_ne.2 (by omega)
                have hkk : (((k + 1 : Nat) : Int) != (k : Int) + 1) = false := by simp
                go_wp2
                go_ret3
                rw [unhide HE]
                exact ⟨ret3 rfl (by show _ = ((k + 1 : Nat) : Int); omega) rfl, unhide HB⟩
            · have HE := hide ((unhide HF).1 (.inl hmk))
              have hkk : ((m : Int) != (k : Int) + 1) = true := by rw [bne_iff_ne]; omega
              clear hmk
              go_wp2
              go_ret3
              rw [unhide HE]
              exact ⟨rfl, unhide HB⟩
    · have HF := hide (rd_end (unhide HR) hk hk1 hk2)
      by_cases hk10 : k = 10
      · subst hk10
        go_wp2
        all_goals
          go_ret3
          rw [unhide HF]
          exact ⟨ret3 rfl rfl (by show _ = ((if l.length < 10 then 10 else 11 : Nat) : Int); rw [if_neg (by omega)]; rfl), Below.refl _ _⟩
      · obtain rfl : k = l.length := by omega
        have h10 : ((l.length : Int) == 10) = false := beq_eq_false_iff_ne.2 (by omega)
        go_wp2
        all_goals
          go_ret3
          rw [unhide HF]
          exact ⟨ret3 rfl rfl (by show _ = ((if l.length < 10 then 10 else 11 : Nat) : Int); rw [if_pos (by omega)]; rfl), Below.refl _ _⟩

theorem rUint_any (v : Value) (l : List UInt8) (w : World) (hv : Sl w v l) :
    Calls Try.prog 49 #[v] w fun e w' => e = .returned (.tuple #[.int .u64 (rd l).1, .int .i64 (rd l).2.1, .int .i64 (rd l).2.2]) ∧ Below w.heap.size w w' := by
  rcases hv.cases with ⟨rfl, ao, rfl⟩ | ⟨b, off, cap, rfl, h1, h2, h3, hc⟩
  rotate_left
  · exact rUint_some b off cap l w h1 h2 h3 hc
  · go_enter Try.func49, Try.ntmps49
    go_wp2
    refine wp_loop_rounds 1 ?_
    rw [rounds_succ]
    go_wp2
    go_ret3
    exact ⟨rfl, Below.refl _ _⟩
end Go.Proofs.Ytkikfdbjfhgfoaa
