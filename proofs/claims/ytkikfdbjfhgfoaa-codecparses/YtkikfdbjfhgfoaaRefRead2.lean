/-
  DERIVED. The walks of the document's Int, Text, U32.
-/
import Derived.Test.YtkikfdbjfhgfoaaRefRead
namespace Go.Proofs.Ytkikfdbjfhgfoaa
open Go.RowKit
set_option linter.unusedVariables false

theorem rUint_at (v : Value) (l : List UInt8) (n k e : Nat) (w : World) (hv : Sl w v l) (h : rd l = (n, k, e)) :
    Calls Try.prog 49 #[v] w fun o w' => o = .returned (.tuple #[.int .u64 n, .int .i64 k, .int .i64 e]) ∧ Below w.heap.size w w' := by
  have := rUint_any v l w hv
  rw [h] at this
  exact this

set_option maxHeartbeats 1000000 in
theorem rInt_any (v : Value) (l : List UInt8) (w : World) (hv : Sl w v l) :
    Calls Try.prog 34 #[v] w fun e w' => e = .returned (.tuple #[.int .i64 (rdI l), .int .i64 (rd l).2.1, .int .i64 (rd l).2.2]) ∧ Below w.heap.size w w' := by
  obtain ⟨f1, f2, f3, f4⟩ := rd_facts l
  unfold rdI
  obtain ⟨n, k, e, hr⟩ : ∃ n k e, rd l = (n, k, e) := ⟨_, _, _, rfl⟩
  rw [hr] at f1 f2 f3 f4 ⊢
  simp only at f1 f2 f3 f4 ⊢
  have HR := hide hr
  clear hr f4
  by_cases he : e = 0
  · subst he
    rw [if_pos rfl]
    clear f2 f3
    by_cases ho : n % 2 = 1
    · have hb : ((n : Int) % 2 == 0) = false := beq_eq_false_iff_ne.2 (by omega)
      have HU : Hid (unz n = -((n : Int) / 2) - 1) := hide (by unfold unz; rw [if_pos ho]; omega)
      go_enter Try.func34, Try.ntmps34
      go_wp2_with (go_at_call 49; refine (rUint_at v l n k 0 _ hv (unhide HR)).mono ?_; rintro e w' ⟨rfl, hbel⟩; have HB := hide hbel; clear hbel)
      go_ret3
      rw [unhide HU]
      exact ⟨ret3 (by first | rfl | omega | ((try simp only [IntKind.wrap_i64]); omega)) rfl rfl, unhide HB⟩
    · have hb : ((n : Int) % 2 == 0) = true := beq_iff_eq.2 (by omega)
      have HU : Hid (unz n = (n : Int) / 2) := hide (by unfold unz; rw [if_neg ho]; omega)
      go_enter Try.func34, Try.ntmps34
      go_wp2_with (go_at_call 49; refine (rUint_at v l n k 0 _ hv (unhide HR)).mono ?_; rintro e w' ⟨rfl, hbel⟩; have HB := hide hbel; clear hbel)
      go_ret3
      rw [unhide HU]
      exact ⟨ret3 (by first | rfl | omega | ((try simp only [IntKind.wrap_i64]); omega)) rfl rfl, unhide HB⟩
  · rw [if_neg he]
    obtain ⟨rfl, rfl⟩ := f3 he
    have hne : ((e : Int) != 0) = true := by rw [bne_iff_ne]; omega
    clear f1 f2 f3
    go_enter Try.func34, Try.ntmps34
    go_wp2_with (go_at_call 49; refine (rUint_at v l 0 0 e _ hv (unhide HR)).mono ?_; rintro e w' ⟨rfl, hbel⟩; have HB := hide hbel; clear hbel)
    go_ret3
    exact ⟨rfl, unhide HB⟩

set_option maxHeartbeats 1000000 in
set_option maxRecDepth 100000 in
theorem rText_any (v : Value) (l : List UInt8) (most : Int) (w : World) (hv : Sl w v l) (hm0 : -9223372036854775808 ≤ most) (hm : most ≤ 9223372036854775807) :
    Calls Try.prog 48 #[v, .int .i64 most] w fun e w' => e = .returned (.tuple #[.string ⟨(pcD l most).toArray⟩, .int .i64 (pcK l most : Nat), .int .i64 (pcE l most : Nat)]) ∧ Below w.heap.size w w' := by
  have hf := rd_facts l
  have hp : pcE l most = if (rd l).2.2 ≠ 0 then (rd l).2.2 else if most < 0 ∨ most < (rd l).1 then 12 else if l.length - (rd l).2.1 < (rd l).1 then 10 else 0 := rfl
  have hq : pcK l most = if pcE l most = 0 then (rd l).2.1 + (rd l).1 else 0 := rfl
  have hd : pcD l most = if pcE l most = 0 then (l.drop (rd l).2.1).take (rd l).1 else [] := rfl
  obtain ⟨n, k, e, hr⟩ : ∃ n k e, rd l = (n, k, e) := ⟨_, _, _, rfl⟩
  rw [hr] at hf hp hq hd
  simp only at hf hp hq hd
  obtain ⟨f1, f2, f3, f4⟩ := hf
  by_cases he : e = 0
  · subst he
    rw [if_neg (by simp)] at hp
    obtain ⟨g1, g2, g3⟩ := f4 rfl
    clear f4 f3 f2
    by_cases hA : most < 0 ∨ most < n
    · rw [if_pos hA] at hp
      rw [hp] at hq hd ⊢
      rw [if_neg (by decide)] at hq hd
      rw [hq, hd]
      clear hp hq hd
      by_cases hneg : most < 0
      all_goals
        go_enter Try.func48, Try.ntmps48
        go_wp2_with (go_at_call 49; refine (rUint_at v l n k 0 _ hv hr).mono ?_; rintro e w' ⟨rfl, hbel⟩; have HB := hide hbel; clear hbel)
        go_ret3
        exact ⟨rfl, unhide HB⟩
    · rw [if_neg hA] at hp
      by_cases hB : l.length - k < n
      · rw [if_pos hB] at hp
        rw [hp] at hq hd ⊢
        rw [if_neg (by decide)] at hq hd
        rw [hq, hd]
        clear hp hq hd
        obtain ⟨ao, cap, rfl, h1, h2, h4⟩ := id hv
        unfold maxLen at h2
        clear h4
        have hm2 : 0 ≤ most := by omega
        have hm3 : (n : Int) ≤ most := by omega
        clear hA
        go_enter Try.func48, Try.ntmps48
        go_wp2_with (go_at_call 49; refine (rUint_at _ l n k 0 _ hv hr).mono ?_; rintro e w' ⟨rfl, hbel⟩; have HB := hide hbel; clear hbel)
        go_ret3
        exact ⟨rfl, unhide HB⟩
      · rw [if_neg hB] at hp
        rw [hp] at hq hd ⊢
        rw [if_pos rfl] at hq hd
        rw [hq, hd]
        clear hp hq hd
        have hv0 := hide hv
        rcases hv.cases with ⟨rfl, ao, rfl⟩ | ⟨b, off, cap, rfl, h1, h2, h3, hc⟩
        · simp at g2; omega
        · have hm2 : 0 ≤ most := by omega
          have hm3 : (n : Int) ≤ most := by omega
          have hkn : k + n ≤ l.length := by omega
          clear hA hB
          have HC := hide (Sl.cut b off cap l h3 h1 h2 hc k n hkn)
          have HZ : Hid (Sl w (.slice (some ⟨b, off, none⟩) 0 0) []) := hide (Sl.mk b off 0 [] h3 (by simp) (by omega) (fun i hi => by simp at hi))
          clear hc hv
          by_cases hcap : cap = k
          · subst hcap
            obtain rfl : n = 0 := by omega
            go_enter Try.func48, Try.ntmps48
            go_wp2_with (go_at_call 49; refine (rUint_at _ l 0 cap 0 _ (unhide hv0) hr).mono ?_; rintro e w1 ⟨rfl, hbel⟩; have HB := hide hbel; have hst0 := ((unhide HZ).below hbel (Nat.le_refl _)).str; clear hbel)
            go_ret3
            exact ⟨by simp, unhide HB⟩
          · go_enter Try.func48, Try.ntmps48
            go_wp2_with (go_at_call 49; refine (rUint_at _ l n k 0 _ (unhide hv0) hr).mono ?_; rintro e w1 ⟨rfl, hbel⟩; have HB := hide hbel; have hst := ((unhide HC).below hbel (Nat.le_refl _)).str; clear hbel)
            go_ret3
            exact ⟨rfl, unhide HB⟩
  · rw [if_pos he] at hp
    rw [hp] at hq hd ⊢
    rw [if_neg he] at hq hd
    rw [hq, hd]
    have hne : ((e : Int) != 0) = true := by rw [bne_iff_ne]; omega
    clear f1 f2 f3 f4 hp hq hd
    go_enter Try.func48, Try.ntmps48
    go_wp2_with (go_at_call 49; refine (rUint_at v l n k e _ hv hr).mono ?_; rintro e w' ⟨rfl, hbel⟩; have HB := hide hbel; clear hbel)
    go_ret3
    exact ⟨rfl, unhide HB⟩

end Go.Proofs.Ytkikfdbjfhgfoaa
