/-
  DERIVED. SameRuns; Pick; bytes as a string.
-/
import Derived.Test.YtikoegmpbjeadaaImem
namespace Go.Proofs.Ytikoegmpbjeadaa
open Go.RowKit
set_option linter.unusedVariables false

abbrev I64 (x : Int) : Prop := -9223372036854775808 ≤ x ∧ x ≤ 9223372036854775807

theorem Sl.str {w : World} {v : Value} {l : List UInt8} (h : Sl w v l) : (convert 39 9 v).run Try.prog w = .ok (.string ⟨l.toArray⟩) w := by
  rcases h.cases with ⟨rfl, ao, rfl⟩ | ⟨b, off, cap, rfl, h1, h2, hb, hc⟩
  · cases ao with
    | none => exact run_convert_bytes_nil w 39 5 Try.underlying39 Try.underlying5 0 0 9 Try.underlying9
    | some a => exact run_convert_bytes_back w 39 9 5 a 0 [] Try.underlying39 Try.underlying5 Try.underlying9 (fun j hj => by simp at hj)
  · exact run_convert_bytes_back w 39 9 5 ⟨b, off, none⟩ cap l Try.underlying39 Try.underlying5 Try.underlying9 (fun j hj => by rw [addr_add]; exact hc j hj)

theorem Pick_any (c n : Int) (w : World) (h0 : -9223372036854775808 ≤ c) (h1 : c ≤ 9223372036854775807) (hn : 0 < n) (hn2 : n ≤ 9223372036854775807) :
    Calls Try.prog 17 #[.int .i64 c, .int .i64 n] w fun e w' => ∃ k : Nat, e = .returned (.int .i64 k) ∧ (k : Int) < n ∧ w = w' := by
  by_cases hc : c < 0
  · go_enter Try.func17, Try.ntmps17
    go_wp2
    go_ret
    have h2 := Int.emod_nonneg (-(c + 1)) (show n ≠ 0 by omega)
    have h3 := Int.emod_lt_of_pos (-(c + 1)) hn
    have e : -(c + 1).tmod n = -(c + 1) % n := by rw [← Int.neg_tmod, Int.tmod_eq_emod_of_nonneg (by omega)]
    exact ⟨(-(c + 1) % n).toNat, by rw [Int.toNat_of_nonneg h2, ← e]; rfl, by omega, rfl⟩
  · go_enter Try.func17, Try.ntmps17
    go_wp2
    go_ret
    have h2 := Int.emod_nonneg c (show n ≠ 0 by omega)
    have h3 := Int.emod_lt_of_pos c hn
    exact ⟨(c % n).toNat, by rw [Int.toNat_of_nonneg h2]; rfl, by omega, rfl⟩

theorem take_eq_step {α : Type} (l m : List α) (k : Nat) (h1 : k < l.length) (h2 : k < m.length) (h : l.take k = m.take k) (e : l[k] = m[k]) : l.take (k + 1) = m.take (k + 1) := by
  rw [List.take_succ_eq_append_getElem h1, List.take_succ_eq_append_getElem h2, h, e]

set_option maxHeartbeats 2000000 in
theorem SameRuns_any (w : World) (v u : Value) (l m : List (Int × Int)) (hv : Rn w v l) (hu : Rn w u m) :
    Calls Try.prog 25 #[v, u] w fun e w' => e = .returned (.bool (decide (l = m))) ∧ w.grownBy w' none := by
  have HV := hide hv
  have HU := hide hu
  obtain ⟨ao, cap, rfl, h1, h2, _, _⟩ := hv
  obtain ⟨bo, dap, rfl, k1, k2, _, _⟩ := hu
  by_cases hlen : l.length = m.length
  · obtain ⟨n, hn⟩ : ∃ n, n = l.length := ⟨_, rfl⟩
    have hnm : n = m.length := hn.trans hlen
    rw [← hn] at h1 HV ⊢
    rw [← hnm] at k1 HU ⊢
    have hni : (n : Int) ≤ 9223372036854775807 := by omega
    have Hn := hide hn
    have Hm := hide hnm
    clear hn hnm hlen
    go_enter Try.func25, Try.ntmps25
    go_wp2
    go_loopw [5] (fun i wr => ∃ k : Nat, i = .int .i64 (k : Int) ∧ k ≤ n ∧ Hid (l.take k = m.take k) ∧ w.grownBy wr none) (fun i _ => n - (intOf i).toNat)
    case atStart => exact ⟨0, rfl, by omega, hide (by simp), World.grownBy.refl _ _⟩
    case round =>
      obtain ⟨k, rfl, hk, HT, hg⟩ := hrel
      by_cases hlt : k < n
      · have hlt' : (k : Int) < (n : Int) := by omega
        have hkl : k < l.length := by rw [← unhide Hn]; exact hlt
        have hkm : k < m.length := by rw [← unhide Hm]; exact hlt
        obtain ⟨pb, off, hao, hpb, hc⟩ : ∃ pb off, ao = some ⟨pb, off, none⟩ ∧ pb < wr.heap.size ∧ ∀ i, (h : i < l.length) → wr.cell? ⟨pb, off + i * 2, none⟩ = some (.int .i64 l[i].1) ∧ wr.cell? ⟨pb, off + i * 2 + 1, none⟩ = some (.int .i64 l[i].2) := by
          obtain ⟨ao', cap', e, _, _, _, h4⟩ := (unhide HV).kept hg
          cases e
          exact h4 (by omega)
        obtain ⟨qb, qff, hbo, hqb, hd⟩ : ∃ pb off, bo = some ⟨pb, off, none⟩ ∧ pb < wr.heap.size ∧ ∀ i, (h : i < m.length) → wr.cell? ⟨pb, off + i * 2, none⟩ = some (.int .i64 m[i].1) ∧ wr.cell? ⟨pb, off + i * 2 + 1, none⟩ = some (.int .i64 m[i].2) := by
          obtain ⟨ao', cap', e, _, _, _, h4⟩ := (unhide HU).kept hg
          cases e
          exact h4 (by omega)
        subst hao hbo
        obtain ⟨c0, c1⟩ := hc k hkl
        obtain ⟨d0, d1⟩ := hd k hkm
        obtain ⟨x, hx⟩ : ∃ x, x = l[k] := ⟨_, rfl⟩
        obtain ⟨y, hy⟩ : ∃ y, y = m[k] := ⟨_, rfl⟩
        rw [← hx] at c0 c1
        rw [← hy] at d0 d1
        have HX := hide hx
        have HY := hide hy
        obtain ⟨x1, x2⟩ := x
        obtain ⟨y1, y2⟩ := y
        simp only at c0 c1 d0 d1
        have HG := hide hg
        clear hc hd hx hy hg
        by_cases he : x1 = y1 ∧ x2 = y2
        · obtain ⟨rfl, rfl⟩ := he
          have HT2 : Hid (l.take (k + 1) = m.take (k + 1)) := hide (take_eq_step l m k hkl hkm (unhide HT) ((unhide HX).symm.trans (unhide HY)))
          go_wp2_with fail
          go_quiet (fail)
          go_wp2
          go_roundw
          case rel => exact ⟨k + 1, rfl, by omega, HT2, grown_drewN' (unhide HG) _⟩
          case measure => simp [intOf]; omega
        · have HF : Hid (decide (l = m) = false) := hide (decide_eq_false (fun e => by
            subst e
            have := (unhide HX).trans (unhide HY).symm
            simp only [Prod.mk.injEq] at this
            exact he this))
          by_cases h1' : x1 = y1
          · have h2' : ¬ x2 = y2 := fun e => he ⟨h1', e⟩
            have b1 : (x1 == y1) = true := beq_iff_eq.2 h1'
            have b2 : (x2 == y2) = false := beq_eq_false_iff_ne.2 h2'
            clear he
            go_wp2_with fail
            go_quiet (fail)
            go_wp2
            go_ret
            rw [unhide HF]
            exact ⟨rfl, grown_drewN' (unhide HG) _⟩
          · have b1 : (x1 == y1) = false := beq_eq_false_iff_ne.2 h1'
            clear he
            go_wp2_with fail
            go_quiet (fail)
            go_wp2
            go_ret
            rw [unhide HF]
            exact ⟨rfl, grown_drewN' (unhide HG) _⟩
      · have hlt' : ¬ (k : Int) < (n : Int) := by omega
        have HF : Hid (decide (l = m) = true) := hide (decide_eq_true (by
          have := unhide HT
          rw [List.take_of_length_le (by have := unhide Hn; omega), List.take_of_length_le (by have := unhide Hm; omega)] at this
          exact this))
        have HG := hide hg
        clear hg
        go_wp2
        go_ret
        rw [unhide HF]
        exact ⟨rfl, unhide HG⟩
  · have hli : (l.length : Int) ≠ (m.length : Int) := by omega
    have HF : Hid (decide (l = m) = false) := hide (decide_eq_false (fun e => hlen (by rw [e])))
    clear hlen
    go_enter Try.func25, Try.ntmps25
    go_wp2
    go_ret
    rw [unhide HF]
    exact ⟨rfl, World.grownBy.refl _ _⟩
end Go.Proofs.Ytikoegmpbjeadaa
