/-
  DERIVED. mayBe, haveJust.
-/
import Derived.Test.YtikoegmpbjeadaaIfun
namespace Go.Proofs.Ytikoegmpbjeadaa
open Go.RowKit
set_option linter.unusedVariables false

def okR (x : Int × Int) : Prop := 0 < x.2 ∧ 0 ≤ x.1 ∧ x.1 + x.2 ≤ 512
instance (x : Int × Int) : Decidable (okR x) := by unfold okR; infer_instance
def sumL (l : List (Int × Int)) : Int := (l.map fun x => x.2).sum
theorem sumL_snoc (l : List (Int × Int)) (x : Int × Int) : sumL (l ++ [x]) = sumL l + x.2 := by simp [sumL]
def okL (l : List (Int × Int)) (k : Int) : Prop := (∀ x ∈ l, okR x) ∧ sumL l = k
instance (l : List (Int × Int)) (k : Int) : Decidable (okL l k) := by unfold okL; infer_instance
theorem sumL_bounds : ∀ (l : List (Int × Int)), (∀ x ∈ l, okR x) → 0 ≤ sumL l ∧ sumL l ≤ 512 * (l.length : Int)
  | [], _ => by simp [sumL]
  | x :: l, h => by
    have h1 := sumL_bounds l fun y hy => h y (List.mem_cons_of_mem _ hy)
    have h2 := h x (List.mem_cons_self ..)
    unfold okR at h2
    have e : sumL (x :: l) = x.2 + sumL l := by simp [sumL]
    rw [e, List.length_cons]
    omega

theorem mayBe_any (w : World) (x1 x2 : Int) (hf : fits (x1, x2)) : Calls Try.prog 50 #[.agg #[.int .i64 x1, .int .i64 x2]] w fun e w' => e = .returned (.bool (decide (okR (x1, x2)))) ∧ w.grownBy w' none := by
  obtain ⟨f1, f2, f3, f4⟩ := hf
  simp only at f1 f2 f3 f4
  by_cases h1 : 0 < x2
  · by_cases h2 : 0 ≤ x1
    · by_cases h3 : x2 ≤ 512 - x1
      · have HD : Hid (decide (okR (x1, x2)) = true) := hide (decide_eq_true (by unfold okR; simp only; omega))
        go_enter Try.func50, Try.ntmps50
        go_wp2
        go_ret
        rw [unhide HD]
        exact ⟨by simp, World.grownBy_alloc _ _ _⟩
      · have HD : Hid (decide (okR (x1, x2)) = false) := hide (decide_eq_false (by unfold okR; simp only; omega))
        go_enter Try.func50, Try.ntmps50
        go_wp2
        go_ret
        rw [unhide HD]
        exact ⟨by simp, World.grownBy_alloc _ _ _⟩
    · have HD : Hid (decide (okR (x1, x2)) = false) := hide (decide_eq_false (by unfold okR; simp only; omega))
      go_enter Try.func50, Try.ntmps50
      go_wp2
      go_ret
      rw [unhide HD]
      exact ⟨by simp, World.grownBy_alloc _ _ _⟩
  · have HD : Hid (decide (okR (x1, x2)) = false) := hide (decide_eq_false (by unfold okR; simp only; omega))
    go_enter Try.func50, Try.ntmps50
    go_wp2
    go_ret
    rw [unhide HD]
    exact ⟨by simp, World.grownBy_alloc _ _ _⟩

set_option maxHeartbeats 1000000 in
theorem haveJust_any (w : World) (v : Value) (l : List (Int × Int)) (m : Nat) (hv : Rn w v l) (hm : m ≤ 65536) (hl : l.length ≤ 1125899906842624) :
    Calls Try.prog 38 #[v, .int .i64 (m : Int)] w fun e w' => e = .returned (.bool (decide (okL l (m : Int)))) ∧ w.grownBy w' none := by
  have HV := hide hv
  obtain ⟨ao, cap, rfl, hv1, hv2, hv3, hv4⟩ := hv
  clear hv4
  obtain ⟨n, hn⟩ : ∃ n, n = l.length := ⟨_, rfl⟩
  rw [← hn] at hv1 HV hl ⊢
  have HN := hide hn
  clear hn
  have hlen : (n : Int) ≤ 1125899906842624 := by omega
  have hmi : (m : Int) ≤ 65536 := by omega
  go_enter Try.func38, Try.ntmps38
  go_wp2
  go_loopw [1, 9] (fun s i wr => ∃ (k : Nat) (z : Int), i = .int .i64 (k : Int) ∧ s = .int .i64 z ∧ k ≤ n ∧ Hid (z = (m : Int) - sumL (l.take k)) ∧ Hid (∀ x ∈ l.take k, okR x) ∧ w.grownBy wr none) (fun _ i _ => n - (intOf i).toNat)
  case atStart => exact ⟨0, m, rfl, rfl, by omega, hide (by simp [sumL]), hide (by simp), World.grownBy.refl _ _⟩
  case round =>
    obtain ⟨k, z, rfl, rfl, hk, HZ, HK, hg⟩ := hrel
    have hzb : -1152921504606846976 ≤ z ∧ z ≤ 65536 := by
      have h1 := sumL_bounds _ (unhide HK)
      have h2 := unhide HZ
      have h3 : ((l.take k).length : Int) ≤ (k : Int) := by rw [List.length_take]; omega
      omega
    obtain ⟨hz1, hz2⟩ := hzb
    by_cases hlt : k < n
    · have hlt' : (k : Int) < (n : Int) := by omega
      have hkl : k < l.length := by rw [← unhide HN]; exact hlt
      obtain ⟨pb, off, hao, hpb, hc⟩ : ∃ pb off, ao = some ⟨pb, off, none⟩ ∧ pb < wr.heap.size ∧ ∀ i, (h : i < l.length) → wr.cell? ⟨pb, off + i * 2, none⟩ = some (.int .i64 l[i].1) ∧ wr.cell? ⟨pb, off + i * 2 + 1, none⟩ = some (.int .i64 l[i].2) := by
        obtain ⟨ao', cap', e, _, _, _, h4⟩ := (unhide HV).kept hg
        cases e
        exact h4 (by omega)
      subst hao
      obtain ⟨c0, c1⟩ := hc k hkl
      have hfit := hv3 l[k] (List.getElem_mem hkl)
      have HTk : Hid (l.take (k + 1) = l.take k ++ [l[k]]) := hide (List.take_succ_eq_append_getElem hkl)
      obtain ⟨x, hx⟩ : ∃ x, x = l[k] := ⟨_, rfl⟩
      rw [← hx] at c0 c1 hfit HTk
      have HX := hide hx
      clear hc hx
      obtain ⟨x1, x2⟩ := x
      have HF := hide hfit
      obtain ⟨f1, f2, f3, f4⟩ := hfit
      simp only at c0 c1 f1 f2 f3 f4
      have HG : Hid (w.grownBy (wr.alloc (.cells #[.int .i64 x1, .int .i64 x2] 51)) none) := hide (hg.trans (World.grownBy_alloc _ _ _))
      clear hg
      go_wp2_with fail
      refine (mayBe_any _ x1 x2 (unhide HF)).mono ?_
      rintro e w2 ⟨rfl, hg2⟩
      have d1 : w2.cell? ⟨wr.heap.size, 1, none⟩ = some (.int .i64 x2) := hg2.cell ((cell_of_row _ _ _ _ _ _ (heap_alloc_new _ _)).trans rfl) (by simp)
      have HG2 : Hid (w.grownBy w2 none) := hide ((unhide HG).trans hg2)
      clear hg2
      by_cases hok : okR (x1, x2)
      · have hD : decide (okR (x1, x2)) = true := decide_eq_true hok
        rw [hD]
        have HK2 : Hid (∀ x ∈ l.take (k + 1), okR x) := hide (by
          rw [unhide HTk]
          intro x hx
          rcases List.mem_append.1 hx with hx | hx
          · exact unhide HK x hx
          · simp at hx; subst hx; exact hok)
        have HZ2 : Hid (z - x2 = (m : Int) - sumL (l.take (k + 1))) := hide (by rw [unhide HTk, sumL_snoc, unhide HZ]; omega)
        unfold okR at hok
        obtain ⟨o1, o2, o3⟩ := hok
        simp only at o1 o2 o3
        clear hD HK HZ
        go_wp2
        go_roundw
        case rel => exact ⟨k + 1, z - x2, rfl, rfl, by omega, HZ2, HK2, unhide HG2⟩
        case measure => simp [intOf]; omega
      · have hD : decide (okR (x1, x2)) = false := decide_eq_false hok
        rw [hD]
        have HR : Hid (decide (okL l (m : Int)) = false) := hide (decide_eq_false (fun h => hok (by rw [unhide HX]; exact h.1 _ (List.getElem_mem hkl))))
        clear hD hok
        go_wp2
        go_ret
        rw [unhide HR]
        exact ⟨rfl, unhide HG2⟩
    · have hlt' : ¬ (k : Int) < (n : Int) := by omega
      have HT : Hid (l.take k = l) := hide (List.take_of_length_le (by have := unhide HN; omega))
      have HG := hide hg
      clear hg
      go_wp2
      go_ret
      have hz := unhide HZ
      have hK := unhide HK
      rw [unhide HT] at hz hK
      have hR : decide (okL l (m : Int)) = decide (z = 0) := by
        by_cases h0 : z = 0
        · have ho : okL l (m : Int) := ⟨hK, by omega⟩
          rw [decide_eq_true h0, decide_eq_true ho]
        · have ho : ¬ okL l (m : Int) := fun h => h0 (by have := h.2; omega)
          rw [decide_eq_false h0, decide_eq_false ho]
      rw [hR]
      exact ⟨rfl, unhide HG⟩
end Go.Proofs.Ytikoegmpbjeadaa
