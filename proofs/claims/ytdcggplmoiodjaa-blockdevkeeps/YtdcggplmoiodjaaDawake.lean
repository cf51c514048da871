/-
  DERIVED. The law's awake: the chapter's examples.
-/
import Derived.Test.YtdcggplmoiodjaaDext
namespace Go.Proofs.Ytdcggplmoiodjaa
open Go.RowKit Go.Maps
set_option linter.unusedVariables false

/-- Two writes, of one block. -/
def twice (L M : List UInt8) : St := (((St.new 64).burn.wrote 3 L).burn.wrote 3 M).burn
theorem twice_keys (L M : List UInt8) : (twice L M).keys = [3] := by rfl
theorem twice_new (L M : List UInt8) : ((((St.new 64).burn.wrote 3 L).burn.wrote 3 M)).newest 3 = M := by rfl
theorem twice_crash (L M : List UInt8) : ((twice L M).crash [1]).newest 3 = L := by rfl

set_option maxRecDepth 100000 in
set_option maxHeartbeats 3200000 in
theorem awake_any (w : World) : Calls Try.prog 9 #[] w fun e w' => e = .returned (.bool true) ∧ Below w.heap.size w w' := by
  obtain ⟨L, hL⟩ : ∃ L, L = headL ⟨#[]⟩ (fillL (UInt8.ofNat (pickR 1 255)) 512) := ⟨_, rfl⟩
  obtain ⟨M, hM⟩ : ∃ M, M = headL ⟨#[]⟩ (fillL (UInt8.ofNat (pickR 2 255)) 512) := ⟨_, rfl⟩
  have cB1 := fun W => Block_sl 1 ⟨#[]⟩ W (by omega) (by omega)
  have cB2 := fun W => Block_sl 2 ⟨#[]⟩ W (by omega) (by omega)
  have hL5 : L.length = 512 := by rw [hL]; exact headL_len _ _
  have hM5 : M.length = 512 := by rw [hM]; exact headL_len _ _
  have hL9 : L[9]? = some 1 := by rw [hL]; rfl
  have hM9 : M[9]? = some 2 := by rw [hM]; rfl
  rw [← hL] at cB1
  rw [← hM] at cB2
  have HB1 := hide cB1
  have HB2 := hide cB2
  clear cB1 cB2 hL hM
  go_enter Try.func9, Try.ntmps9
  go_wp2_with fail
  refine (New_dev 64 w (by omega) (by omega)).mono ?_
  rintro e w1 ⟨rfl, d1, b1⟩
  have s1 := b1.size
  have H1 := hide d1
  have K1 := hide b1
  clear d1 b1
  go_wp2_with fail
  refine (unhide HB1 w1).mono ?_
  rintro e w2 ⟨rfl, l2, b2⟩
  have s2 := b2.size
  have H2 := hide ((unhide H1).grown b2)
  have L2 := hide l2
  have K2 := hide ((unhide K1).trans (b2.mono s1))
  clear l2 b2
  go_wp2_with fail
  refine (Write_own (base := w.heap.size) (unhide H2) (fun k hk => ⟨hk.1, by omega⟩) (by omega) 3 L _ (by decide) rfl rfl (unhide L2) hL5 (by omega)).mono ?_
  rintro e w3 ⟨rfl, ⟨F3, f3, _, d3⟩, k3⟩
  have s3 := k3.size
  have H3 := hide d3
  have G3 := hide f3
  have K3 := hide ((unhide K2).trans (k3.below (by omega) fun k hk => hk.1))
  clear d3 f3 k3
  go_wp2_with fail
  refine (unhide HB2 w3).mono ?_
  rintro e w4 ⟨rfl, l4, b4⟩
  have s4 := b4.size
  have H4 := hide ((unhide H3).grown b4)
  have L4 := hide l4
  have K4 := hide ((unhide K3).trans (b4.mono (by omega)))
  clear l4 b4
  go_wp2_with fail
  refine (Write_own (base := w.heap.size) (unhide H4) (fun k hk => ⟨(unhide G3 k hk).1, by have := (unhide G3 k hk).2; omega⟩) (by omega) 3 M _ (by simp [St.wrote, St.burn, St.new]) rfl rfl (unhide L4) hM5 (by omega)).mono ?_
  rintro e w5 ⟨rfl, ⟨F5, f5, _, d5⟩, k5⟩
  have s5 := k5.size
  have H5 := hide d5
  have G5 := hide f5
  have K5 := hide ((unhide K4).trans (k5.below (by omega) fun k hk => (unhide G3 k hk).1))
  clear d5 f5 k5
  go_wp2_with fail
  refine (Read_dev (unhide H5) 3 (by simp [St.wrote, St.burn, St.new]) rfl rfl (by omega)).mono ?_
  rintro e w6 ⟨q6, rfl, hq6, hr6, d6, k6⟩
  rw [twice_new L M] at hr6
  have s6 := k6.size
  have q6l : q6 < w6.heap.size := lt_of_block hr6
  have H6 := hide d6
  have R6 := hide hr6
  have K6 := hide ((unhide K5).trans (k6.below (by omega) fun k hk => (unhide G5 k hk).1))
  clear d6 hr6 k6
  go_wp2_with fail
  obtain ⟨g6, c6, m6, vf6, D6, e6⟩ := unhide H6
  refine (Pending_form e6 (by omega)).mono ?_
  rintro e w7 ⟨ao7, cap7, rfl, ha7, b7⟩
  have ek : (((((St.new 64).burn.wrote 3 L).burn.wrote 3 M).burn).keys) = [3] := twice_keys L M
  obtain ⟨q7, rfl, hq7, q7l, hc7⟩ := ha7 0 (by rw [ek]; decide)
  have hc7' : w7.cell? ⟨q7, 0, none⟩ = some (.int .i64 3) := by
    have e0 : (((((St.new 64).burn.wrote 3 L).burn.wrote 3 M).burn).keys)[0]'(by rw [ek]; decide) = 3 := by simp [ek]
    rw [e0] at hc7
    exact hc7
  rw [ek]
  have s7 := b7.size
  have H7 := hide ((unhide H6).grown b7)
  have R7 := hide ((b7.block q6 q6l).trans (unhide R6))
  have K7 := hide ((unhide K6).trans (b7.mono (by omega)))
  have C7 := hide hc7'
  clear e6 ha7 hc7 hc7' b7 ek
  go_wp2_with fail
  have b8 : Below w7.heap.size w7 (w7.alloc (.cells #[.int .i64 1] 3)) := (Below.refl _ _).alloc (Nat.le_refl _) _
  have i8 : Ints (w7.alloc (.cells #[.int .i64 1] 3)) (.slice (some ⟨w7.heap.size, 0, none⟩) 1 1) [1] := by
    refine ⟨_, _, rfl, by simp, by simp, fun _ => ⟨w7.heap.size, 0, rfl, by simp, fun i hi => ?_⟩⟩
    have : i = 0 := by simp at hi; omega
    subst this
    simp
  refine (Crash_dev ((unhide H7).grown b8) (by omega) [1] _ i8 (fun _ pb hpb hf => by cases hpb; have h2 : w7.heap.size < w5.heap.size := (unhide G5 _ hf).2; omega)).mono ?_
  rintro e w9 ⟨rfl, d9, k9⟩
  have s9 : w7.heap.size + 1 ≤ w9.heap.size := by have := k9.size; simpa using this
  have H9 := hide d9
  have nF : ∀ k, w5.heap.size ≤ k → ¬ F5 k := fun k hk hf => by have := (unhide G5 _ hf).2; omega
  have R9 := hide ((k9.block q6 (by simp; omega) (nF _ hq6)).trans ((b8.block q6 (by omega)).trans (unhide R7)))
  have C9 : Hid (w9.cell? ⟨q7, 0, none⟩ = some (.int .i64 3)) := hide ((World.cell?_of_block (a := ⟨q7, 0, none⟩) (k9.block q7 (by simp; omega) (nF _ (by omega)))).trans ((b8.cell (p := ⟨q7, 0, none⟩) q7l).trans (unhide C7)))
  have K9 := hide ((unhide K7).trans ((b8.mono (by omega)).trans (k9.below (by simp; omega) fun k hk => (unhide G5 k hk).1)))
  clear d9 k9 b8 i8
  go_wp2_with fail
  have el : 3 < ((twice L M).crash [1]).safe.length := by show 3 < (St.crashTo _ _ _).length; rw [St.crashTo_len]; simp [twice, St.wrote, St.burn, St.new]
  refine (Read_dev (unhide H9) 3 el rfl rfl (by omega)).mono ?_
  rintro e w10 ⟨q10, rfl, hq10, hr10, d10, k10⟩
  have en : (((((St.new 64).burn.wrote 3 L).burn.wrote 3 M).burn).crash [1]).newest 3 = L := twice_crash L M
  rw [en] at hr10
  have s10 := k10.size
  have C10 : w10.cell? ⟨q7, 0, none⟩ = some (.int .i64 3) := (World.cell?_of_block (a := ⟨q7, 0, none⟩) (k10.block q7 (by omega) (nF _ (by omega)))).trans (unhide C9)
  have C11 : w10.cell? ⟨q6, 9, none⟩ = some (.int .u8 2) := by
    have r := (k10.block q6 (by omega) (nF _ hq6)).trans (unhide R9)
    rw [cell_of_row _ _ _ _ _ _ r]
    simp [hM9]
  have C12 : w10.cell? ⟨q10, 9, none⟩ = some (.int .u8 1) := by
    rw [cell_of_row _ _ _ _ _ _ hr10]
    simp [hL9]
  have K10 := hide ((unhide K9).trans (k10.below (by omega) fun k hk => (unhide G5 k hk).1))
  have H10 := hide d10
  clear d10 k10 hr10 en el nF
  obtain ⟨g11, c11, m11, vf11, D11, e11⟩ := unhide H10
  have hl : ((((((St.new 64).burn.wrote 3 L).burn.wrote 3 M).burn).crash [1]).burn).safe.length = 64 := by show (St.crashTo _ _ _).length = 64; rw [St.crashTo_len]; simp [St.wrote, St.burn, St.new]
  have d11 := e11.dev
  rw [hl] at d11
  have D12 := hide d11
  clear e11 d11 hl
  go_wp2_with (first | (go_at_call 28; refine (Blocks_dev (unhide D12)).mono ?_; rintro e w' ⟨rfl, rfl⟩) | fail)
  go_ret
  exact ⟨rfl, unhide K10⟩
end Go.Proofs.Ytdcggplmoiodjaa
