/-
  BlockdevPicks: for all ints and every slice of ints it returns true, and its arguments read as before. Conditions: none.
-/
import Derived.Test.YtdcggplmoiodjaaDstr
import Derived.Deep.RegionLaw
import Derived.Deep.QuietTactic
import Derived.BigQuiet
namespace Go.Proofs.Ytdcggplmoiodjaa
open Go.ChangeShapes Go.WideShapes Go.ChangeAt Go.RowKit
set_option linter.unusedVariables false

/-- What is written there. -/
def pickB (fs : List Int) (j : Nat) : List UInt8 := headL ⟨#[UInt8.ofNat (j + 1)]⟩ (fillL (UInt8.ofNat (pickR ((fs[j]?).getD 0) 255)) 512)
def pickS (k : Nat) (fs : List Int) : Nat → St
  | 0 => St.new 64
  | j + 1 => (pickS k fs j).burn.wrote k (pickB fs j)

theorem pickS_is (k : Nat) (fs : List Int) : ∀ j, (pickS k fs j).fused = false ∧ (pickS k fs j).fuse = 0 ∧ (pickS k fs j).down = false ∧ (pickS k fs j).safe = (St.new 64).safe ∧ (pickS k fs j).pend k = (List.range j).map (pickB fs) ∧ ∀ i, i ≠ k → (pickS k fs j).pend i = []
  | 0 => ⟨rfl, rfl, rfl, rfl, rfl, fun _ _ => rfl⟩
  | j + 1 => by
    obtain ⟨h1, h2, h3, h4, h5, h6⟩ := pickS_is k fs j
    refine ⟨h1, ?_, ?_, h4, ?_, fun i hi => ?_⟩
    · show burnF (pickS k fs j).fused (pickS k fs j).fuse = 0
      rw [h1, h2]; rfl
    · show burnD (pickS k fs j).fused (pickS k fs j).fuse (pickS k fs j).down = false
      rw [h1, h2, h3]; rfl
    · show putP (pickS k fs j).pend k (pickB fs j) k = _
      rw [putP, if_pos rfl, h5, List.range_succ, List.map_append]
      rfl
    · show putP (pickS k fs j).pend k (pickB fs j) i = _
      rw [putP, if_neg hi]
      exact h6 i hi

theorem pickB_head (fs : List Int) (j : Nat) : (pickB fs j)[0]? = some (UInt8.ofNat (j + 1)) := by
  unfold pickB headL
  rw [List.getElem?_append_left (by rw [List.length_take, fillL_len _ _ (Nat.le_refl _)]; simp)]
  rw [List.getElem?_take_of_lt (by rw [fillL_len _ _ (Nat.le_refl _)]; omega)]
  rfl

/-- What is read at last. -/
theorem pick_read (k : Nat) (hk : k < 64) (fs : List Int) (j : Nat) (p : Int) : (((pickS k fs j).crash [p]).newest k)[0]? = some (UInt8.ofNat (pickR p j)) := by
  obtain ⟨h1, h2, h3, h4, h5, h6⟩ := pickS_is k fs j
  have hl : (pickS k fs j).safe.length = 64 := by rw [h4]; exact List.length_replicate
  have h0 : ((St.new 64).safe[k]?).getD [] = List.replicate 512 0 := by
    show ((List.replicate 64 (List.replicate 512 (0 : UInt8)))[k]?).getD [] = _
    rw [List.getElem?_replicate, if_pos hk]; rfl
  rw [St.newest_crash]
  cases j with
  | zero =>
    rw [crash_none (fun i => by by_cases e : i = k; · rw [e, h5]; rfl
                                · exact h6 i e), h4, h0]
    have : pickR p 0 = 0 := Nat.mod_one _
    rw [this]; rfl
  | succ j =>
    rw [crash_one (by rw [hl]; exact hk) (by rw [h5]; simp) h6, List.getElem?_set_self (by rw [hl]; exact hk), Option.getD_some]
    have hlen : ((pickS k fs (j + 1)).pend k).length = j + 1 := by rw [h5]; simp
    have hlt := pickR_lt p (j + 1)
    show (St.keptB _ k p)[0]? = _
    unfold St.keptB
    rw [hlen]
    by_cases e : pickR p (j + 1) = 0
    · rw [if_pos e, h4, h0, e]; rfl
    · rw [if_neg e, h5, List.getElem?_map, List.getElem?_range (by omega), Option.map_some, Option.getD_some, pickB_head]
      congr 2
      omega

theorem Pick_64 (p : Int) (w : World) (p1 : -9223372036854775808 ≤ p) (p2 : p < 9223372036854775808) :
    Calls Try.prog 19 #[.int .i64 p, .int .i64 64] w fun e w' => e = .returned (.int .i64 (pickR p 63 : Nat)) ∧ w = w' := Pick_eq p 63 w p1 p2 (by omega)

theorem wrap_small (j : Nat) (h : j < 100) : IntKind.u8.wrap (IntKind.i64.wrap ((j : Int) + 1)) = ((UInt8.ofNat (j + 1)).toNat : Int) := by
  have e : IntKind.i64.wrap ((j : Int) + 1) = (j : Int) + 1 := by rw [IntKind.wrap_i64]; omega
  rw [e, UInt8.toNat_ofNat']
  show ((j : Int) + 1) % 256 = _
  omega
def Sl.len512 (L : List UInt8) : Prop := L.length = 512

set_option maxRecDepth 100000 in
set_option maxHeartbeats 3200000 in
theorem Picks.walk (n : Int) (v : Value) (fs : List Int) (p : Int) (w : World) (hv : Ints w v fs) (n1 : -9223372036854775808 ≤ n) (n2 : n < 9223372036854775808) (p1 : -9223372036854775808 ≤ p) (p2 : p < 9223372036854775808) :
    Calls Try.prog 8 #[.int .i64 n, v, .int .i64 p] w fun e w' => e = .returned (.bool true) ∧ Below w.heap.size w w' := by
  obtain ⟨ap, cp, rfl, hpl, hpr, hpc⟩ := hv
  have HP := hide hpc
  have HR := hide hpr
  clear hpc hpr
  go_enter Try.func8, Try.ntmps8
  go_wp2_with fail
  refine (awake_any _).mono ?_
  rintro e w1 ⟨rfl, b1⟩
  have s1 := b1.size
  have K1 := hide b1
  clear b1
  go_wp2_with fail
  refine (New_dev 64 w1 (by omega) (by omega)).mono ?_
  rintro e w2 ⟨rfl, d2, b2⟩
  have s2 := b2.size
  have H2 := hide d2
  have K2 := hide ((unhide K1).trans (b2.mono s1))
  clear d2 b2
  go_wp2_with fail
  refine (Pick_64 n w2 n1 n2).mono ?_
  rintro e w3 ⟨rfl, rfl⟩
  obtain ⟨k, hk⟩ : ∃ k, k = pickR n 63 := ⟨_, rfl⟩
  have hk4 : k < 64 := by rw [hk]; exact pickR_lt n 63
  rw [← hk]
  clear hk
  go_wp2_with fail
  obtain ⟨M, hM⟩ : ∃ M : Nat, min (fs.length : Int) 20 = M := ⟨min fs.length 20, by omega⟩
  have hM1 : M ≤ fs.length := by omega
  have hM2 : M ≤ 20 := by omega
  rw [hM]
  clear hM
  obtain ⟨b, hb⟩ : ∃ b, b = w1.heap.size + 2 := ⟨_, rfl⟩
  rw [← hb] at H2 ⊢
  clear hb
  go_loopw [11] (fun i wr => ∃ j : Nat, j ≤ M ∧ i = .int .i64 j ∧ (∃ F, (∀ q, F q → w.heap.size ≤ q ∧ q < wr.heap.size) ∧ Dev wr b F (2 * j) (pickS k fs j)) ∧ Below w.heap.size w wr) (fun i _ => M - (intOf i).toNat)
  case atStart => exact ⟨0, Nat.zero_le _, rfl, ⟨_, fun q hq => ⟨by have := hq.1; omega, hq.2⟩, unhide H2⟩, unhide K2⟩
  case round =>
    obtain ⟨j, hj, rfl, ⟨F, hF, hdv⟩, hbl⟩ := hrel
    have HV := hide hdv
    have HF := hide hF
    have HB := hide hbl
    have sr := hbl.size
    clear hdv hF hbl
    obtain ⟨e1, e2, e3, e4, e5, e6⟩ := pickS_is k fs j
    have hl : (pickS k fs j).safe.length = 64 := by rw [e4]; exact List.length_replicate
    by_cases hlt : j < M
    · obtain ⟨pb, off, hap, hpw, hpcl⟩ := unhide HP (fun e => by rw [e] at hM1; simp at hM1; omega)
      have hix := idx_ints ap fs.length cp pb off j hap (by omega)
      obtain ⟨f, hf⟩ : ∃ f, f = fs[j]'(by omega) := ⟨_, rfl⟩
      have hcl : wr.cell? ⟨pb, off + j, none⟩ = some (.int .i64 f) := ((unhide HB).cell (p := ⟨pb, off + j, none⟩) hpw).trans (by rw [hf]; exact hpcl j (by omega))
      have hfb : -9223372036854775808 ≤ f ∧ f < 9223372036854775808 := by rw [hf]; exact unhide HR _ (List.getElem_mem _)
      have HFF := hide hf
      clear hf hap hpcl e5 e6
      have hbB : Hid (burnE (pickS k fs j).fused (pickS k fs j).fuse = 0) := hide (by rw [e1, e2]; rfl)
      have E3 := hide e3
      have HL := hide hl
      clear e1 e2 e3 e4 hl
      have hj0 : (0 : Int) ≤ (j : Int) := Int.natCast_nonneg _
      have hj1 : (j : Int) < (fs.length : Int) := by omega
      have hpb' : pb < wr.heap.size := by omega
      obtain ⟨x, hx⟩ : ∃ x : UInt8, x = UInt8.ofNat (j + 1) := ⟨_, rfl⟩
      have hX : IntKind.u8.wrap (IntKind.i64.wrap ((j : Int) + 1)) = (x.toNat : Int) := by rw [hx]; exact wrap_small j (by omega)
      have W4b : Hid (Below w.heap.size wr (wr.alloc (.cells #[.int .u8 (IntKind.u8.wrap (IntKind.i64.wrap ((j : Int) + 1)))] 5)).drew) := hide (((Below.refl _ _).alloc sr _).drew)
      have hcv : (convert 49 9 (.slice (some ⟨wr.heap.size, 0, none⟩) 1 1)).run Try.prog (wr.alloc (.cells #[.int .u8 (IntKind.u8.wrap (IntKind.i64.wrap ((j : Int) + 1)))] 5)).drew = .ok (.string ⟨#[x]⟩) (wr.alloc (.cells #[.int .u8 (IntKind.u8.wrap (IntKind.i64.wrap ((j : Int) + 1)))] 5)).drew := by
        rw [hX]; exact ((Sl.new wr [x] (by unfold maxLen; simp) (0, 0)).drew).str
      have HV4 : Hid (Dev (wr.alloc (.cells #[.int .u8 (IntKind.u8.wrap (IntKind.i64.wrap ((j : Int) + 1)))] 5)).drew b F (2 * j) (pickS k fs j)) := hide ((unhide HV).grown (((Below.refl _ _).alloc (Nat.le_refl _) _).drew))
      have HXX := hide hx
      clear hX hx
      have HB5 : Hid (Sl.len512 (headL ⟨#[x]⟩ (fillL (UInt8.ofNat (pickR f 255)) 512))) := hide (headL_len _ _)
      have hclA : ∀ o, (wr.alloc o).drew.cell? ⟨pb, off + j, none⟩ = some (.int .i64 f) := fun o => (World.cell?_alloc_lt _ _ _ hpb').trans hcl
      go_wp2_with fail
      go_region_law (first | (go_simp; go_wp2_with (first | (go_at_call 20; refine (Block_sl f ⟨#[x]⟩ _ hfb.1 hfb.2).mono ?_; rintro e w4 ⟨rfl, l4, b4⟩; have HB4 : Hid (Below w.heap.size wr w4) := hide ((unhide W4b).trans (b4.mono (by simp; omega))); have H4 := hide ((unhide HV4).grown b4); have L4 : Hid (Sl w4 (.slice (some ⟨wr.heap.size + 1, 0, none⟩) 512 512) (headL ⟨#[x]⟩ (fillL (UInt8.ofNat (pickR f 255)) 512))) := hide (by simpa using l4); have s4 := (unhide HB4).size; clear l4 b4) | (go_at_call 21; refine (Write_own (base := w.heap.size) (unhide H4) (fun q hq => ⟨(unhide HF q hq).1, by have := (unhide HF q hq).2; omega⟩) (by omega) k _ _ (by rw [unhide HL]; exact hk4) (unhide E3) (unhide hbB) (unhide L4) (unhide HB5) (by omega)).mono ?_; rintro e w5 ⟨rfl, ⟨F5, f5, _, d5⟩, k5⟩; have HB5b : Hid (Below w.heap.size wr w5) := hide ((unhide HB4).trans (k5.below (by omega) (fun q hq => (unhide HF q hq).1))); have H5 := hide d5; have G5 := hide f5; clear d5 f5 k5))))
      all_goals
        have HX : Hid (Dev w5 b F5 (2 * (j + 1)) (pickS k fs (j + 1)) ∧ Below w.heap.size w w5) := hide ⟨by
          have e : pickB fs j = headL ⟨#[x]⟩ (fillL (UInt8.ofNat (pickR f 255)) 512) := by
            unfold pickB; rw [← unhide HXX, List.getElem?_eq_getElem (by omega), Option.getD_some, ← unhide HFF]
          rw [pickS, e]; exact unhide H5, (unhide HB).trans (unhide HB5b)⟩
        clear hcv hclA hcl hix
        go_wp2
        refine ⟨⟨j + 1, by omega, rfl, ⟨F5, unhide G5, (unhide HX).1⟩, (unhide HX).2⟩, ?_⟩
        simp [intOf]
        omega
    · obtain rfl : j = M := by omega
      have hpr := pick_read k hk4 fs j p
      have hrl := pickR_lt p j
      obtain ⟨r, hr⟩ : ∃ r, r = pickR p j := ⟨_, rfl⟩
      have b4 : Below wr.heap.size wr (wr.alloc (.cells #[.int .i64 p] 3)) := (Below.refl _ _).alloc (Nat.le_refl _) _
      have i4 : Ints (wr.alloc (.cells #[.int .i64 p] 3)) (.slice (some ⟨wr.heap.size, 0, none⟩) 1 1) [p] := by
        refine ⟨_, _, rfl, by simp, fun y hy => by rw [List.mem_singleton.1 hy]; exact ⟨p1, p2⟩, fun _ => ⟨wr.heap.size, 0, rfl, by simp, fun i hi => ?_⟩⟩
        have : i = 0 := by simp at hi; omega
        subst this
        simp
      have cC := Crash_dev ((unhide HV).grown b4) (by omega) [p] _ i4 (fun _ qb hqb hf => by cases hqb; have h2 : wr.heap.size < wr.heap.size := (unhide HF _ hf).2; omega)
      have K4 := hide ((unhide HB).trans (b4.mono sr))
      have CC := hide cC
      have cP : ∀ W, Calls Try.prog 19 #[.int .i64 p, .int .i64 ((j : Int) + 1)] W fun e w' => e = .returned (.int .i64 (pickR p j : Nat)) ∧ w' = W := fun W => (Pick_eq p j W p1 p2 (by omega)).mono fun e w' ⟨a, b⟩ => ⟨a, b.symm⟩
      rw [← hr] at hpr hrl cP
      have CP := hide cP
      have HPR := hide hpr
      clear cC b4 i4 e1 e2 e3 e4 e5 e6 hpr cP hr
      go_wp2_with fail
      refine (unhide CC).mono ?_
      rintro e w5 ⟨rfl, d5, k5⟩
      have s5 : wr.heap.size + 1 ≤ w5.heap.size := by have := k5.size; simpa using this
      have H5 := hide d5
      have K5 := hide ((unhide K4).trans (k5.below (by simp; omega) fun q hq => (unhide HF q hq).1))
      clear d5 k5
      go_wp2_with fail
      refine (Read_dev (unhide H5) k (by show k < (St.crashTo _ _ _).length; rw [St.crashTo_len, hl]; exact hk4) rfl rfl (by omega)).mono ?_
      rintro e w6 ⟨q6, rfl, hq6, hr6, d6, k6⟩
      have K6 := hide ((unhide K5).trans (k6.below (by omega) fun q hq => (unhide HF q hq).1))
      have c6 : w6.cell? ⟨q6, 0, none⟩ = some (.int .u8 (r : Nat)) := by
        rw [cell_of_row _ _ _ _ _ _ hr6]
        simp only [List.getElem?_toArray, List.getElem?_map, unhide HPR, Option.map_some]
        have e8 : (UInt8.ofNat r).toNat = r := by rw [UInt8.toNat_ofNat']; omega
        show some (Value.int .u8 ((UInt8.ofNat r).toNat : Int)) = _
        rw [e8]
      clear d6 k6 hr6
      have hr0 : (0 : Int) ≤ (r : Int) := Int.natCast_nonneg _
      have hr1 : (r : Int) ≤ 20 := by omega
      go_wp2_with fail
      go_quiet ((go_at_call 19; exact Calls.quiet_of_same (unhide CP _)))
      go_wp2
      go_ret
      exact ⟨rfl, below_drewN (unhide K6) _⟩

set_option maxRecDepth 100000 in
theorem Picks.lifted (os : Os) (started : os.Started) (H : Type) (enc : TypeId × Value → H) :
    ReturnsInHanded {} Try.checked os 8 .any (Rows.blockdevPicksSpec.pre6 enc Try.prog Try.f8 Rows.blockdevPicksRow.domain false) (Rows.blockdevPicksSpec.post enc Try.prog Try.f8 false true false false) := by
  refine returnsInHanded_of_change (C := Try.checked) own_knob started (by kernel_rfl) Try.func8
    (ChangeSpec.witness6 (enc := enc) (C := Try.checked) false ⟨#[], #[.int .i64 0, .slice none 0 0, .int .i64 0], []⟩ 8 (by kernel_rfl) (by kernel_rfl) (by kernel_rfl) (by kernel_rfl)) ?_
  intro W base args ds gs before hval0 hW hcnd _
  have hval : ∀ (j : Nat) t v, Try.f8.params[j]? = some t → args[j]? = some v → Value.okWide Try.prog W .any base t v := hval0
  have hW' := hW
  obtain ⟨p, q, hA0, hV, rfl, hfz, hnd⟩ := hW
  have hA : DataW.TrodAll enc Try.prog W 0 (fun _ => true) true Try.f8.params.toList args.toList ds p := hA0
  rw [Try.params8] at hA hval
  obtain ⟨v0, v1, v2, d0, d1, d2, p0, p1, p2, rfl, rfl, rfl, h0, h1, h2⟩ := trodAll_three hA
  obtain ⟨rfl, rfl⟩ := trodVars_none hV
  obtain ⟨a0, rfl, rfl, rfl, w0⟩ := open_int Try.underlying3 (hval 0 3 v0 rfl rfl) h0
  obtain ⟨a2, rfl, rfl, rfl, w2⟩ := open_int Try.underlying3 (hval 2 3 v2 rfl rfl) h2
  have k1 := h1
  have lt1 : ∀ x ∈ p1, x.block < W.heap.size := by obtain ⟨m, hm⟩ := k1; exact DataW.trod_lt m _ _ _ hm
  obtain ⟨a1, len1, cap1, rfl⟩ := okWide_slice Try.underlying35 (hval 1 35 v1 rfl rfl)
  obtain ⟨fs, hfs⟩ := open_intl h1
  have b0 := bounds_i64 w0
  have b2 := bounds_i64 w2
  clear hA0 hval0
  refine (Picks.walk a0 _ fs a2 W hfs (by omega) (by omega) (by omega) (by omega)).mono fun e W' ⟨he, bel⟩ => ?_
  subst he
  exact ⟨_, rfl, _, _, _, [], _, [], hW', trodAll_mk1 (shut_bool Try.underlying4 _), (trodAll_cons_mk (shut_int Try.underlying3 w0) (trodAll_cons_mk (Below.trod laid_out (by kernel_rfl) (of_decide_eq_true (by kernel_rfl)) k1 bel lt1) (trodAll_cons_mk (shut_int Try.underlying3 w2) trodAll_mk0))), rfl, bel.frame _, fun h => by cases h⟩

theorem blockdevPicks_holds : Rows.BlockdevPicksSaid :=
  OpenClaim.holds_of_wide 8 Try.f8 rfl rfl rfl rfl rfl rfl rfl ⟨rfl, rfl, rfl, rfl, rfl⟩ rfl rfl rfl rfl rfl (by kernel_rfl) Try.func8 (by kernel_rfl)
    (of_decide_eq_true (by kernel_rfl)) (by unfold Func.isWrapper; first | (rw [if_pos (by decide +kernel)]; kernel_rfl) | (rw [if_neg (by decide +kernel)]; exact ⟨rfl, rfl⟩))
    (fun os started H enc _ => Picks.lifted os started H enc)
#print axioms blockdevPicks_holds
end Go.Proofs.Ytdcggplmoiodjaa
