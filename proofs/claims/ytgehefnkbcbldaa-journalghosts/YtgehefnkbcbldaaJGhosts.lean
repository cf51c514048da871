/-
  JournalGhosts: for every two slices of raw blocks, every two ints and every two slices of ints it returns true, and its arguments read as before. Conditions: none.
-/
import Derived.Test.YtgehefnkbcbldaaM7
namespace Go.Proofs.Ytgehefnkbcbldaa
open Go.ChangeShapes Go.WideShapes Go.ChangeAt Go.RowKit
set_option linter.unusedVariables false

theorem Pick_60 (p : Int) (w : World) (p1 : -9223372036854775808 ≤ p) (p2 : p < 9223372036854775808) :
    Calls Try.prog 14 #[.int .i64 p, .int .i64 60] w fun e w' => e = .returned (.int .i64 (pickR p 59 : Nat)) ∧ w = w' := Pick_eq p 59 w p1 p2 (by omega)

set_option maxRecDepth 100000 in
set_option maxHeartbeats 8000000 in
theorem JGhosts.go (w : World) (v1 : Value) (o1 : List On) (h1 : OnL w v1 o1) (k : Int) (k0 : -9223372036854775808 ≤ k) (k1 : k < 9223372036854775808) (v4 : Value) (ps : List Int) (h4 : Ints w v4 ps) (v2 : Value) (o2 : List On) (h2 : OnL w v2 o2) (l : Int) (l0 : -9223372036854775808 ≤ l) (l1 : l < 9223372036854775808) (v5 : Value) (qs : List Int) (h5 : Ints w v5 qs) :
    Calls Try.prog 4 #[v1, .int .i64 k, v4, v2, .int .i64 l, v5] w fun e w' => e = .returned (.bool true) ∧ Below w.heap.size w w' := by
  have H5 := hide h5
  have H1 := hide h1
  have H2 := hide h2
  have H4 := hide h4
  clear h1 h2 h4 h5
  go_enter Try.func4, Try.ntmps4
  go_wp2_with fail
  refine (Jawake_any _).mono ?_
  rintro e w1 ⟨rfl, b1⟩
  have HB1 := hide b1
  clear b1
  go_wp2_with fail
  refine (laid_l w w1 (unhide HB1)).mono ?_
  rintro e w2 ⟨b, lb, T0, rfl, l2⟩
  have L2 := hide l2
  have B2 := hide l2.rst.bel
  clear l2 HB1
  go_wp2_with fail
  refine (within_go w2 v1 o1 ((unhide H1).below (unhide B2) (Nat.le_refl _))).mono ?_
  rintro e w3 ⟨u1, rfl, g3, b3⟩
  have G3 := hide g3
  have B3 := hide b3
  have z3 := b3.size
  clear g3 b3
  go_wp2_with fail
  refine (within_go w3 v2 o2 (((unhide H2).below (unhide B2) (Nat.le_refl _)).below (unhide B3) (Nat.le_refl _))).mono ?_
  rintro e w4 ⟨u2, rfl, g4, b4⟩
  have z4 := b4.size
  obtain ⟨G, hG⟩ : ∃ G : Nat → Prop, G = fun j => w2.heap.size ≤ j ∧ j < w4.heap.size := ⟨_, rfl⟩
  have V1 : Hid (WrsG w4 (fun j => w2.heap.size ≤ j ∧ j < w3.heap.size) u1 (withL o1)) := hide ((unhide G3).same ⟨b4.size, fun q hq => b4.block q hq.2⟩)
  have hG3 : Hid (∀ j, (w2.heap.size ≤ j ∧ j < w3.heap.size) → G j) := hide fun j hj => by rw [hG]; exact ⟨hj.1, by omega⟩
  have V2 : Hid (WrsG w4 G u2 (withL o2)) := hide (g4.mono fun q hq => by rw [hG]; exact ⟨by omega, hq.2⟩)
  have L4 : Hid (Lull w w4 b lb 2200 G T0 zeros) := hide ((unhide L2).grown ((unhide B3).trans (b4.mono z3)) fun j hj => .inr (by rw [hG] at hj; exact hj))
  have hGw : Hid (∀ j, G j → w.heap.size ≤ j ∧ j < w4.heap.size) := hide fun j hj => by rw [hG] at hj; have := (unhide B2).size; omega
  clear g4 b4 G3 B3 L2 hG
  go_wp2_with fail
  refine (Pick_60 k w4 k0 k1).mono ?_
  rintro e wA ⟨rfl, rfl⟩
  have hpk := pickR_lt k 59
  obtain ⟨m, hm⟩ : ∃ m, m = pickR k 59 := ⟨_, rfl⟩
  rw [← hm] at hpk ⊢
  clear hm
  go_wp2_with fail
  refine (Fuse_r (unhide L4).rst (m : Int) (by omega) (by omega)).mono ?_
  rintro e wB ⟨rfl, rB, gB⟩
  rw [(unhide L4).free.up]
  have hqB := (unhide L4).quiet.fuseK (m : Int)
  have hoB := rB.ops
  have hnB : ∀ k, (T0.fuseK (m : Int)).pend k = [] := fun k => by rw [St.fuseK_pend]; exact (unhide L4).none k
  have hlB : (T0.fuseK (m : Int)).safe.length = 64 := by rw [St.fuseK_len]; exact (unhide L4).len
  obtain ⟨c1, hh1⟩ := half_of hqB hnB hlB (by omega) (withL o1) (okW_with o1).2 (okW_with o1).1 ps
  have CM1 := hide (Commit_r rB hqB (by omega) _ _ (unhide V1 wB (gB.mono fun q hq => unhide hG3 q hq)))
  have HH1 := hide hh1
  have SGB := hide gB
  clear rB gB hqB hoB hnB hlB hh1 V1
  go_wp2_with fail
  refine (unhide CM1).mono ?_
  rintro e wC ⟨rfl, rC, gC⟩
  have RC := hide rC.dev
  have SGC := hide ((unhide SGB).trans gC)
  obtain ⟨pr1, hpr1⟩ : ∃ pr, pr = comE (T0.fuseK (m : Int)) (withL o1) := ⟨_, rfl⟩
  rw [← hpr1] at HH1 RC ⊢
  clear rC gC CM1 SGB hpr1
  go_wp2_with fail
  refine (Crash_r (unhide RC) (by omega) ps v4 (unhide H4)).mono ?_
  rintro e wD ⟨rfl, rD, gD⟩
  obtain ⟨ns1, hsd1⟩ := (unhide HH1).sound
  have OP1 := hide (Open_l rD hsd1 (Free.crash _ _) (unhide HH1).len (by omega))
  have SGD := hide ((unhide SGC).trans gD)
  clear rD gD hsd1 HH1 RC SGC
  go_wp2_with fail
  refine (unhide OP1).mono ?_
  rintro e w5 ⟨gE, l0b, T1, rfl, l5⟩
  have L5 := hide l5
  have sg5 := (unhide SGD).trans gE
  have V5 := hide ((unhide V2).same sg5)
  have z5 := sg5.1
  clear l5 sg5 gE L4 V2 OP1 SGD
  go_wp2_with (first | (refine wpList_alloc_44 rfl rfl ?_) | fail)
  obtain ⟨W6, hW6⟩ : ∃ W6, W6 = (w5.alloc (.cells no44 33)).alloc (.cells no44 33) := ⟨_, rfl⟩
  obtain ⟨xo, hxo⟩ : ∃ xo, xo = w5.heap.size := ⟨_, rfl⟩
  obtain ⟨xn, hxn⟩ : ∃ xn, xn = w5.heap.size + 1 := ⟨_, rfl⟩
  have zA : (w5.alloc (.cells no44 33)).heap.size = w5.heap.size + 1 := by simp
  have hB6 : Below w5.heap.size w5 W6 := by rw [hW6]; exact ((Below.refl _ _).alloc (Nat.le_refl _) _).alloc (by omega) _
  have z6 : W6.heap.size = w5.heap.size + 2 := by rw [hW6]; simp
  have SO : Hid (StrRow W6 xo (upF c1 0)) := hide (by
    unfold StrRow
    rw [hW6, hxo, Below.heap_alloc _ _ _ (by omega), upF_zero]
    exact heap_alloc_self _ _)
  have SN : Hid (StrRow W6 xn (upF c1 0)) := hide (by
    unfold StrRow
    rw [hW6, hxn, upF_zero, ← zA]
    exact heap_alloc_self _ _)
  have hxw : w4.heap.size ≤ xo ∧ w4.heap.size ≤ xn ∧ xo ≠ xn := by omega
  have L6 : Hid (Lull w W6 b l0b 2500 (fun j => G j ∨ j = xo ∨ j = xn) T1 c1) := hide ((unhide L5).grown hB6 fun j hj => by
    rcases hj with h | h | h
    · exact .inl h
    · exact .inr (by omega)
    · exact .inr (by omega))
  have V6 : Hid (WrsG W6 G u2 (withL o2)) := hide ((unhide V5).same ⟨hB6.size, fun q hq => hB6.block q (by have := (unhide hGw q hq).2; omega)⟩)
  have hww : w.heap.size ≤ xo ∧ w.heap.size ≤ xn := by have := (unhide B2).size; omega
  rw [← hW6, ← hxn, ← hxo]
  have hGo : ¬ G xo := fun h => by have := (unhide hGw _ h).2; omega
  have hGn : ¬ G xn := fun h => by have := (unhide hGw _ h).2; omega
  clear hW6 hxo hxn zA hB6 z6 L5 V5 z3 z4 z5
  obtain ⟨hxo4, hxn4, hxon⟩ := hxw
  obtain ⟨hwo, hwn⟩ := hww
  clear hxo4 hxn4
  go_loopw [22] (fun i wr => ∃ (j : Nat) (S : St), i = .int .i64 (j : Int) ∧ j ≤ 44 ∧ Hid (Lull w wr b l0b (2500 + 2 * j) (fun j => G j ∨ j = xo ∨ j = xn) S c1) ∧ Hid (StrRow wr xo (upF c1 j)) ∧ Hid (StrRow wr xn (upF c1 j)) ∧ Hid (WrsG wr G u2 (withL o2))) (fun i _ => 44 - (intOf i).toNat)
  case atStart => exact ⟨0, T1, rfl, by omega, L6, SO, SN, V6⟩
  case round =>
    obtain ⟨j, S, rfl, hj, HL, HO, HN, HV⟩ := hrel
    clear L6 SO SN V6
    by_cases hlt : j < 44
    · have hlt' : (j : Int) < 44 := by omega
      have hgx := (unhide HL).rst.gl (.inr (.inl rfl) : G xo ∨ xo = xo ∨ xo = xn)
      have hgn := (unhide HL).rst.gl (.inr (.inr rfl) : G xn ∨ xn = xo ∨ xn = xn)
      go_wp2_with fail
      refine (Read_l (unhide HL) (by omega) j hlt).mono ?_
      rintro e w7 ⟨sg, q, rfl, hq, hr, h5, l7⟩
      have ro := (sg.2 xo (.inr (.inl rfl))).trans (unhide HO)
      have rn := (sg.2 xn (.inr (.inr rfl))).trans (unhide HN)
      have ro' : StrRow w7 xo (upF c1 j) := ro
      have rn' : StrRow w7 xn (upF c1 j) := rn
      have co := ro'.cell j hlt
      have fo := ro'.fz j
      have v7 := (sl_block hr h5).strJ
      obtain ⟨W8, hW8⟩ : ∃ W8, W8 = w7.setCell ⟨xo, j, none⟩ (.string ⟨(c1 j).toArray⟩) := ⟨_, rfl⟩
      have o8 : Only xo w7 W8 := by rw [hW8]; exact (Only.refl xo w7).set _ _
      have rn8 : StrRow W8 xn (upF c1 j) := (o8.other xn (Ne.symm hxon)).trans rn
      have ro8 : StrRow W8 xo (upF c1 (j + 1)) := by rw [hW8]; exact (ro'.set j hlt (c1 j)).congr fun m _ => upF_set c1 j m
      have cn := rn8.cell j hlt
      have fn := rn8.fz j
      have v8 := (sl_block ((o8.other q (by omega)).trans hr) h5).strJ
      have o9 : Only xn W8 (W8.setCell ⟨xn, j, none⟩ (.string ⟨(c1 j).toArray⟩)) := (Only.refl xn W8).set _ _
      have HF : Hid (Lull w (W8.setCell ⟨xn, j, none⟩ (.string ⟨(c1 j).toArray⟩)) b l0b (2500 + 2 * (j + 1)) (fun j => G j ∨ j = xo ∨ j = xn) S.burn c1 ∧ StrRow (W8.setCell ⟨xn, j, none⟩ (.string ⟨(c1 j).toArray⟩)) xo (upF c1 (j + 1)) ∧ StrRow (W8.setCell ⟨xn, j, none⟩ (.string ⟨(c1 j).toArray⟩)) xn (upF c1 (j + 1)) ∧ WrsG (W8.setCell ⟨xn, j, none⟩ (.string ⟨(c1 j).toArray⟩)) G u2 (withL o2)) := hide
        ⟨((l7.only o8 (.inr (.inl rfl)) hwo).only o9 (.inr (.inr rfl)) hwn).mono (by omega), (o9.other xo hxon).trans ro8, (rn8.set j hlt (c1 j)).congr fun m _ => upF_set c1 j m, (((unhide HV).same (sg.mono fun q hq => .inl hq)).same (SameG.only o8 hGo)).same (SameG.only o9 hGn)⟩
      rw [hW8] at cn fn v8 HF
      obtain ⟨cj, hcj⟩ : ∃ cj, cj = c1 j := ⟨_, rfl⟩
      rw [← hcj] at cn fn v8 HF v7
      clear hW8 o8 rn8 ro8 o9 ro rn ro' rn' l7 hr h5 sg HL HO HN HV hq hgx hgn hcj
      go_wp2
      go_roundw
      case rel => exact ⟨j + 1, S.burn, by go_num, by omega, hide (unhide HF).1, hide (unhide HF).2.1, hide (unhide HF).2.2.1, hide (unhide HF).2.2.2⟩
      case measure => simp [intOf]; omega
    · have hlt' : ¬ (j : Int) < 44 := by omega
      obtain rfl : j = 44 := by omega
      have HO2 : Hid (StrRow wr xo c1) := hide ((unhide HO).congr fun m hm => upF_full c1 m hm)
      have HN2 : Hid (StrRow wr xn (over ((prtW (withL o2)).take 0) c1)) := hide ((unhide HN).congr fun m hm => upF_full c1 m hm)
      obtain ⟨ao, cap, hu2, hw1, hw2, hw3, hw4⟩ := (unhide HV).here
      obtain ⟨n2, hn2⟩ : ∃ n2, n2 = (withL o2).length := ⟨_, rfl⟩
      have h16 : n2 ≤ 16 := by rw [hn2]; exact (okW_with o2).2
      rw [← hn2] at hu2
      have HN3 := hide hn2
      have hn2I : (n2 : Int) ≤ 16 := by omega
      subst hu2
      clear HO HN hw1 hw2 hw3 hw4 hn2 hlt hj
      rename World => W0
      go_wp2_with fail
      go_loopw [25] (fun i wr => ∃ (j : Nat), i = .int .i64 (j : Int) ∧ j ≤ n2 ∧ Hid (Lull w wr b l0b 2588 (fun j => G j ∨ j = xo ∨ j = xn) S c1) ∧ Hid (StrRow wr xo c1) ∧ Hid (StrRow wr xn (over ((prtW (withL o2)).take j) c1)) ∧ Hid (WrsG wr G (.slice ao n2 cap) (withL o2))) (fun i _ => n2 - (intOf i).toNat)
      case atStart => exact ⟨0, rfl, by omega, HL, HO2, HN2, HV⟩
      case round =>
        obtain ⟨j, rfl, hj, HL, HO, HN, HV⟩ := hrel
        clear HO2 HN2
        by_cases hlt : j < n2
        · have hlt' : (j : Int) < (n2 : Int) := by omega
          have hjw : j < (withL o2).length := by rw [← unhide HN3]; exact hlt
          obtain ⟨ao', cap', e, _, _, _, h4⟩ := (unhide HV).here
          rw [← unhide HN3] at e
          injection e with e1 e2 e3
          clear e2 e3
          obtain ⟨g, off, hao, hgl, hcl⟩ := h4 (by rw [← unhide HN3]; omega)
          obtain ⟨a, c, d0, d1, sl⟩ := hcl j hjw
          have hok := (okW_with o2).1 _ (List.getElem_mem hjw)
          have HTK : Hid ((prtW (withL o2)).take (j + 1) = (prtW (withL o2)).take j ++ [((withL o2)[j].1.toNat, (withL o2)[j].2)]) := hide (by
            rw [List.take_succ_eq_append_getElem (by unfold prtW; rw [List.length_map]; exact hjw)]
            simp [prtW])
          obtain ⟨x, hx⟩ : ∃ x, x = (withL o2)[j] := ⟨_, rfl⟩
          rw [← hx] at d0 sl hok HTK
          obtain ⟨x1, L⟩ := x
          obtain ⟨m, hm⟩ : ∃ m : Nat, x1 = (m : Int) := ⟨x1.toNat, by simp only at hok; omega⟩
          subst hm
          simp only [Int.toNat_natCast] at d0 sl hok HTK
          have hm44 : m < 44 := by omega
          have hmI : (m : Int) < 44 := by omega
          have hm0 : (0 : Int) ≤ (m : Int) := Int.natCast_nonneg _
          have hj0 : (0 : Int) ≤ (j : Int) := Int.natCast_nonneg _
          have cn := (unhide HN).cell m hm44
          have fn := (unhide HN).fz m
          have sv : (convert 34 9 (.slice a 512 c)).run Try.prog wr.drew = .ok (.string ⟨L.toArray⟩) wr.drew := (sl.below (Below.refl _ _).drew (Nat.le_refl _)).strJ
          have o9 : Only xn wr.drew (wr.drew.setCell ⟨xn, m, none⟩ (.string ⟨L.toArray⟩)) := (Only.refl xn wr.drew).set _ _
          have HF : Hid (Lull w (wr.drew.setCell ⟨xn, m, none⟩ (.string ⟨L.toArray⟩)) b l0b 2588 (fun j => G j ∨ j = xo ∨ j = xn) S c1 ∧ StrRow (wr.drew.setCell ⟨xn, m, none⟩ (.string ⟨L.toArray⟩)) xo c1 ∧ StrRow (wr.drew.setCell ⟨xn, m, none⟩ (.string ⟨L.toArray⟩)) xn (over ((prtW (withL o2)).take (j + 1)) c1) ∧ WrsG (wr.drew.setCell ⟨xn, m, none⟩ (.string ⟨L.toArray⟩)) G (.slice ao n2 cap) (withL o2)) := hide
            ⟨((unhide HL).grown (Below.refl _ _).drew fun j hj => .inl hj).only o9 (.inr (.inr rfl)) hwn, (o9.other xo hxon).trans (unhide HO), by rw [unhide HTK, over_snoc]; exact StrRow.set (w := wr.drew) (unhide HN) m hm44 L, (unhide HV).same ((show SameG G wr wr.drew from ⟨Nat.le_refl _, fun _ _ => rfl⟩).trans (SameG.only o9 hGn))⟩
          have hao' : ao = some ⟨g, off, none⟩ := by rw [e1, hao]
          subst hao'
          clear hx sl hcl h4 hao e1 HL HO HN HV o9 hok HTK
          go_wp2_with fail
          go_region
          all_goals
            go_wp2
            go_roundw
            case rel => exact ⟨j + 1, by go_num, by omega, hide (unhide HF).1, hide (unhide HF).2.1, hide (unhide HF).2.2.1, hide (unhide HF).2.2.2⟩
            case measure => simp [intOf]; omega
        · have hlt' : ¬ (j : Int) < (n2 : Int) := by omega
          obtain rfl : j = n2 := by omega
          obtain ⟨c2, hc2⟩ : ∃ c2, c2 = over (prtW (withL o2)) c1 := ⟨_, rfl⟩
          have HN2 : Hid (StrRow wr xn c2) := hide (by
            have := unhide HN
            rw [List.take_of_length_le (by unfold prtW; rw [List.length_map, ← unhide HN3]; exact Nat.le_refl _)] at this
            rw [hc2]; exact this)
          have HC2 := hide hc2
          clear HN hlt hj hc2
          go_wp2_with fail
          refine (Pick_60 l wr l0 l1).mono ?_
          rintro e w7 ⟨rfl, rfl⟩
          have hpk := pickR_lt l 59
          obtain ⟨m, hm⟩ : ∃ m, m = pickR l 59 := ⟨_, rfl⟩
          rw [← hm] at hpk ⊢
          clear hm
          go_wp2_with fail
          refine (Fuse_r (unhide HL).rst (m : Int) (by omega) (by omega)).mono ?_
          rintro e w8 ⟨rfl, r8, g8⟩
          rw [(unhide HL).free.up]
          have R8 := hide r8
          have HO8 : Hid (StrRow w8 xo c1) := hide ((g8.2 xo (.inr (.inl rfl))).trans (unhide HO))
          have HN8 : Hid (StrRow w8 xn c2) := hide ((g8.2 xn (.inr (.inr rfl))).trans (unhide HN2))
          have HV8 := hide ((unhide HV).same (g8.mono fun q hq => .inl hq))
          have hq8 := (unhide HL).quiet.fuseK (m : Int)
          have ho8 := r8.ops
          have hn8 : ∀ k, (S.fuseK (m : Int)).pend k = [] := fun k => by rw [St.fuseK_pend]; exact (unhide HL).none k
          have hl8 : (S.fuseK (m : Int)).safe.length = 64 := by rw [St.fuseK_len]; exact (unhide HL).len
          obtain ⟨c', hh⟩ := half_of hq8 hn8 hl8 (by omega) (withL o2) (okW_with o2).2 (okW_with o2).1 qs
          have CM := hide (Commit_r r8 hq8 (by omega) _ _ (unhide HV8).here)
          have HH := hide hh
          clear r8 g8 hq8 ho8 hn8 hl8 hh HL HO HN2 HV
          go_wp2_with fail
          refine (unhide CM).mono ?_
          rintro e w9 ⟨rfl, r9, g9⟩
          have R9 := hide r9.dev
          have HO9 : Hid (StrRow w9 xo c1) := hide ((g9.2 xo (.inr (.inl rfl))).trans (unhide HO8))
          have HN9 : Hid (StrRow w9 xn c2) := hide ((g9.2 xn (.inr (.inr rfl))).trans (unhide HN8))
          obtain ⟨pr, hpr⟩ : ∃ pr, pr = comE (S.fuseK (m : Int)) (withL o2) := ⟨_, rfl⟩
          rw [← hpr] at HH R9 ⊢
          clear r9 g9 CM HO8 HN8 HV8 R8 hpr
          go_wp2_with fail
          refine (Crash_r (unhide R9) (by omega) qs v5 (unhide H5)).mono ?_
          rintro e wB ⟨rfl, rB, gB⟩
          obtain ⟨ns, hsd⟩ := (unhide HH).sound
          have OP := hide (Open_l rB hsd (Free.crash _ _) (unhide HH).len (by omega))
          have HOB : Hid (StrRow wB xo c1) := hide ((gB.2 xo (.inr (.inl rfl))).trans (unhide HO9))
          have HNB : Hid (StrRow wB xn c2) := hide ((gB.2 xn (.inr (.inr rfl))).trans (unhide HN9))
          have HA := (unhide HH).ans
          rw [← unhide HC2] at HA
          have HA := hide HA
          clear rB gB hsd HH R9 HO9 HN9
          go_wp2_with fail
          refine (unhide OP).mono ?_
          rintro e wC ⟨gC, mb, T4, rfl, lC⟩
          have LC := hide lC
          have HOC : Hid (StrRow wC xo c1) := hide ((gC.2 xo (.inr (.inl rfl))).trans (unhide HOB))
          have HNC : Hid (StrRow wC xn c2) := hide ((gC.2 xn (.inr (.inr rfl))).trans (unhide HNB))
          clear gC lC OP HOB HNB
          -- the answer, and what is there
          have HC : Hid ((pr.1 = 0 ∧ pr.2.down = false ∧ ∀ n, n < 44 → c' n = c2 n) ∨ (pr.1 = 2 ∧ pr.2.down = true ∧ ∀ n, n < 44 → c' n = c2 n) ∨ (pr.1 = 2 ∧ pr.2.down = true ∧ ∀ n, n < 44 → c' n = c1 n)) := hide (by
            rcases unhide HA with ⟨a1, a2, a3⟩ | ⟨a1, a2, a3 | a3⟩
            · exact .inl ⟨a1, a2, a3⟩
            · exact .inr (.inr ⟨a1, a2, a3⟩)
            · exact .inr (.inl ⟨a1, a2, a3⟩))
          obtain ⟨pe, hpe⟩ : ∃ pe, pe = pr.1 := ⟨_, rfl⟩
          have HC : Hid ((pr.1 = 0 ∧ ∀ n, n < 44 → c' n = c2 n) ∨ (pr.1 = 2 ∧ ∀ n, n < 44 → c' n = c2 n) ∨ (pr.1 = 2 ∧ ∀ n, n < 44 → c' n = c1 n)) := hide (by
            rcases unhide HC with ⟨a1, _, a3⟩ | ⟨a1, _, a3⟩ | ⟨a1, _, a3⟩
            · exact .inl ⟨a1, a3⟩
            · exact .inr (.inl ⟨a1, a3⟩)
            · exact .inr (.inr ⟨a1, a3⟩))
          rw [← hpe] at HC
          rw [← hpe]
          clear HA hpe
          have BIN := hide (fun (W : World) (N : Nat) (S : St) (h : Lull w W b mb N (fun j => G j ∨ j = xo ∨ j = xn) S c') => h.rst.bel)
          rcases unhide HC with ⟨rfl, hcc⟩ | ⟨rfl, hcc⟩ | ⟨rfl, hcc⟩
          · have HCC := hide hcc
            clear HC hcc
            go_wp2_with fail
            go_loopw [29, 30, 31] (fun a c i wr => ∃ (j : Nat) (S : St) (x : Bool), a = .bool x ∧ c = .bool true ∧ i = .int .i64 (j : Int) ∧ j ≤ 44 ∧ Hid (Lull w wr b mb (2900 + 2 * j) (fun j => G j ∨ j = xo ∨ j = xn) S c') ∧ Hid (StrRow wr xo c1) ∧ Hid (StrRow wr xn c2)) (fun _ _ i _ => 44 - (intOf i).toNat)
            case atStart => exact ⟨0, T4, false, rfl, rfl, rfl, by omega, hide ((unhide LC).mono (by omega)), HOC, HNC⟩
            case round =>
              obtain ⟨j, S, x, rfl, rfl, rfl, hj, HL, HO, HN⟩ := hrel
              clear LC HOC HNC
              by_cases hlt : j < 44
              · have hlt' : (j : Int) < 44 := by omega
                have hj0 : (0 : Int) ≤ (j : Int) := Int.natCast_nonneg _
                go_wp2_with fail
                refine (Read_l (unhide HL) (by omega) j hlt).mono ?_
                rintro e w7 ⟨sg, q, rfl, hq, hr, h5, l7⟩
                have ro : StrRow w7 xo c1 := (sg.2 xo (.inr (.inl rfl))).trans (unhide HO)
                have rn : StrRow w7 xn c2 := (sg.2 xn (.inr (.inr rfl))).trans (unhide HN)
                have co := ro.cell j hlt
                have cn := rn.cell j hlt
                have e2 := unhide HCC j hlt
                have sv : ∀ nq, (convert 34 9 (.slice (some ⟨q, 0, none⟩) 512 512)).run Try.prog (w7.drewN nq) = .ok (.string ⟨(c' j).toArray⟩) (w7.drewN nq) := fun nq => ((sl_block hr h5).below (below_drewN (Below.refl _ _) nq) (Nat.le_refl _)).strJ
                rw [← e2] at cn
                have HF : Hid (∀ nq, Lull w (w7.drewN nq) b mb (2900 + 2 * (j + 1)) (fun j => G j ∨ j = xo ∨ j = xn) S.burn c' ∧ StrRow (w7.drewN nq) xo c1 ∧ StrRow (w7.drewN nq) xn c2) := hide fun nq => ⟨(l7.grown (below_drewN (Below.refl _ _) nq) fun j hj => .inl hj).mono (by omega), ro, rn⟩
                obtain ⟨cj, hcj⟩ : ∃ cj, cj = c' j := ⟨_, rfl⟩
                obtain ⟨oj, hoj⟩ : ∃ oj, oj = c1 j := ⟨_, rfl⟩
                rw [← hcj] at cn sv
                rw [← hoj] at co
                clear hr h5 l7 sg ro rn e2 HL HO HN hcj hoj hq
                cases x with
                | true =>
                  go_wp2_with fail
                  go_quiet (fail)
                  go_wp2_with fail
                  go_quiet (fail)
                  go_wp2_with fail
                  refine ⟨⟨j + 1, S.burn, _, rfl, rfl, by go_num, by omega, hide (unhide HF _).1, hide (unhide HF _).2.1, hide (unhide HF _).2.2⟩, ?_⟩
                  simp [intOf]
                  omega
                | false =>
                  go_wp2_with fail
                  go_quiet (fail)
                  go_wp2_with fail
                  go_quiet (fail)
                  go_wp2_with fail
                  refine ⟨⟨j + 1, S.burn, _, rfl, rfl, by go_num, by omega, hide (unhide HF _).1, hide (unhide HF _).2.1, hide (unhide HF _).2.2⟩, ?_⟩
                  simp [intOf]
                  omega
              · have hlt' : ¬ (j : Int) < 44 := by omega
                have HB := hide (unhide HL).rst.bel
                clear HL HO HN
                cases x with
                | true =>
                  go_wp2
                  go_ret
                  exact ⟨rfl, unhide HB⟩
                | false =>
                  go_wp2
                  go_ret
                  exact ⟨rfl, unhide HB⟩
          · have HCC := hide hcc
            clear HC hcc
            go_wp2_with fail
            go_loopw [29, 30, 31] (fun a c i wr => ∃ (j : Nat) (S : St) (x : Bool), a = .bool x ∧ c = .bool true ∧ i = .int .i64 (j : Int) ∧ j ≤ 44 ∧ Hid (Lull w wr b mb (2900 + 2 * j) (fun j => G j ∨ j = xo ∨ j = xn) S c') ∧ Hid (StrRow wr xo c1) ∧ Hid (StrRow wr xn c2)) (fun _ _ i _ => 44 - (intOf i).toNat)
            case atStart => exact ⟨0, T4, true, rfl, rfl, rfl, by omega, hide ((unhide LC).mono (by omega)), HOC, HNC⟩
            case round =>
              obtain ⟨j, S, x, rfl, rfl, rfl, hj, HL, HO, HN⟩ := hrel
              clear LC HOC HNC
              by_cases hlt : j < 44
              · have hlt' : (j : Int) < 44 := by omega
                have hj0 : (0 : Int) ≤ (j : Int) := Int.natCast_nonneg _
                go_wp2_with fail
                refine (Read_l (unhide HL) (by omega) j hlt).mono ?_
                rintro e w7 ⟨sg, q, rfl, hq, hr, h5, l7⟩
                have ro : StrRow w7 xo c1 := (sg.2 xo (.inr (.inl rfl))).trans (unhide HO)
                have rn : StrRow w7 xn c2 := (sg.2 xn (.inr (.inr rfl))).trans (unhide HN)
                have co := ro.cell j hlt
                have cn := rn.cell j hlt
                have e2 := unhide HCC j hlt
                have sv : ∀ nq, (convert 34 9 (.slice (some ⟨q, 0, none⟩) 512 512)).run Try.prog (w7.drewN nq) = .ok (.string ⟨(c' j).toArray⟩) (w7.drewN nq) := fun nq => ((sl_block hr h5).below (below_drewN (Below.refl _ _) nq) (Nat.le_refl _)).strJ
                rw [← e2] at cn
                have HF : Hid (∀ nq, Lull w (w7.drewN nq) b mb (2900 + 2 * (j + 1)) (fun j => G j ∨ j = xo ∨ j = xn) S.burn c' ∧ StrRow (w7.drewN nq) xo c1 ∧ StrRow (w7.drewN nq) xn c2) := hide fun nq => ⟨(l7.grown (below_drewN (Below.refl _ _) nq) fun j hj => .inl hj).mono (by omega), ro, rn⟩
                obtain ⟨cj, hcj⟩ : ∃ cj, cj = c' j := ⟨_, rfl⟩
                obtain ⟨oj, hoj⟩ : ∃ oj, oj = c1 j := ⟨_, rfl⟩
                rw [← hcj] at cn sv
                rw [← hoj] at co
                clear hr h5 l7 sg ro rn e2 HL HO HN hcj hoj hq
                cases x with
                | true =>
                  go_wp2_with fail
                  go_quiet (fail)
                  go_wp2_with fail
                  go_quiet (fail)
                  go_wp2_with fail
                  refine ⟨⟨j + 1, S.burn, _, rfl, rfl, by go_num, by omega, hide (unhide HF _).1, hide (unhide HF _).2.1, hide (unhide HF _).2.2⟩, ?_⟩
                  simp [intOf]
                  omega
                | false =>
                  go_wp2_with fail
                  go_quiet (fail)
                  go_wp2_with fail
                  go_quiet (fail)
                  go_wp2_with fail
                  refine ⟨⟨j + 1, S.burn, _, rfl, rfl, by go_num, by omega, hide (unhide HF _).1, hide (unhide HF _).2.1, hide (unhide HF _).2.2⟩, ?_⟩
                  simp [intOf]
                  omega
              · have hlt' : ¬ (j : Int) < 44 := by omega
                have HB := hide (unhide HL).rst.bel
                clear HL HO HN
                cases x with
                | true =>
                  go_wp2
                  go_ret
                  exact ⟨rfl, unhide HB⟩
                | false =>
                  go_wp2
                  go_ret
                  exact ⟨rfl, unhide HB⟩
          · have HCC := hide hcc
            clear HC hcc
            go_wp2_with fail
            go_loopw [29, 30, 31] (fun a c i wr => ∃ (j : Nat) (S : St) (x : Bool), c = .bool x ∧ a = .bool true ∧ i = .int .i64 (j : Int) ∧ j ≤ 44 ∧ Hid (Lull w wr b mb (2900 + 2 * j) (fun j => G j ∨ j = xo ∨ j = xn) S c') ∧ Hid (StrRow wr xo c1) ∧ Hid (StrRow wr xn c2)) (fun _ _ i _ => 44 - (intOf i).toNat)
            case atStart => exact ⟨0, T4, true, rfl, rfl, rfl, by omega, hide ((unhide LC).mono (by omega)), HOC, HNC⟩
            case round =>
              obtain ⟨j, S, x, rfl, rfl, rfl, hj, HL, HO, HN⟩ := hrel
              clear LC HOC HNC
              by_cases hlt : j < 44
              · have hlt' : (j : Int) < 44 := by omega
                have hj0 : (0 : Int) ≤ (j : Int) := Int.natCast_nonneg _
                go_wp2_with fail
                refine (Read_l (unhide HL) (by omega) j hlt).mono ?_
                rintro e w7 ⟨sg, q, rfl, hq, hr, h5, l7⟩
                have ro : StrRow w7 xo c1 := (sg.2 xo (.inr (.inl rfl))).trans (unhide HO)
                have rn : StrRow w7 xn c2 := (sg.2 xn (.inr (.inr rfl))).trans (unhide HN)
                have co := ro.cell j hlt
                have cn := rn.cell j hlt
                have e2 := unhide HCC j hlt
                have sv : ∀ nq, (convert 34 9 (.slice (some ⟨q, 0, none⟩) 512 512)).run Try.prog (w7.drewN nq) = .ok (.string ⟨(c' j).toArray⟩) (w7.drewN nq) := fun nq => ((sl_block hr h5).below (below_drewN (Below.refl _ _) nq) (Nat.le_refl _)).strJ
                rw [← e2] at co
                have HF : Hid (∀ nq, Lull w (w7.drewN nq) b mb (2900 + 2 * (j + 1)) (fun j => G j ∨ j = xo ∨ j = xn) S.burn c' ∧ StrRow (w7.drewN nq) xo c1 ∧ StrRow (w7.drewN nq) xn c2) := hide fun nq => ⟨(l7.grown (below_drewN (Below.refl _ _) nq) fun j hj => .inl hj).mono (by omega), ro, rn⟩
                obtain ⟨cj, hcj⟩ : ∃ cj, cj = c' j := ⟨_, rfl⟩
                obtain ⟨oj, hoj⟩ : ∃ oj, oj = c2 j := ⟨_, rfl⟩
                rw [← hcj] at co sv
                rw [← hoj] at cn
                clear hr h5 l7 sg ro rn e2 HL HO HN hcj hoj hq
                cases x with
                | true =>
                  go_wp2_with fail
                  go_quiet (fail)
                  go_wp2_with fail
                  go_quiet (fail)
                  go_wp2_with fail
                  refine ⟨⟨j + 1, S.burn, _, rfl, rfl, by go_num, by omega, hide (unhide HF _).1, hide (unhide HF _).2.1, hide (unhide HF _).2.2⟩, ?_⟩
                  simp [intOf]
                  omega
                | false =>
                  go_wp2_with fail
                  go_quiet (fail)
                  go_wp2_with fail
                  go_quiet (fail)
                  go_wp2_with fail
                  refine ⟨⟨j + 1, S.burn, _, rfl, rfl, by go_num, by omega, hide (unhide HF _).1, hide (unhide HF _).2.1, hide (unhide HF _).2.2⟩, ?_⟩
                  simp [intOf]
                  omega
              · have hlt' : ¬ (j : Int) < 44 := by omega
                have HB := hide (unhide HL).rst.bel
                clear HL HO HN
                cases x with
                | true =>
                  go_wp2
                  go_ret
                  exact ⟨rfl, unhide HB⟩
                | false =>
                  go_wp2
                  go_ret
                  exact ⟨rfl, unhide HB⟩

set_option maxRecDepth 100000 in
theorem JGhosts.lifted (os : Os) (started : os.Started) (H : Type) (enc : TypeId × Value → H) :
    ReturnsInHanded {} Try.checked os 4 .any (Rows.journalGhostsSpec.pre6 enc Try.prog Try.f4 Rows.journalGhostsRow.domain false) (Rows.journalGhostsSpec.post enc Try.prog Try.f4 false true false false) := by
  refine returnsInHanded_of_change (C := Try.checked) own_knob started (by kernel_rfl) Try.func4
    (ChangeSpec.witness6 (enc := enc) (C := Try.checked) false ⟨#[], #[.slice none 0 0, .int .i64 0, .slice none 0 0, .slice none 0 0, .int .i64 0, .slice none 0 0], []⟩ 8 (by kernel_rfl) (by kernel_rfl) (by kernel_rfl) (by kernel_rfl)) ?_
  intro W base args ds gs before hval0 hW hcnd _
  have hval : ∀ (j : Nat) t v, Try.f4.params[j]? = some t → args[j]? = some v → Value.okWide Try.prog W .any base t v := hval0
  have hW' := hW
  obtain ⟨p, q, hA0, hV, rfl, hfz, hnd⟩ := hW
  have hA : DataW.TrodAll enc Try.prog W 0 (fun _ => true) true Try.f4.params.toList args.toList ds p := hA0
  rw [Try.params4] at hA hval
  obtain ⟨v0, vs0, d0, ds0, p0, q0, e0, rfl, rfl, h0, hA⟩ := trodAll_cons hA
  obtain ⟨v1, vs1, d1, ds1, p1, q1, rfl, rfl, rfl, h1, hA⟩ := trodAll_cons hA
  obtain ⟨v2, vs2, d2, ds2, p2, q2, rfl, rfl, rfl, h2, hA⟩ := trodAll_cons hA
  obtain ⟨v3, vs3, d3, ds3, p3, q3, rfl, rfl, rfl, h3, hA⟩ := trodAll_cons hA
  obtain ⟨v4, vs4, d4, ds4, p4, q4, rfl, rfl, rfl, h4, hA⟩ := trodAll_cons hA
  obtain ⟨v5, vs5, d5, ds5, p5, q5, rfl, rfl, rfl, h5, hA⟩ := trodAll_cons hA
  obtain ⟨rfl, rfl, rfl⟩ := trodAll_nil hA
  obtain rfl : args = #[v0, v1, v2, v3, v4, v5] := by cases args; simp_all
  obtain ⟨rfl, rfl⟩ := trodVars_none hV
  obtain ⟨a0, len0, cap0, rfl⟩ := okWide_slice Try.underlying22 (hval 0 22 v0 rfl rfl)
  obtain ⟨x1, rfl, rfl, rfl, w1⟩ := open_int Try.underlying3 (hval 1 3 v1 rfl rfl) h1
  obtain ⟨a2, len2, cap2, rfl⟩ := okWide_slice Try.underlying23 (hval 2 23 v2 rfl rfl)
  obtain ⟨a3, len3, cap3, rfl⟩ := okWide_slice Try.underlying22 (hval 3 22 v3 rfl rfl)
  obtain ⟨x4, rfl, rfl, rfl, w4⟩ := open_int Try.underlying3 (hval 4 3 v4 rfl rfl) h4
  obtain ⟨a5, len5, cap5, rfl⟩ := okWide_slice Try.underlying23 (hval 5 23 v5 rfl rfl)
  have k0 := h0
  have lt0 : ∀ x ∈ p0, x.block < W.heap.size := by obtain ⟨m, hm⟩ := k0; exact DataW.trod_lt m _ _ _ hm
  have k2 := h2
  have lt2 : ∀ x ∈ p2, x.block < W.heap.size := by obtain ⟨m, hm⟩ := k2; exact DataW.trod_lt m _ _ _ hm
  have k3 := h3
  have lt3 : ∀ x ∈ p3, x.block < W.heap.size := by obtain ⟨m, hm⟩ := k3; exact DataW.trod_lt m _ _ _ hm
  have k5 := h5
  have lt5 : ∀ x ∈ p5, x.block < W.heap.size := by obtain ⟨m, hm⟩ := k5; exact DataW.trod_lt m _ _ _ hm
  obtain ⟨l0, hl0⟩ := open_ones h0
  have bx1 := bounds_i64 w1
  obtain ⟨l2, hl2⟩ := open_intl h2
  obtain ⟨l3, hl3⟩ := open_ones h3
  have bx4 := bounds_i64 w4
  obtain ⟨l5, hl5⟩ := open_intl h5
  clear hA0 hval0
  refine (JGhosts.go W _ l0 hl0 x1 (by omega) (by omega) _ l2 hl2 _ l3 hl3 x4 (by omega) (by omega) _ l5 hl5).mono fun e W' ⟨he, bel⟩ => ?_
  subst he
  exact ⟨_, rfl, _, _, _, [], _, [], hW', trodAll_mk1 (shut_bool Try.underlying4 _), (trodAll_cons_mk (Below.trod laid_out (by kernel_rfl) (of_decide_eq_true (by kernel_rfl)) k0 bel lt0) (trodAll_cons_mk (shut_int Try.underlying3 w1) (trodAll_cons_mk (Below.trod laid_out (by kernel_rfl) (of_decide_eq_true (by kernel_rfl)) k2 bel lt2) (trodAll_cons_mk (Below.trod laid_out (by kernel_rfl) (of_decide_eq_true (by kernel_rfl)) k3 bel lt3) (trodAll_cons_mk (shut_int Try.underlying3 w4) (trodAll_cons_mk (Below.trod laid_out (by kernel_rfl) (of_decide_eq_true (by kernel_rfl)) k5 bel lt5) trodAll_mk0)))))), rfl, bel.frame _, fun h => by cases h⟩

theorem journalGhosts_holds : Rows.JournalGhostsSaid :=
  OpenClaim.holds_of_wide 4 Try.f4 rfl rfl rfl rfl rfl rfl rfl ⟨rfl, rfl, rfl, rfl, rfl⟩ rfl rfl rfl rfl rfl (by kernel_rfl) Try.func4 (by kernel_rfl)
    (of_decide_eq_true (by kernel_rfl)) (by unfold Func.isWrapper; first | (rw [if_pos (by decide +kernel)]; kernel_rfl) | (rw [if_neg (by decide +kernel)]; exact ⟨rfl, rfl⟩))
    (fun os started H enc _ => JGhosts.lifted os started H enc)
#print axioms journalGhosts_holds
end Go.Proofs.Ytgehefnkbcbldaa
