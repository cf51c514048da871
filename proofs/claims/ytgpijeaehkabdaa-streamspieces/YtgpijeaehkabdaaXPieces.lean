/-
  StreamsPieces: for every calls and two ints it returns true, and its arguments read as before. Conditions: none.
-/
import Derived.Test.YtgpijeaehkabdaaM4
import Derived.Test.YtgpijeaehkabdaaM5
namespace Go.Proofs.Ytgpijeaehkabdaa
open Go.ChangeShapes Go.WideShapes Go.ChangeAt Go.RowKit Go.Maps
open Go.ChangeMaps (open_string shut_string)
set_option linter.unusedVariables false

def StrBig (I : Ix) (s : List UInt8) (w : World) (e : Ending) (w' : World) : Prop := ∃ q zs, e = .returned (.tuple #[.slice (some ⟨q, 0, none⟩) (I.ver s) (I.ver s), .int .i64 0]) ∧ PlSt w w' q (I.ver s) (I.ver s) I s 0 zs
theorem Stream_big {w : World} {F : Nat → Prop} {x N : Nat} {I : Ix} (h : IxAt w F x N I) (hN : N ≤ 100000) (s : List UInt8) (hs : s.length ≤ maxLen) : Calls Try.prog 16 #[.pointer (some ⟨x, 0, none⟩), sv s, .int .i64 0, .int .i64 100000] w (StrBig I s w) := by
  have hl : I.all.length ≤ N := by
    obtain ⟨st, _, _, mp, mk, xs, av, pf, D1, D2, hin⟩ := h
    exact hin.len
  have hv := ver_le I s
  have c := Stream_go h hN s hs 0 100000 (by omega) (by omega)
  rw [big_int] at c
  refine c.mono ?_
  rintro e w' ⟨q, zs, he, st⟩
  have e1 : min 100000 (I.ver s - 0) = I.ver s := by omega
  rw [e1] at he st
  exact ⟨q, zs, he, st⟩

theorem piece_all {w W w2 W2 : World} {q q2 L sz j : Nat} {I : Ix} {zs zs2 : List Eno} (hL : L = I.all.length) (h : AlSt w W q (min sz (L - j)) (min sz (L - j)) I j zs) (h2 : AlSt w2 W2 q2 L L I 0 zs2) : (zs.map fun z => (z.pos, z.e)) = ((zs2.map fun z => (z.pos, z.e)).drop j).take sz := by
  refine List.ext_getElem (by simp [h.len, h2.len]) fun i h3 h4 => ?_
  simp only [List.length_map] at h3
  have hm := h.len
  obtain ⟨a1, a2⟩ := h.ent i h3
  have hi2 : j + i < zs2.length := by rw [h2.len]; omega
  obtain ⟨b1, b2⟩ := h2.ent (j + i) hi2
  simp only [List.getElem_map, List.getElem_take, List.getElem_drop]
  rw [Nat.zero_add] at b1 b2
  rw [a2] at b2
  rw [a1, b1, Option.some.inj b2]
theorem piece_str {w W w2 W2 : World} {q q2 V sz j : Nat} {I : Ix} {s : List UInt8} {zs zs2 : List Eno} (h : PlSt w W q (min sz (V - j)) (min sz (V - j)) I s j zs) (h2 : PlSt w2 W2 q2 V V I s 0 zs2) : (zs.map fun z => (z.pos, z.e)) = ((zs2.map fun z => (z.pos, z.e)).drop j).take sz := by
  refine List.ext_getElem (by simp [h.len, h2.len]) fun i h3 h4 => ?_
  simp only [List.length_map] at h3
  have hm := h.len
  obtain ⟨a1, a2⟩ := h.ent i h3
  have hi2 : j + i < zs2.length := by rw [h2.len]; omega
  obtain ⟨b1, b2⟩ := h2.ent (j + i) hi2
  simp only [List.getElem_map, List.getElem_take, List.getElem_drop]
  rw [Nat.zero_add] at b1
  rw [a1] at b1
  have e := Option.some.inj b1
  rw [← e, a2] at b2
  rw [e, Option.some.inj b2]

theorem pieces_kept {W W' Wa : World} {v : Value} {A : List Eno} {q m : Nat} {zm : List Eno} (ho : EnOwn W v A) (hg : W.grownBy W' v.ownBlock) (hq : Wa.heap.size ≤ q ∧ ∀ g, v.ownBlock = some g → g < Wa.heap.size) (hm : EnBlk W q m zm) : EnBlk W' q m zm :=
  hm.same (hg.block q hm.lt fun e => by have := hq.2 q e.symm; omega) fun z hz => hg.block _ (hm.2 z hz).1.lt fun e => by
    obtain ⟨cur, hc⟩ := ownsRow_mark ho.row e.symm
    exact (hm.2 z hz).1.kind hc (by decide) rfl

set_option maxRecDepth 100000 in
set_option maxHeartbeats 8000000 in
theorem XPieces.walk (ca : Option Addr) (cn cc : Nat) (cl : List SCl) (size which : Int) (w : World) (hc : SClL w (.slice ca cn cc) cl) (hs1 : -9223372036854775808 ≤ size) (hs2 : size ≤ 9223372036854775807) (hw1 : -9223372036854775808 ≤ which) (hw2 : which ≤ 9223372036854775807) :
    Calls Try.prog 6 #[.slice ca cn cc, .int .i64 size, .int .i64 which] w fun e w' => e = .returned (.bool true) ∧ Below w.heap.size w w' := by
  have HC := hide hc
  have HWH := hide (And.intro hw1 hw2)
  clear hc hw1 hw2
  go_enter Try.func6, Try.ntmps6
  go_wp2_with fail
  refine (awake_go _).mono ?_
  rintro e w1 ⟨rfl, b1⟩
  have B1 := hide b1
  clear b1
  go_wp2_with fail
  refine (filled_go ca cn cc cl w1 ((unhide HC).below (unhide B1))).mono ?_
  rintro e W0 ⟨x, I, rfl, st0⟩
  have ST0 := hide (st0.back (unhide B1))
  clear st0 B1 HC
  go_upto_region 5 with fail
  go_cut [38] from 33 to 37 (fun t wx => t = .bool (!decide (1 ≤ size ∧ size ≤ 1000)) ∧ wx = W0)
  case first =>
    by_cases h1 : size < 1
    · have e1 : decide (size < 1) = true := decide_eq_true h1
      have e3 : decide (1 ≤ size ∧ size ≤ 1000) = false := decide_eq_false (by omega)
      clear h1
      go_wp2
      go_meet
      exact ⟨by rw [e3]; rfl, rfl⟩
    · have e1 : decide (size < 1) = false := decide_eq_false h1
      by_cases h2 : 1000 < size
      · have e2 : decide (1000 < size) = true := decide_eq_true h2
        have e3 : decide (1 ≤ size ∧ size ≤ 1000) = false := decide_eq_false (by omega)
        clear h1 h2
        go_wp2
        go_meet
        exact ⟨by rw [e3]; rfl, rfl⟩
      · have e2 : decide (1000 < size) = false := decide_eq_false h2
        have e3 : decide (1 ≤ size ∧ size ≤ 1000) = true := decide_eq_true (by omega)
        clear h1 h2
        go_wp2
        go_meet
        exact ⟨by rw [e3]; rfl, rfl⟩
  case rest =>
    obtain ⟨rfl, rfl⟩ := hcut
    go_upto_if 38 with fail
    go_cut [1] from 33 to 38 (fun t wx => (∃ sz : Nat, t = .int .i64 (sz : Int) ∧ 1 ≤ sz ∧ sz ≤ 1000) ∧ wx = wc)
    case first =>
      by_cases hz : 1 ≤ size ∧ size ≤ 1000
      · rw [decide_eq_true hz]
        go_wp2
        go_meet
        exact ⟨⟨size.toNat, by rw [Int.toNat_of_nonneg (by omega)], by omega, by omega⟩, rfl⟩
      · rw [decide_eq_false hz]
        go_wp2
        go_meet
        exact ⟨⟨3, rfl, by omega, by omega⟩, rfl⟩
    case rest =>
      obtain ⟨⟨sz, rfl, hz1, hz2⟩, hwc⟩ := hcut
      subst hwc
      obtain ⟨F, hi, hF⟩ := (unhide ST0).ix
      have CN := hide (Names_own hi (by omega))
      have HI := hide hi
      have BL := hide (unhide ST0).bel
      have hlN := (unhide ST0).len
      clear hi hF ST0
      go_wp2_with fail
      refine (unhide CN).mono ?_
      clear CN
      rintro e W1 ⟨v, ss, rfl, _, hkl, hrow, hnil, _, b1⟩
      have HI1 := hide ((unhide HI).grown b1)
      have BL1 := hide ((unhide BL).trans (b1.mono (unhide BL).size))
      have hv : ∃ va vc, v = .slice va ss.length vc ∧ ss.length ≤ vc ∧ vc ≤ 9223372036854775807 ∧ (ss.length ≠ 0 → ∃ g, va = some ⟨g, 0, none⟩ ∧ ∀ i, (hi : i < ss.length) → ∃ nm, nm.length ≤ maxLen ∧ W1.cell? ⟨g, i, none⟩ = some (sv nm)) := by
        rcases hrow.2 with ⟨e, h0⟩ | ⟨g, cap, cur, e, _, _, h1, h2, _⟩
        · exact ⟨none, 0, by rw [e, h0], by omega, by omega, fun h => absurd h0 h⟩
        · refine ⟨_, cap, e, h1, by unfold maxLen at h2; omega, fun _ => ⟨g, rfl, fun i hi => ?_⟩⟩
          rw [e] at hrow
          have hms : i < (ss.mergeSort (fun x y => decide (x ≤ y))).length := by rw [List.length_mergeSort]; exact hi
          refine ⟨(ss.mergeSort (fun x y => decide (x ≤ y)))[i], hkl _ (List.mem_mergeSort.1 (List.getElem_mem hms)), ?_⟩
          rw [hrow.cellAt i (by omega), List.getElem?_map, List.getElem?_eq_getElem hms]
          rfl
      obtain ⟨va, vc, rfl, hv1, hv2, hv3⟩ := hv
      obtain ⟨SN, hSN⟩ : ∃ SN, SN = ss.length := ⟨_, rfl⟩
      rw [← hSN] at hv1 hv3 ⊢
      have HV3 := hide hv3
      have hSB : SN ≤ 9223372036854775807 := by omega
      clear hnil hrow hkl b1 HI BL hSN hv3
      go_upto_if 43 with fail
      go_cut [2, 10] from 41 to 55 (fun t2 t10 wx => (∃ nm : List UInt8, t10 = sv nm ∧ nm.length ≤ maxLen) ∧ wx = W1)
      case first =>
        by_cases h0 : SN = 0
        · subst h0
          go_wp2
          go_meet
          exact ⟨⟨[], rfl, by unfold maxLen; simp⟩, rfl⟩
        · have h0' : decide ((0 : Int) < (SN : Int)) = true := decide_eq_true (by omega)
          obtain ⟨g, rfl, hcell⟩ := unhide HV3 h0
          have hww := unhide HWH
          have h0n : 0 < SN := by omega
          by_cases hneg : which < 0
          · have e1 : decide (which < 0) = true := decide_eq_true hneg
            obtain ⟨u, hu⟩ : ∃ u : Nat, (u : Int) = -(which + 1) := ⟨(-(which + 1)).toNat, by omega⟩
            have wr1 : IntKind.i64.wrap (which + 1) = which + 1 := by rw [IntKind.wrap_i64]; omega
            have wr2 : IntKind.i64.wrap (-(which + 1)) = (u : Int) := by rw [IntKind.wrap_i64]; omega
            have hu9 : u ≤ 9223372036854775807 := by omega
            clear hu hneg hww
            obtain ⟨r, hr⟩ : ∃ r, r = u % SN := ⟨_, rfl⟩
            have hrl : r < SN := by rw [hr]; exact Nat.mod_lt _ (by omega)
            have hrem : (u : Int).tmod (SN : Int) = (r : Int) := by rw [hr, Int.ofNat_tmod]
            have hwr : IntKind.i64.wrap (r : Int) = (r : Int) := by rw [IntKind.wrap_i64]; omega
            have hne0 : ((SN : Int) == 0) = false := beq_eq_false_iff_ne.2 (by omega)
            obtain ⟨nm, hnm, hc0⟩ := hcell r hrl
            have HNM := hide hnm
            clear hr hcell hnm HV3 h0
            go_wp2
            go_meet
            exact ⟨⟨nm, rfl, unhide HNM⟩, rfl⟩
          · have e1 : decide (which < 0) = false := decide_eq_false hneg
            obtain ⟨u, hu⟩ : ∃ u : Nat, (u : Int) = which := ⟨which.toNat, by omega⟩
            have hu9 : u ≤ 9223372036854775807 := by omega
            subst hu
            clear hneg hww
            obtain ⟨r, hr⟩ : ∃ r, r = u % SN := ⟨_, rfl⟩
            have hrl : r < SN := by rw [hr]; exact Nat.mod_lt _ (by omega)
            have hrem : (u : Int).tmod (SN : Int) = (r : Int) := by rw [hr, Int.ofNat_tmod]
            have hwr : IntKind.i64.wrap (r : Int) = (r : Int) := by rw [IntKind.wrap_i64]; omega
            have hne0 : ((SN : Int) == 0) = false := beq_eq_false_iff_ne.2 (by omega)
            obtain ⟨nm, hnm, hc0⟩ := hcell r hrl
            have HNM := hide hnm
            clear hr hcell hnm HV3 h0
            go_wp2
            go_meet
            exact ⟨⟨nm, rfl, unhide HNM⟩, rfl⟩
      case rest =>
        obtain ⟨⟨nm, rfl, hnm⟩, hw'⟩ := hcut
        subst hw'
        have CA := hide (All_big (unhide HI1) (by omega))
        have HNM := hide hnm
        clear hnm HV3 HWH
        obtain ⟨L, hL⟩ : ∃ L, L = I.all.length := ⟨_, rfl⟩
        have HL := hide hL
        rw [← hL] at hlN
        go_wp2_with fail
        refine (unhide CA).mono ?_
        clear CA
        rintro e W2 ⟨q2, zs2, rfl, st2⟩
        rw [← hL] at st2 ⊢
        clear hL
        have CS := hide (Stream_big ((unhide HI1).grown st2.bel) (by omega) nm (unhide HNM))
        obtain ⟨V, hV⟩ : ∃ V, V = I.ver nm := ⟨_, rfl⟩
        have hVL : V ≤ L := by rw [hV, unhide HL]; exact ver_le I nm
        have HV := hide hV
        have ST2 := hide st2
        clear st2
        go_wp2_with fail
        refine (unhide CS).mono ?_
        clear CS
        rintro e W3 ⟨q3, zs3, rfl, st3⟩
        rw [← hV] at st3 ⊢
        clear hV
        have HI3 := hide (((unhide HI1).grown (unhide ST2).bel).grown st3.bel)
        have BL3 := hide (((unhide BL1).trans ((unhide ST2).bel.mono (unhide BL1).size)).trans (st3.bel.mono (Nat.le_trans (unhide BL1).size (unhide ST2).bel.size)))
        have K3 : Hid (EnBlk W3 q2 L zs2 ∧ EnBlk W3 q3 V zs3) := hide ⟨(unhide ST2).blk.grown st3.bel, st3.blk⟩
        have ST3 := hide st3
        have P0 : Hid (PcSt W3 W3 (.slice none 0 0) (.slice none 0 0) [] [] ∧ ([] : List Eno).map (fun z => (z.pos, z.e)) = (zs2.map fun z => (z.pos, z.e)).take 0 ∧ ([] : List Eno).map (fun z => (z.pos, z.e)) = (zs3.map fun z => (z.pos, z.e)).take 0) := hide ⟨⟨EnOwn.nil _, EnOwn.nil _, fun g h => (by cases h), fun g h => (by cases h), Below.refl _ _⟩, rfl, rfl⟩
        clear st3 HI1 BL1
        go_wp2
        go_loopw [15, 16, 17] (fun a b t wr => ∃ (j : Nat) (A B : List Eno), t = .int .i64 (j : Int) ∧ j ≤ L + sz ∧ Hid (PcSt W3 wr a b A B ∧ A.map (fun z => (z.pos, z.e)) = (zs2.map fun z => (z.pos, z.e)).take j ∧ B.map (fun z => (z.pos, z.e)) = (zs3.map fun z => (z.pos, z.e)).take j)) (fun _ _ t _ => L + 1 - (intOf t).toNat)
        case atStart => exact ⟨0, [], [], rfl, by omega, P0⟩
        case round =>
          obtain ⟨j, A, B, rfl, hj, PC⟩ := hrel
          clear P0
          obtain ⟨a1, c1, ha⟩ := (unhide PC).1.oa.form
          obtain ⟨a2, c2, hb⟩ := (unhide PC).1.ob.form
          subst ha hb
          have hlA : A.length ≤ L := by have := congrArg List.length (unhide PC).2.1; simp [(unhide ST2).len] at this; omega
          have hlB : B.length ≤ L := by have := congrArg List.length (unhide PC).2.2; simp [(unhide ST3).len] at this; omega
          obtain ⟨an, han⟩ : ∃ an, an = A.length := ⟨_, rfl⟩
          obtain ⟨bn, hbn⟩ : ∃ bn, bn = B.length := ⟨_, rfl⟩
          have HAB := hide (And.intro han hbn)
          rw [← han, ← hbn] at PC ⊢
          rw [← han] at hlA
          rw [← hbn] at hlB
          clear han hbn
          by_cases hlt : j ≤ L
          · have hle : decide ((j : Int) ≤ (L : Int)) = true := decide_eq_true (by omega)
            have CA := hide (All_go ((unhide HI3).grown (unhide PC).1.bel) (by omega) j sz (by omega) (by omega))
            obtain ⟨ml, hml⟩ : ∃ ml, ml = min sz (L - j) := ⟨_, rfl⟩
            obtain ⟨mm, hmm⟩ : ∃ mm, mm = min sz (V - j) := ⟨_, rfl⟩
            have hml1 : ml ≤ sz := by omega
            have hmm1 : mm ≤ sz := by omega
            have d1 : decide ((sz : Int) < (ml : Int)) = false := decide_eq_false (by omega)
            have d2 : decide ((sz : Int) < (mm : Int)) = false := decide_eq_false (by omega)
            have HML := hide hml
            have HMM := hide hmm
            have hjw : IntKind.i64.wrap ((j : Int) + (sz : Int)) = ((j + sz : Nat) : Int) := by rw [IntKind.wrap_i64]; omega
            clear hml hmm
            go_wp2_with fail
            refine (unhide CA).mono ?_
            clear CA
            rintro e Wa ⟨ql, zl, rfl, sl⟩
            rw [← unhide HL, ← unhide HML] at sl ⊢
            have SL := hide sl
            have PCa := hide ((unhide PC).1.grown sl.bel)
            have CS := hide (Stream_go ((unhide HI3).grown (unhide PCa).bel) (by omega) nm (unhide HNM) j sz (by omega) (by omega))
            clear sl
            go_wp2_with fail
            refine (unhide CS).mono ?_
            clear CS
            rintro e Wb ⟨qm, zm, rfl, sm⟩
            rw [← unhide HV, ← unhide HMM] at sm ⊢
            have SM := hide sm
            have PCb := hide ((unhide PCa).grown sm.bel)
            have EL : Hid (EnBlk Wb ql ml zl) := hide ((unhide SL).blk.grown sm.bel)
            have HLs : Hid (zl.length = ml ∧ zm.length = mm) := hide ⟨(unhide SL).len, sm.len⟩
            have MA : Hid ((A ++ zl).map (fun z => (z.pos, z.e)) = (zs2.map fun z => (z.pos, z.e)).take (j + sz)) := hide (by
              rw [List.map_append, (unhide PC).2.1, piece_all (zs := zl) (sz := sz) (unhide HL) (by rw [← unhide HML]; exact unhide SL) (unhide ST2), ← List.take_add])
            have MB : Hid ((B ++ zm).map (fun z => (z.pos, z.e)) = (zs3.map fun z => (z.pos, z.e)).take (j + sz)) := hide (by
              rw [List.map_append, (unhide PC).2.2, piece_str (zs := zm) (sz := sz) (by rw [← unhide HMM]; exact sm) (unhide ST3), ← List.take_add])
            have QM : Hid (Wa.heap.size ≤ qm ∧ ∀ g, (Value.slice a1 an c1).ownBlock = some g → g < Wa.heap.size) := hide ⟨sm.hq, fun g hg => ((unhide PCa).oa.row.lt g hg).2⟩
            have EM : Hid (EnBlk Wb qm mm zm) := hide sm.blk
            have hlAB : an + ml ≤ 100000 ∧ bn + mm ≤ 100000 := by omega
            have HLN := hide hlAB
            clear sm PC PCa hlA hlB hlAB
            go_wp2_with (first | (at_builtin; refine wpList_append_ents rfl (.tmp 107) (.tmp 108) rfl (.slice a1 an c1) A rfl (unhide PCb).oa ql ml zl rfl (unhide EL) (unhide HLs).1 (by rw [← (unhide HAB).1]; exact Nat.le_trans (unhide HLN).1 (by omega)) ?_; intro v8 w8 o8 g8 at8; have PC8 := hide ((unhide PCb).addA o8 g8 at8); have EM8 := hide (pieces_kept (unhide PCb).oa g8 (unhide QM) (unhide EM)); clear o8 g8 at8) | (at_builtin; refine wpList_append_ents rfl (.tmp 110) (.tmp 111) rfl (.slice a2 bn c2) B rfl (unhide PC8).ob qm mm zm rfl (unhide EM8) (unhide HLs).2 (by rw [← (unhide HAB).2]; exact Nat.le_trans (unhide HLN).2 (by omega)) ?_; intro v9 w9 o9 g9 at9; have PC9 := hide ((unhide PC8).addB o9 g9 at9); clear o9 g9 at9))
            go_roundw
            case rel => exact ⟨j + sz, A ++ zl, B ++ zm, rfl, by omega, hide ⟨unhide PC9, unhide MA, unhide MB⟩⟩
            case measure => simp [intOf]; omega
          · have hle : decide ((j : Int) ≤ (L : Int)) = false := decide_eq_false (by omega)
            have EA : Hid (EnL wr (.slice a1 an c1) (zs2.map fun z => (z.pos, z.e)) ∧ EnL wr (.slice (some ⟨q2, 0, none⟩) L L) (zs2.map fun z => (z.pos, z.e))) := hide (by
              have h1 := (unhide PC).1.oa.enl
              rw [(unhide PC).2.1, List.take_of_length_le (by simp [(unhide ST2).len]; omega)] at h1
              exact ⟨h1, ((unhide K3).1.grown ((unhide PC).1.bel)).enl (unhide ST2).len (by omega)⟩)
            have EB : Hid (EnL wr (.slice a2 bn c2) (zs3.map fun z => (z.pos, z.e)) ∧ EnL wr (.slice (some ⟨q3, 0, none⟩) V V) (zs3.map fun z => (z.pos, z.e))) := hide (by
              have h1 := (unhide PC).1.ob.enl
              rw [(unhide PC).2.2, List.take_of_length_le (by simp [(unhide ST3).len]; omega)] at h1
              exact ⟨h1, ((unhide K3).2.grown ((unhide PC).1.bel)).enl (unhide ST3).len (by omega)⟩)
            have BE := hide ((unhide BL3).trans ((unhide PC).1.bel.mono (unhide BL3).size))
            clear PC HAB hlA hlB
            go_wp2_with fail
            refine (SameEntries_eq _ _ _ _ _ _ _ _ (unhide EA).1 (unhide EA).2).mono ?_
            rintro e wx ⟨rfl, bx⟩
            have EB1 : Hid (EnL wx (.slice a2 bn c2) (zs3.map fun z => (z.pos, z.e)) ∧ EnL wx (.slice (some ⟨q3, 0, none⟩) V V) (zs3.map fun z => (z.pos, z.e))) := hide ⟨(unhide EB).1.below bx, (unhide EB).2.below bx⟩
            have BE1 := hide ((unhide BE).trans (bx.mono (unhide BE).size))
            clear bx EA EB BE
            go_wp2_with fail
            refine (SameEntries_eq _ _ _ _ _ _ _ _ (unhide EB1).1 (unhide EB1).2).mono ?_
            rintro e wy ⟨rfl, byy⟩
            have BE2 := hide ((unhide BE1).trans (byy.mono (unhide BE1).size))
            clear byy EB1 BE1
            go_wp2_with fail
            go_ret
            exact ⟨rfl, unhide BE2⟩

set_option maxRecDepth 100000 in
theorem XPieces.lifted (os : Os) (started : os.Started) (H : Type) (enc : TypeId × Value → H) :
    ReturnsInHanded {} Try.checked os 6 .any (Rows.streamsPiecesSpec.pre6 enc Try.prog Try.f6 Rows.streamsPiecesRow.domain false) (Rows.streamsPiecesSpec.post enc Try.prog Try.f6 false true false false) := by
  refine returnsInHanded_of_change (C := Try.checked) own_knob started (by kernel_rfl) Try.func6
    (ChangeSpec.witness6 (enc := enc) (C := Try.checked) false ⟨#[], #[.slice none 0 0, .int .i64 0, .int .i64 0], []⟩ 8 (by kernel_rfl) (by kernel_rfl) (by kernel_rfl) (by kernel_rfl)) ?_
  intro W base args ds gs before hval0 hW hcnd _
  have hval : ∀ (j : Nat) t v, Try.f6.params[j]? = some t → args[j]? = some v → Value.okWide Try.prog W .any base t v := hval0
  have hW' := hW
  obtain ⟨p, q, hA0, hV, rfl, hfz, hnd⟩ := hW
  have hA : DataW.TrodAll enc Try.prog W 0 (fun _ => true) true Try.f6.params.toList args.toList ds p := hA0
  rw [Try.params6] at hA hval
  obtain ⟨v0, vs0, d0, ds0, p0, q0, e0, rfl, rfl, h0, hA⟩ := trodAll_cons hA
  obtain ⟨v1, vs1, d1, ds1, p1, q1, rfl, rfl, rfl, h1, hA⟩ := trodAll_cons hA
  obtain ⟨v2, vs2, d2, ds2, p2, q2, rfl, rfl, rfl, h2, hA⟩ := trodAll_cons hA
  obtain ⟨rfl, rfl, rfl⟩ := trodAll_nil hA
  obtain rfl : args = #[v0, v1, v2] := by cases args; simp_all
  obtain ⟨rfl, rfl⟩ := trodVars_none hV
  obtain ⟨a0, n0, c0, rfl⟩ := okWide_slice Try.underlying22 (hval 0 22 v0 rfl rfl)
  obtain ⟨x1, rfl, rfl, rfl, w1⟩ := open_int Try.underlying3 (hval 1 3 v1 rfl rfl) h1
  obtain ⟨x2, rfl, rfl, rfl, w2⟩ := open_int Try.underlying3 (hval 2 3 v2 rfl rfl) h2
  have k0 := h0
  have lt0 : ∀ x ∈ p0, x.block < W.heap.size := by obtain ⟨m, hm⟩ := k0; exact DataW.trod_lt m _ _ _ hm
  obtain ⟨l0, g0⟩ := open_scalls h0
  have bx1 := bounds_i64 w1
  have bx2 := bounds_i64 w2
  clear hA0 hval0
  refine (XPieces.walk a0 n0 c0 l0 x1 x2 W g0 bx1.1 bx1.2 bx2.1 bx2.2).mono fun e W' ⟨he, bel⟩ => ?_
  subst he
  exact ⟨_, rfl, _, _, _, [], _, [], hW', trodAll_mk1 (shut_bool Try.underlying4 _), (trodAll_cons_mk (Below.trod laid_out (by kernel_rfl) (of_decide_eq_true (by kernel_rfl)) k0 bel lt0) (trodAll_cons_mk (shut_int Try.underlying3 w1) (trodAll_cons_mk (shut_int Try.underlying3 w2) trodAll_mk0))), rfl, bel.frame _, fun h => by cases h⟩

theorem streamsPieces_holds : Rows.StreamsPiecesSaid :=
  OpenClaim.holds_of_wide 6 Try.f6 rfl rfl rfl rfl rfl rfl rfl ⟨rfl, rfl, rfl, rfl, rfl⟩ rfl rfl rfl rfl rfl (by kernel_rfl) Try.func6 (by kernel_rfl)
    (of_decide_eq_true (by kernel_rfl)) (by unfold Func.isWrapper; first | (rw [if_pos (by decide +kernel)]; kernel_rfl) | (rw [if_neg (by decide +kernel)]; exact ⟨rfl, rfl⟩))
    (fun os started H enc _ => XPieces.lifted os started H enc)
#print axioms streamsPieces_holds
end Go.Proofs.Ytgpijeaehkabdaa
