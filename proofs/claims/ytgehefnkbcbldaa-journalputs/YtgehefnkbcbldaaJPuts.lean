/-
  JournalPuts: for every two slices of raw blocks and every slice of ints it returns true, and its arguments read as before. Conditions: none.
-/
import Derived.Test.YtgehefnkbcbldaaM7
namespace Go.Proofs.Ytgehefnkbcbldaa
open Go.ChangeShapes Go.WideShapes Go.ChangeAt Go.RowKit
set_option linter.unusedVariables false

theorem Put_f {w0 w : World} {b lb N : Nat} {G : Nat → Prop} {S : St} {c : Nat → List UInt8} (h : Rst w0 w b lb N G S false) (hq : Quiet S c) (hf : Free S) (hl : S.safe.length = 64) (hN : N < 800000) (n : Nat) (hn : n < 44) (a : Option Addr) (cp : Nat) (L : List UInt8) (hv : Sl w (.slice a 512 cp) L) (hL : L.length = 512) :
    Calls Try.prog 19 #[.pointer (some ⟨lb, 0, none⟩), .int .i64 (n : Int), .slice a 512 cp] w fun e w' => e = .returned (.int .i64 0) ∧ SameG G w w' ∧ ∃ T, Rst w0 w' b lb (N + 2) G T false ∧ Quiet T (fun m => if m = n then L else c m) ∧ Free T ∧ T.safe.length = 64 := by
  obtain ⟨F, h1, h2⟩ := h
  have hfp := hf.wr (20 + n, L)
  have hwl := wr_len S (20 + n, L)
  rcases put_cases hq n L (by rw [hl]; exact hn) with ⟨T, t1, t2, t3⟩ | ⟨T, t1, _⟩
  · rw [t1] at hfp hwl
    refine (Put_go h1 hq.up hN n (by rw [hl]; exact hn) a cp L hv hL).mono ?_
    rintro e w' ⟨rfl, lw⟩
    rw [t1] at lw ⊢
    obtain ⟨r1, r2⟩ := lw.rst h2
    exact ⟨rfl, r2, T, r1, t3, hfp.2, hwl.trans hl⟩
  · rw [t1] at hfp
    exact absurd rfl hfp.1
theorem OnL.one {w : World} {g off j n cap : Nat} {l : List On} (h : OnL w (.slice (some ⟨g, off, none⟩) n cap) l) (hn : n = l.length) (hj : j < l.length) : OnL w (.slice (some ⟨g, off + j * 3, none⟩) 1 (cap - j)) [l[j]] := by
  obtain ⟨ao, cap', e, h1, h2, h3⟩ := h
  injection e with e1 e2 e3
  subst e3
  obtain ⟨b, o, e4, hlt, hc⟩ := h3 (by omega)
  rw [e4] at e1
  cases e1
  refine ⟨_, _, rfl, by simp; omega, by omega, fun _ => ⟨g, off + j * 3, rfl, hlt, fun i hi => ?_⟩⟩
  have hi0 : i = 0 := by simp at hi; exact hi
  subst hi0
  simpa using hc j hj
theorem withL_one (o : On) : withL [o] = [onW o] := rfl

set_option maxRecDepth 100000 in
set_option maxHeartbeats 8000000 in
theorem JPuts.go (w : World) (v1 : Value) (o1 : List On) (h1 : OnL w v1 o1) (v2 : Value) (o2 : List On) (h2 : OnL w v2 o2) (v4 : Value) (ps : List Int) (h4 : Ints w v4 ps) :
    Calls Try.prog 7 #[v1, v2, v4] w fun e w' => e = .returned (.bool true) ∧ Below w.heap.size w w' := by
  have H1 := hide h1
  have H2 := hide h2
  have H4 := hide h4
  obtain ⟨pa, pcap, hp1, hp2, hp3, _⟩ := h1
  obtain ⟨np, hnp⟩ : ∃ np, np = o1.length := ⟨_, rfl⟩
  rw [← hnp] at hp1 hp2
  subst hp1
  have HNP := hide hnp
  have hnpI : (np : Int) ≤ 9223372036854775807 := by omega
  clear h2 h4 hnp
  go_enter Try.func7, Try.ntmps7
  go_wp2_with fail
  refine (Jawake_any _).mono ?_
  rintro e w1 ⟨rfl, b1⟩
  have HB1 := hide b1
  clear b1
  go_wp2_with fail
  refine (laid_l w w1 (unhide HB1)).mono ?_
  rintro e w2 ⟨b, lb, T0, rfl, l2⟩
  have L2 := hide l2
  have B2 := hide l2.rst.bel
  clear l2 HB1
  go_wp2_with (first | (refine wpList_alloc_44 rfl rfl ?_) | fail)
  obtain ⟨W3, hW3⟩ : ∃ W3, W3 = w2.alloc (.cells no44 33) := ⟨_, rfl⟩
  obtain ⟨xn, hxn⟩ : ∃ xn, xn = w2.heap.size := ⟨_, rfl⟩
  have hB3 : Below w2.heap.size w2 W3 := by rw [hW3]; exact (Below.refl _ _).alloc (Nat.le_refl _) _
  have z3 : W3.heap.size = w2.heap.size + 1 := by rw [hW3]; simp
  have SN : Hid (StrRow W3 xn (upF zeros 0)) := hide (by
    unfold StrRow
    rw [hW3, hxn, upF_zero]
    exact heap_alloc_self _ _)
  have L3 : Hid (Lull w W3 b lb 2200 (fun j => j = xn) T0 zeros) := hide ((unhide L2).grown hB3 fun j hj => .inr (by omega))
  have hwn : w.heap.size ≤ xn := by have := (unhide B2).size; omega
  rw [← hW3, ← hxn]
  clear hW3 hxn hB3 z3 L2 B2
  go_loopw [11] (fun i wr => ∃ (j : Nat) (S : St), i = .int .i64 (j : Int) ∧ j ≤ 44 ∧ Hid (Lull w wr b lb (2200 + 2 * j) (fun j => j = xn) S zeros) ∧ Hid (StrRow wr xn (upF zeros j))) (fun i _ => 44 - (intOf i).toNat)
  case atStart => exact ⟨0, T0, rfl, by omega, L3, SN⟩
  case round =>
    obtain ⟨j, S, rfl, hj, HL, HN⟩ := hrel
    clear L3 SN
    by_cases hlt : j < 44
    · have hlt' : (j : Int) < 44 := by omega
      go_wp2_with fail
      refine (Read_l (unhide HL) (by omega) j hlt).mono ?_
      rintro e w7 ⟨sg, q, rfl, hq, hr, h5, l7⟩
      have rn : StrRow w7 xn (upF zeros j) := (sg.2 xn rfl).trans (unhide HN)
      have cn := rn.cell j hlt
      have fn := rn.fz j
      have v7 := (sl_block hr h5).strJ
      obtain ⟨cj, hcj⟩ : ∃ cj, cj = zeros j := ⟨_, rfl⟩
      rw [← hcj] at v7
      have HF : Hid (Lull w (w7.setCell ⟨xn, j, none⟩ (.string ⟨cj.toArray⟩)) b lb (2200 + 2 * (j + 1)) (fun j => j = xn) S.burn zeros ∧ StrRow (w7.setCell ⟨xn, j, none⟩ (.string ⟨cj.toArray⟩)) xn (upF zeros (j + 1))) := hide
        ⟨(l7.only ((Only.refl xn w7).set _ _) rfl hwn).mono (by omega), by rw [hcj]; exact (rn.set j hlt (zeros j)).congr fun m _ => upF_set zeros j m⟩
      clear rn l7 hr h5 sg HL HN hq hcj
      go_wp2
      go_roundw
      case rel => exact ⟨j + 1, S.burn, by go_num, by omega, hide (unhide HF).1, hide (unhide HF).2⟩
      case measure => simp [intOf]; omega
    · have hlt' : ¬ (j : Int) < 44 := by omega
      obtain rfl : j = 44 := by omega
      have HN2 : Hid (StrRow wr xn zeros) := hide ((unhide HN).congr fun m hm => upF_full zeros m hm)
      have HQ0 := hide (unhide HL).quiet
      have HF0 := hide (unhide HL).free
      have HL0 := hide (unhide HL).len
      have HR0 := hide (unhide HL).rst
      clear HN HL hlt hj
      rename World => W0
      go_wp2_with fail
      go_loopw [14] (fun i wr => ∃ (j : Nat) (S : St) (c : Nat → List UInt8), i = .int .i64 (j : Int) ∧ j ≤ np ∧ j ≤ 40 ∧ Hid (Rst w wr b lb (2288 + 2 * j) (fun j => j = xn) S false) ∧ Hid (Quiet S c) ∧ Hid (Free S) ∧ Hid (S.safe.length = 64) ∧ Hid (StrRow wr xn c)) (fun i _ => 40 - (intOf i).toNat)
      case atStart => exact ⟨0, _, zeros, rfl, by omega, by omega, HR0, HQ0, HF0, HL0, HN2⟩
      case round =>
        obtain ⟨j, S, c, rfl, hj, hj40, HR, HQ, HFr, HLn, HN⟩ := hrel
        clear HR0 HQ0 HF0 HL0 HN2
        by_cases hlt : j < np
        · have hlt' : (j : Int) < (np : Int) := by omega
          by_cases h40 : j < 40
          · have h40' : (j : Int) < 40 := by omega
            have hjo : j < o1.length := by rw [← unhide HNP]; exact hlt
            obtain ⟨g, off, hga⟩ : ∃ g off, pa = some ⟨g, off, none⟩ := by
              obtain ⟨ao, cap, e, _, _, h3⟩ := unhide H1
              obtain ⟨g, off, e2, _⟩ := h3 (by omega)
              injection e with e1
              exact ⟨g, off, by rw [e1, e2]⟩
            subst hga
            have hon := ((unhide H1).one (unhide HNP) hjo).below (unhide HR).bel (Nat.le_refl _)
            obtain ⟨o, ho⟩ : ∃ o, o = o1[j] := ⟨_, rfl⟩
            rw [← ho] at hon
            have WI := hide (within_own wr _ _ hon)
            have hjc : ¬ pcap = j := by omega
            have hjc2 : (j : Int) + 1 ≤ (pcap : Int) := by omega
            have hwj : IntKind.i64.wrap ((j : Int) + 1) = (j : Int) + 1 := by rw [IntKind.wrap_i64]; omega
            clear hon ho
            go_wp2_with fail
            refine (unhide WI).mono ?_
            rintro e w7 ⟨u7, xs, rfl, ow, hd, b7⟩
            rw [withL_one] at hd
            have hx1 : xs.length = 1 := hd.1
            obtain ⟨x, rfl⟩ : ∃ x, xs = [x] := by
              match xs, hx1 with
              | [x], _ => exact ⟨x, rfl⟩
            obtain ⟨e8, hq8, hr8⟩ := hd.2 0 (by simp) (by simp)
            simp only [List.getElem_cons_zero] at e8 hq8 hr8
            obtain ⟨ao, cap7, rfl, _, _, hw4⟩ := ow.form
            obtain ⟨g8, rfl, _, hg8, hcl⟩ := hw4 (by simp)
            obtain ⟨d0, d1⟩ := hcl 0 (by simp)
            have h5 := onW_len o
            have hin := onW_in o
            simp only [List.getElem_cons_zero] at d0 d1
            obtain ⟨x1, q8⟩ := x
            simp only at e8 hq8 hr8 d0 d1
            obtain ⟨y, hy⟩ : ∃ y, y = onW o := ⟨_, rfl⟩
            rw [← hy] at e8 hr8 h5 hin
            obtain ⟨y1, L⟩ := y
            obtain ⟨m, hm⟩ : ∃ m : Nat, y1 = (m : Int) := ⟨y1.toNat, by simp only at hin; omega⟩
            subst hm
            simp only at e8 hr8 h5 hin
            subst e8
            rw [Nat.zero_mul] at d0 d1
            have hm44 : m < 44 := by omega
            have rn7 : StrRow w7 xn c := (b7.block xn ((unhide HR).gl rfl)).trans (unhide HN)
            have r7 : Rst w w7 b lb (2288 + 2 * j) (fun j => j = xn) S false := (unhide HR).grown b7 fun j hj => .inl hj
            obtain ⟨W8, hW8⟩ : ∃ W8, W8 = w7.alloc (.cells #[.int .i64 (m : Int), .slice (some ⟨q8, 0, none⟩) 512 512] 38) := ⟨_, rfl⟩
            have hB8 : Below w7.heap.size w7 W8 := by rw [hW8]; exact (Below.refl _ _).alloc (Nat.le_refl _) _
            have z8 : W8.heap.size = w7.heap.size + 1 := by rw [hW8]; simp
            have hbx : W8.heap[w7.heap.size]? = some (.cells #[.int .i64 (m : Int), .slice (some ⟨q8, 0, none⟩) 512 512] 38 (0, 0)) := by rw [hW8]; exact heap_alloc_self _ _
            have hxl : xn < w7.heap.size := r7.gl rfl
            obtain ⟨x8, hx8⟩ : ∃ x8, x8 = w7.heap.size := ⟨_, rfl⟩
            have r8 : Rst w W8 b lb (2288 + 2 * j) (fun k => k = xn ∨ (wr.heap.size ≤ k ∧ k < W8.heap.size)) S false := (unhide HR).grown (b7.trans (hB8.mono b7.size)) fun k hk => hk.imp id id
            have hq8l : q8 < w7.heap.size := lt_of_block hr8
            have sl8 : Sl W8 (.slice (some ⟨q8, 0, none⟩) 512 512) L := sl_block ((hB8.block q8 hq8l).trans hr8) h5
            have HR8 := hide ((hB8.block q8 hq8l).trans hr8)
            have PT := hide (Put_f r8 (unhide HQ) (unhide HFr) (unhide HLn) (by omega) m hm44 (some ⟨q8, 0, none⟩) 512 L sl8 h5)
            have hwx : wr.heap.size ≤ w7.heap.size := b7.size
            have hgin : wr.heap.size ≤ x8 ∧ x8 < W8.heap.size := by omega
            rw [← hx8] at hbx
            have HBX := hide hbx
            have HB8 := hide hB8
            rw [hW8] at PT
            have rn8 : StrRow W8 xn c := (hB8.block xn hxl).trans rn7
            have HRN := hide rn8
            have HY := hide hy
            have H5 := hide h5
            have HHb := hide (unhide HR).bel.size
            have hq8w : wr.heap.size ≤ q8 ∧ q8 < W8.heap.size := by omega
            clear rn7 r7 hbx r8 sl8 hw4 hcl hin h5 hB8 ow hd b7 rn8 hy HR HN WI hr8 hx1
            go_wp2_with fail
            rw [← hW8] at PT
            rw [← hx8]
            (try rw [← hW8])
            refine (unhide PT).mono ?_
            clear hx8 hW8
            rintro e w9 ⟨rfl, sg9, T, r9, q9, f9, l9⟩
            have bx8 : W8.heap[x8]? = some (.cells #[.int .i64 (m : Int), .slice (some ⟨q8, 0, none⟩) 512 512] 38 (0, 0)) := unhide HBX
            have bx9 := (sg9.2 x8 (.inr hgin)).trans bx8
            have c80 : w9.cell? ⟨x8, 0, none⟩ = some (.int .i64 (m : Int)) := (cell_of_row _ _ _ _ _ _ bx9).trans rfl
            have c81 : w9.cell? ⟨x8, 1, none⟩ = some (.slice (some ⟨q8, 0, none⟩) 512 512) := (cell_of_row _ _ _ _ _ _ bx9).trans rfl
            have v9 := (sl_block ((sg9.2 q8 (.inr hq8w)).trans (unhide HR8)) (unhide H5)).strJ
            have rn9 : StrRow w9 xn c := (sg9.2 xn (.inl rfl)).trans (unhide HRN)
            have cn := rn9.cell m hm44
            have fn := rn9.fz m
            have hmI : (m : Int) < 44 := by omega
            have hm0 : (0 : Int) ≤ (m : Int) := Int.natCast_nonneg _
            have HF : Hid (Rst w (w9.setCell ⟨xn, m, none⟩ (.string ⟨L.toArray⟩)) b lb (2288 + 2 * (j + 1)) (fun j => j = xn) T false ∧ StrRow (w9.setCell ⟨xn, m, none⟩ (.string ⟨L.toArray⟩)) xn (fun k => if k = m then L else c k)) := hide
              ⟨((r9.less (H := fun j => j = xn) fun j hj => .inl hj).only ((Only.refl xn w9).set _ _) rfl hwn).mono (by omega), rn9.set m hm44 L⟩
            have HQ9 := hide q9
            have HF9 := hide f9
            have HL9 := hide l9
            clear bx8 bx9 rn9 sg9 r9 q9 f9 l9 PT HRN HQ HFr HLn HR8 HBX HB8 d0 d1
            go_wp2
            go_roundw
            case rel => exact ⟨j + 1, T, _, by go_num, by omega, by omega, hide (unhide HF).1, HQ9, HF9, HL9, hide (unhide HF).2⟩
            case measure => simp [intOf]; omega
          · have h40' : ¬ (j : Int) < 40 := by omega
            have HR := hide ((unhide HR).mono (show 2288 + 2 * j ≤ 2368 by omega))
            have HXL := hide ((unhide HR).gl (show xn = xn from rfl))
            have HW2 := hide ((unhide H2).below (unhide HR).bel (Nat.le_refl _))
            go_wp2_with fail
            refine (within_go wr v2 o2 (unhide HW2)).mono ?_
            rintro e w7 ⟨u2, rfl, g7, b7⟩
            obtain ⟨Gw, hGw⟩ : ∃ Gw : Nat → Prop, Gw = fun j => wr.heap.size ≤ j ∧ j < w7.heap.size := ⟨_, rfl⟩
            rw [← hGw] at g7
            have R7 : Hid (Rst w w7 b lb 2368 (fun j => Gw j ∨ j = xn) S false) := hide ((unhide HR).grown b7 fun k hk => by
              rcases hk with h | h
              · rw [hGw] at h; exact .inr h
              · exact .inl h)
            have hGn : ¬ Gw xn := fun h => by rw [hGw] at h; have := unhide HXL; omega
            have HN7 : Hid (StrRow w7 xn (over ((prtW (withL o2)).take 0) c)) := hide ((b7.block xn (unhide HXL)).trans (unhide HN))
            obtain ⟨ao, cap, hu2, hw1, hw2, hw3, hw4⟩ := g7.here
            have G7 := hide g7
            obtain ⟨n2, hn2⟩ : ∃ n2, n2 = (withL o2).length := ⟨_, rfl⟩
            have h16 : n2 ≤ 16 := by rw [hn2]; exact (okW_with o2).2
            rw [← hn2] at hu2
            have HN3 := hide hn2
            have hn2I : (n2 : Int) ≤ 16 := by omega
            subst hu2
            clear g7 b7 HR HN hw1 hw2 hw3 hw4 hn2 hGw HW2 HXL
            go_wp2_with fail
            go_loopw [17] (fun i wr => ∃ (j : Nat), i = .int .i64 (j : Int) ∧ j ≤ n2 ∧ Hid (Rst w wr b lb 2368 (fun j => Gw j ∨ j = xn) S false) ∧ Hid (StrRow wr xn (over ((prtW (withL o2)).take j) c)) ∧ Hid (WrsG wr Gw (.slice ao n2 cap) (withL o2))) (fun i _ => n2 - (intOf i).toNat)
            case atStart => exact ⟨0, rfl, by omega, R7, HN7, G7⟩
            case round =>
              obtain ⟨j, rfl, hj, HR, HN, HV⟩ := hrel
              clear R7 HN7 G7
              by_cases hlt : j < n2
              · have hlt' : (j : Int) < (n2 : Int) := by omega
                have hjw : j < (withL o2).length := by rw [← unhide HN3]; exact hlt
                obtain ⟨ao', cap', e, _, _, _, h4⟩ := (unhide HV).here
                rw [← unhide HN3] at e
                injection e with e1 e2 e3
                clear e2 e3
                obtain ⟨g, off, hao, hgl, hcl⟩ := h4 (by rw [← unhide HN3]; omega)
                obtain ⟨a, cc, d0, d1, sl⟩ := hcl j hjw
                have hok := (okW_with o2).1 _ (List.getElem_mem hjw)
                have HTK : Hid ((prtW (withL o2)).take (j + 1) = (prtW (withL o2)).take j ++ [((withL o2)[j].1.toNat, (withL o2)[j].2)]) := hide (by
                  rw [List.take_succ_eq_append_getElem (by unfold prtW; rw [List.length_map]; exact hjw)]
                  simp [prtW])
                obtain ⟨x, hx⟩ : ∃ x, x = (withL o2)[j] := ⟨_, rfl⟩
                rw [← hx] at d0 sl hok HTK
                obtain ⟨x1, L⟩ := x
                obtain ⟨m, hm⟩ : ∃ m : Nat, x1 = (m : Int) := ⟨x1.toNat, by simp only at hok; omega⟩
                subst hm
                simp only [Int.toNat_natCast] at d0 sl hok HTK
                have hm44 : m < 44 := by omega
                have hmI : (m : Int) < 44 := by omega
                have hm0 : (0 : Int) ≤ (m : Int) := Int.natCast_nonneg _
                have hj0 : (0 : Int) ≤ (j : Int) := Int.natCast_nonneg _
                have cn := (unhide HN).cell m hm44
                have fn := (unhide HN).fz m
                have sv : (convert 34 9 (.slice a 512 cc)).run Try.prog wr.drew = .ok (.string ⟨L.toArray⟩) wr.drew := (sl.below (Below.refl _ _).drew (Nat.le_refl _)).strJ
                have o9 : Only xn wr.drew (wr.drew.setCell ⟨xn, m, none⟩ (.string ⟨L.toArray⟩)) := (Only.refl xn wr.drew).set _ _
                have HF : Hid (Rst w (wr.drew.setCell ⟨xn, m, none⟩ (.string ⟨L.toArray⟩)) b lb 2368 (fun j => Gw j ∨ j = xn) S false ∧ StrRow (wr.drew.setCell ⟨xn, m, none⟩ (.string ⟨L.toArray⟩)) xn (over ((prtW (withL o2)).take (j + 1)) c) ∧ WrsG (wr.drew.setCell ⟨xn, m, none⟩ (.string ⟨L.toArray⟩)) Gw (.slice ao n2 cap) (withL o2)) := hide
                  ⟨((unhide HR).grown (Below.refl _ _).drew fun j hj => .inl hj).only o9 (.inr rfl) hwn, by rw [unhide HTK, over_snoc]; exact StrRow.set (w := wr.drew) (unhide HN) m hm44 L, (unhide HV).same ((show SameG Gw wr wr.drew from ⟨Nat.le_refl _, fun _ _ => rfl⟩).trans (SameG.only o9 hGn))⟩
                have hao' : ao = some ⟨g, off, none⟩ := by rw [e1, hao]
                subst hao'
                clear hx sl hcl h4 hao e1 HR HN HV o9 hok HTK
                go_wp2_with fail
                go_region
                all_goals
                  go_wp2
                  go_roundw
                  case rel => exact ⟨j + 1, by go_num, by omega, hide (unhide HF).1, hide (unhide HF).2.1, hide (unhide HF).2.2⟩
                  case measure => simp [intOf]; omega
              · have hlt' : ¬ (j : Int) < (n2 : Int) := by omega
                obtain rfl : j = n2 := by omega
                obtain ⟨c2, hc2⟩ : ∃ c2, c2 = over (prtW (withL o2)) c := ⟨_, rfl⟩
                have HN2 : Hid (StrRow wr xn c2) := hide (by
                  have := unhide HN
                  rw [List.take_of_length_le (by unfold prtW; rw [List.length_map, ← unhide HN3]; exact Nat.le_refl _)] at this
                  rw [hc2]; exact this)
                have ho := (unhide HR).ops
                obtain ⟨T, t1, t2, t3, t4, t5⟩ := com_free (unhide HQ) (unhide HFr) (by omega) (withL o2) (okW_with o2).2 (by rw [unhide HLn]; exact (okW_with o2).1)
                have CM := Commit_r (unhide HR) (unhide HQ) (by omega) _ _ (unhide HV).here
                rw [t1] at CM
                rw [← hc2] at t2
                have HCM := hide CM
                have hsd := (t2.sound t3).crash ps
                have hlc : (T.crash ps).safe.length = 64 := by rw [crash_len, t4]; exact unhide HLn
                have HSD := hide hsd
                have HLC := hide hlc
                clear HN hlt hj hc2 t1 t2 t3 t4 t5 CM hsd hlc ho
                go_wp2_with fail
                refine (unhide HCM).mono ?_
                rintro e w9 ⟨rfl, r9, g9⟩
                have R9 := hide r9.dev
                have HN9 : Hid (StrRow w9 xn c2) := hide ((g9.2 xn (.inr rfl)).trans (unhide HN2))
                clear r9 g9 HCM HN2 HR HV
                go_wp2_with fail
                refine (Crash_r (unhide R9) (by omega) ps v4 (unhide H4)).mono ?_
                rintro e wB ⟨rfl, rB, gB⟩
                have OP := hide (Open_l rB (unhide HSD) (Free.crash _ _) (unhide HLC) (by omega))
                have HNB : Hid (StrRow wB xn c2) := hide ((gB.2 xn (.inr rfl)).trans (unhide HN9))
                clear rB gB R9 HN9
                go_wp2_with fail
                refine (unhide OP).mono ?_
                rintro e wC ⟨gC, mb, T4, rfl, lC⟩
                have LC := hide lC
                have HNC : Hid (StrRow wC xn c2) := hide ((gC.2 xn (.inr rfl)).trans (unhide HNB))
                clear gC lC OP HNB
                go_wp2_with fail
                go_loopw [21] (fun i wr => ∃ (j : Nat) (S : St), i = .int .i64 (j : Int) ∧ j ≤ 44 ∧ Hid (Lull w wr b mb (2800 + 2 * j) (fun j => Gw j ∨ j = xn) S c2) ∧ Hid (StrRow wr xn c2)) (fun i _ => 44 - (intOf i).toNat)
                case atStart => exact ⟨0, T4, rfl, by omega, hide ((unhide LC).mono (by omega)), HNC⟩
                case round =>
                  obtain ⟨j, S, rfl, hj, HL, HN⟩ := hrel
                  clear LC HNC
                  by_cases hlt : j < 44
                  · have hlt' : (j : Int) < 44 := by omega
                    have hj0 : (0 : Int) ≤ (j : Int) := Int.natCast_nonneg _
                    go_wp2_with fail
                    refine (Read_l (unhide HL) (by omega) j hlt).mono ?_
                    rintro e w7 ⟨sg, q, rfl, hq, hr, h5, l7⟩
                    have rn : StrRow w7 xn c2 := (sg.2 xn (.inr rfl)).trans (unhide HN)
                    have cn := rn.cell j hlt
                    have sv : ∀ nq, (convert 34 9 (.slice (some ⟨q, 0, none⟩) 512 512)).run Try.prog (w7.drewN nq) = .ok (.string ⟨(c2 j).toArray⟩) (w7.drewN nq) := fun nq => ((sl_block hr h5).below (below_drewN (Below.refl _ _) nq) (Nat.le_refl _)).strJ
                    have HF : Hid (∀ nq, Lull w (w7.drewN nq) b mb (2800 + 2 * (j + 1)) (fun j => Gw j ∨ j = xn) S.burn c2 ∧ StrRow (w7.drewN nq) xn c2) := hide fun nq => ⟨(l7.grown (below_drewN (Below.refl _ _) nq) fun j hj => .inl hj).mono (by omega), rn⟩
                    obtain ⟨cj, hcj⟩ : ∃ cj, cj = c2 j := ⟨_, rfl⟩
                    rw [← hcj] at cn sv
                    clear hr h5 l7 sg rn HL HN hcj hq
                    go_wp2_with fail
                    go_quiet (fail)
                    go_wp2_with fail
                    refine ⟨⟨j + 1, S.burn, by go_num, by omega, hide (unhide HF _).1, hide (unhide HF _).2⟩, ?_⟩
                    simp [intOf]
                    omega
                  · have hlt' : ¬ (j : Int) < 44 := by omega
                    have HB := hide (unhide HL).rst.bel
                    clear HL HN
                    go_wp2
                    go_ret
                    exact ⟨rfl, unhide HB⟩
        · have hlt' : ¬ (j : Int) < (np : Int) := by omega
          have HR := hide ((unhide HR).mono (show 2288 + 2 * j ≤ 2368 by omega))
          have HXL := hide ((unhide HR).gl (show xn = xn from rfl))
          have HW2 := hide ((unhide H2).below (unhide HR).bel (Nat.le_refl _))
          go_wp2_with fail
          refine (within_go wr v2 o2 (unhide HW2)).mono ?_
          rintro e w7 ⟨u2, rfl, g7, b7⟩
          obtain ⟨Gw, hGw⟩ : ∃ Gw : Nat → Prop, Gw = fun j => wr.heap.size ≤ j ∧ j < w7.heap.size := ⟨_, rfl⟩
          rw [← hGw] at g7
          have R7 : Hid (Rst w w7 b lb 2368 (fun j => Gw j ∨ j = xn) S false) := hide ((unhide HR).grown b7 fun k hk => by
            rcases hk with h | h
            · rw [hGw] at h; exact .inr h
            · exact .inl h)
          have hGn : ¬ Gw xn := fun h => by rw [hGw] at h; have := unhide HXL; omega
          have HN7 : Hid (StrRow w7 xn (over ((prtW (withL o2)).take 0) c)) := hide ((b7.block xn (unhide HXL)).trans (unhide HN))
          obtain ⟨ao, cap, hu2, hw1, hw2, hw3, hw4⟩ := g7.here
          have G7 := hide g7
          obtain ⟨n2, hn2⟩ : ∃ n2, n2 = (withL o2).length := ⟨_, rfl⟩
          have h16 : n2 ≤ 16 := by rw [hn2]; exact (okW_with o2).2
          rw [← hn2] at hu2
          have HN3 := hide hn2
          have hn2I : (n2 : Int) ≤ 16 := by omega
          subst hu2
          clear g7 b7 HR HN hw1 hw2 hw3 hw4 hn2 hGw HW2 HXL
          go_wp2_with fail
          go_loopw [17] (fun i wr => ∃ (j : Nat), i = .int .i64 (j : Int) ∧ j ≤ n2 ∧ Hid (Rst w wr b lb 2368 (fun j => Gw j ∨ j = xn) S false) ∧ Hid (StrRow wr xn (over ((prtW (withL o2)).take j) c)) ∧ Hid (WrsG wr Gw (.slice ao n2 cap) (withL o2))) (fun i _ => n2 - (intOf i).toNat)
          case atStart => exact ⟨0, rfl, by omega, R7, HN7, G7⟩
          case round =>
            obtain ⟨j, rfl, hj, HR, HN, HV⟩ := hrel
            clear R7 HN7 G7
            by_cases hlt : j < n2
            · have hlt' : (j : Int) < (n2 : Int) := by omega
              have hjw : j < (withL o2).length := by rw [← unhide HN3]; exact hlt
              obtain ⟨ao', cap', e, _, _, _, h4⟩ := (unhide HV).here
              rw [← unhide HN3] at e
              injection e with e1 e2 e3
              clear e2 e3
              obtain ⟨g, off, hao, hgl, hcl⟩ := h4 (by rw [← unhide HN3]; omega)
              obtain ⟨a, cc, d0, d1, sl⟩ := hcl j hjw
              have hok := (okW_with o2).1 _ (List.getElem_mem hjw)
              have HTK : Hid ((prtW (withL o2)).take (j + 1) = (prtW (withL o2)).take j ++ [((withL o2)[j].1.toNat, (withL o2)[j].2)]) := hide (by
                rw [List.take_succ_eq_append_getElem (by unfold prtW; rw [List.length_map]; exact hjw)]
                simp [prtW])
              obtain ⟨x, hx⟩ : ∃ x, x = (withL o2)[j] := ⟨_, rfl⟩
              rw [← hx] at d0 sl hok HTK
              obtain ⟨x1, L⟩ := x
              obtain ⟨m, hm⟩ : ∃ m : Nat, x1 = (m : Int) := ⟨x1.toNat, by simp only at hok; omega⟩
              subst hm
              simp only [Int.toNat_natCast] at d0 sl hok HTK
              have hm44 : m < 44 := by omega
              have hmI : (m : Int) < 44 := by omega
              have hm0 : (0 : Int) ≤ (m : Int) := Int.natCast_nonneg _
              have hj0 : (0 : Int) ≤ (j : Int) := Int.natCast_nonneg _
              have cn := (unhide HN).cell m hm44
              have fn := (unhide HN).fz m
              have sv : (convert 34 9 (.slice a 512 cc)).run Try.prog wr.drew = .ok (.string ⟨L.toArray⟩) wr.drew := (sl.below (Below.refl _ _).drew (Nat.le_refl _)).strJ
              have o9 : Only xn wr.drew (wr.drew.setCell ⟨xn, m, none⟩ (.string ⟨L.toArray⟩)) := (Only.refl xn wr.drew).set _ _
              have HF : Hid (Rst w (wr.drew.setCell ⟨xn, m, none⟩ (.string ⟨L.toArray⟩)) b lb 2368 (fun j => Gw j ∨ j = xn) S false ∧ StrRow (wr.drew.setCell ⟨xn, m, none⟩ (.string ⟨L.toArray⟩)) xn (over ((prtW (withL o2)).take (j + 1)) c) ∧ WrsG (wr.drew.setCell ⟨xn, m, none⟩ (.string ⟨L.toArray⟩)) Gw (.slice ao n2 cap) (withL o2)) := hide
                ⟨((unhide HR).grown (Below.refl _ _).drew fun j hj => .inl hj).only o9 (.inr rfl) hwn, by rw [unhide HTK, over_snoc]; exact StrRow.set (w := wr.drew) (unhide HN) m hm44 L, (unhide HV).same ((show SameG Gw wr wr.drew from ⟨Nat.le_refl _, fun _ _ => rfl⟩).trans (SameG.only o9 hGn))⟩
              have hao' : ao = some ⟨g, off, none⟩ := by rw [e1, hao]
              subst hao'
              clear hx sl hcl h4 hao e1 HR HN HV o9 hok HTK
              go_wp2_with fail
              go_region
              all_goals
                go_wp2
                go_roundw
                case rel => exact ⟨j + 1, by go_num, by omega, hide (unhide HF).1, hide (unhide HF).2.1, hide (unhide HF).2.2⟩
                case measure => simp [intOf]; omega
            · have hlt' : ¬ (j : Int) < (n2 : Int) := by omega
              obtain rfl : j = n2 := by omega
              obtain ⟨c2, hc2⟩ : ∃ c2, c2 = over (prtW (withL o2)) c := ⟨_, rfl⟩
              have HN2 : Hid (StrRow wr xn c2) := hide (by
                have := unhide HN
                rw [List.take_of_length_le (by unfold prtW; rw [List.length_map, ← unhide HN3]; exact Nat.le_refl _)] at this
                rw [hc2]; exact this)
              have ho := (unhide HR).ops
              obtain ⟨T, t1, t2, t3, t4, t5⟩ := com_free (unhide HQ) (unhide HFr) (by omega) (withL o2) (okW_with o2).2 (by rw [unhide HLn]; exact (okW_with o2).1)
              have CM := Commit_r (unhide HR) (unhide HQ) (by omega) _ _ (unhide HV).here
              rw [t1] at CM
              rw [← hc2] at t2
              have HCM := hide CM
              have hsd := (t2.sound t3).crash ps
              have hlc : (T.crash ps).safe.length = 64 := by rw [crash_len, t4]; exact unhide HLn
              have HSD := hide hsd
              have HLC := hide hlc
              clear HN hlt hj hc2 t1 t2 t3 t4 t5 CM hsd hlc ho
              go_wp2_with fail
              refine (unhide HCM).mono ?_
              rintro e w9 ⟨rfl, r9, g9⟩
              have R9 := hide r9.dev
              have HN9 : Hid (StrRow w9 xn c2) := hide ((g9.2 xn (.inr rfl)).trans (unhide HN2))
              clear r9 g9 HCM HN2 HR HV
              go_wp2_with fail
              refine (Crash_r (unhide R9) (by omega) ps v4 (unhide H4)).mono ?_
              rintro e wB ⟨rfl, rB, gB⟩
              have OP := hide (Open_l rB (unhide HSD) (Free.crash _ _) (unhide HLC) (by omega))
              have HNB : Hid (StrRow wB xn c2) := hide ((gB.2 xn (.inr rfl)).trans (unhide HN9))
              clear rB gB R9 HN9
              go_wp2_with fail
              refine (unhide OP).mono ?_
              rintro e wC ⟨gC, mb, T4, rfl, lC⟩
              have LC := hide lC
              have HNC : Hid (StrRow wC xn c2) := hide ((gC.2 xn (.inr rfl)).trans (unhide HNB))
              clear gC lC OP HNB
              go_wp2_with fail
              go_loopw [21] (fun i wr => ∃ (j : Nat) (S : St), i = .int .i64 (j : Int) ∧ j ≤ 44 ∧ Hid (Lull w wr b mb (2800 + 2 * j) (fun j => Gw j ∨ j = xn) S c2) ∧ Hid (StrRow wr xn c2)) (fun i _ => 44 - (intOf i).toNat)
              case atStart => exact ⟨0, T4, rfl, by omega, hide ((unhide LC).mono (by omega)), HNC⟩
              case round =>
                obtain ⟨j, S, rfl, hj, HL, HN⟩ := hrel
                clear LC HNC
                by_cases hlt : j < 44
                · have hlt' : (j : Int) < 44 := by omega
                  have hj0 : (0 : Int) ≤ (j : Int) := Int.natCast_nonneg _
                  go_wp2_with fail
                  refine (Read_l (unhide HL) (by omega) j hlt).mono ?_
                  rintro e w7 ⟨sg, q, rfl, hq, hr, h5, l7⟩
                  have rn : StrRow w7 xn c2 := (sg.2 xn (.inr rfl)).trans (unhide HN)
                  have cn := rn.cell j hlt
                  have sv : ∀ nq, (convert 34 9 (.slice (some ⟨q, 0, none⟩) 512 512)).run Try.prog (w7.drewN nq) = .ok (.string ⟨(c2 j).toArray⟩) (w7.drewN nq) := fun nq => ((sl_block hr h5).below (below_drewN (Below.refl _ _) nq) (Nat.le_refl _)).strJ
                  have HF : Hid (∀ nq, Lull w (w7.drewN nq) b mb (2800 + 2 * (j + 1)) (fun j => Gw j ∨ j = xn) S.burn c2 ∧ StrRow (w7.drewN nq) xn c2) := hide fun nq => ⟨(l7.grown (below_drewN (Below.refl _ _) nq) fun j hj => .inl hj).mono (by omega), rn⟩
                  obtain ⟨cj, hcj⟩ : ∃ cj, cj = c2 j := ⟨_, rfl⟩
                  rw [← hcj] at cn sv
                  clear hr h5 l7 sg rn HL HN hcj hq
                  go_wp2_with fail
                  go_quiet (fail)
                  go_wp2_with fail
                  refine ⟨⟨j + 1, S.burn, by go_num, by omega, hide (unhide HF _).1, hide (unhide HF _).2⟩, ?_⟩
                  simp [intOf]
                  omega
                · have hlt' : ¬ (j : Int) < 44 := by omega
                  have HB := hide (unhide HL).rst.bel
                  clear HL HN
                  go_wp2
                  go_ret
                  exact ⟨rfl, unhide HB⟩

set_option maxRecDepth 100000 in
theorem JPuts.lifted (os : Os) (started : os.Started) (H : Type) (enc : TypeId × Value → H) :
    ReturnsInHanded {} Try.checked os 7 .any (Rows.journalPutsSpec.pre6 enc Try.prog Try.f7 Rows.journalPutsRow.domain false) (Rows.journalPutsSpec.post enc Try.prog Try.f7 false true false false) := by
  refine returnsInHanded_of_change (C := Try.checked) own_knob started (by kernel_rfl) Try.func7
    (ChangeSpec.witness6 (enc := enc) (C := Try.checked) false ⟨#[], #[.slice none 0 0, .slice none 0 0, .slice none 0 0], []⟩ 8 (by kernel_rfl) (by kernel_rfl) (by kernel_rfl) (by kernel_rfl)) ?_
  intro W base args ds gs before hval0 hW hcnd _
  have hval : ∀ (j : Nat) t v, Try.f7.params[j]? = some t → args[j]? = some v → Value.okWide Try.prog W .any base t v := hval0
  have hW' := hW
  obtain ⟨p, q, hA0, hV, rfl, hfz, hnd⟩ := hW
  have hA : DataW.TrodAll enc Try.prog W 0 (fun _ => true) true Try.f7.params.toList args.toList ds p := hA0
  rw [Try.params7] at hA hval
  obtain ⟨v0, vs0, d0, ds0, p0, q0, e0, rfl, rfl, h0, hA⟩ := trodAll_cons hA
  obtain ⟨v1, vs1, d1, ds1, p1, q1, rfl, rfl, rfl, h1, hA⟩ := trodAll_cons hA
  obtain ⟨v2, vs2, d2, ds2, p2, q2, rfl, rfl, rfl, h2, hA⟩ := trodAll_cons hA
  obtain ⟨rfl, rfl, rfl⟩ := trodAll_nil hA
  obtain rfl : args = #[v0, v1, v2] := by cases args; simp_all
  obtain ⟨rfl, rfl⟩ := trodVars_none hV
  obtain ⟨a0, len0, cap0, rfl⟩ := okWide_slice Try.underlying22 (hval 0 22 v0 rfl rfl)
  obtain ⟨a1, len1, cap1, rfl⟩ := okWide_slice Try.underlying22 (hval 1 22 v1 rfl rfl)
  obtain ⟨a2, len2, cap2, rfl⟩ := okWide_slice Try.underlying23 (hval 2 23 v2 rfl rfl)
  have k0 := h0
  have lt0 : ∀ x ∈ p0, x.block < W.heap.size := by obtain ⟨m, hm⟩ := k0; exact DataW.trod_lt m _ _ _ hm
  have k1 := h1
  have lt1 : ∀ x ∈ p1, x.block < W.heap.size := by obtain ⟨m, hm⟩ := k1; exact DataW.trod_lt m _ _ _ hm
  have k2 := h2
  have lt2 : ∀ x ∈ p2, x.block < W.heap.size := by obtain ⟨m, hm⟩ := k2; exact DataW.trod_lt m _ _ _ hm
  obtain ⟨l0, hl0⟩ := open_ones h0
  obtain ⟨l1, hl1⟩ := open_ones h1
  obtain ⟨l2, hl2⟩ := open_intl h2
  clear hA0 hval0
  refine (JPuts.go W _ l0 hl0 _ l1 hl1 _ l2 hl2).mono fun e W' ⟨he, bel⟩ => ?_
  subst he
  exact ⟨_, rfl, _, _, _, [], _, [], hW', trodAll_mk1 (shut_bool Try.underlying4 _), (trodAll_cons_mk (Below.trod laid_out (by kernel_rfl) (of_decide_eq_true (by kernel_rfl)) k0 bel lt0) (trodAll_cons_mk (Below.trod laid_out (by kernel_rfl) (of_decide_eq_true (by kernel_rfl)) k1 bel lt1) (trodAll_cons_mk (Below.trod laid_out (by kernel_rfl) (of_decide_eq_true (by kernel_rfl)) k2 bel lt2) trodAll_mk0))), rfl, bel.frame _, fun h => by cases h⟩

theorem journalPuts_holds : Rows.JournalPutsSaid :=
  OpenClaim.holds_of_wide 7 Try.f7 rfl rfl rfl rfl rfl rfl rfl ⟨rfl, rfl, rfl, rfl, rfl⟩ rfl rfl rfl rfl rfl (by kernel_rfl) Try.func7 (by kernel_rfl)
    (of_decide_eq_true (by kernel_rfl)) (by unfold Func.isWrapper; first | (rw [if_pos (by decide +kernel)]; kernel_rfl) | (rw [if_neg (by decide +kernel)]; exact ⟨rfl, rfl⟩))
    (fun os started H enc _ => JPuts.lifted os started H enc)
#print axioms journalPuts_holds
end Go.Proofs.Ytgehefnkbcbldaa
