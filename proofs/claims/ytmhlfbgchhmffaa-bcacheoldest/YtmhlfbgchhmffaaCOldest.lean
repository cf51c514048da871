/-
  BcacheOldest: for every int and every slice of ints it returns true, and its arguments read as before. Conditions: none.
-/
import Derived.Test.YtmhlfbgchhmffaaCawake
import Derived.Test.YtmhlfbgchhmffaaCold
import Derived.Test.YtmhlfbgchhmffaaCopen
import Derived.Deep.QuietTactic
import Derived.BigQuiet
namespace Go.Proofs.Ytmhlfbgchhmffaa
open Go.ChangeShapes Go.WideShapes Go.ChangeAt Go.RowKit
set_option linter.unusedVariables false

theorem tmod_bd (x : Int) : -30 < x.tmod 30 ∧ x.tmod 30 < 30 := by
  by_cases h : 0 ≤ x
  · rw [Int.tmod_eq_emod_of_nonneg h]; omega
  · have e : x.tmod 30 = -((-x).tmod 30) := by rw [Int.neg_tmod, Int.neg_neg]
    rw [e, Int.tmod_eq_emod_of_nonneg (by omega)]
    omega
/-- Where the law stands. -/
structure OSt (N c M i : Nat) (vu : Value) (U : List Int) (W : World) : Prop where
  ca : ∃ L, Ib.CAt W N c M i L ∧ (∀ t ∈ L, t.p = 0) ∧ L.map (·.k) = U.reverse
  us : ZOwn W N vu U
  ul : U.length ≤ M
  sz : N ≤ W.heap.size
theorem ZOwn.fr {N : Nat} {W W' : World} {v : Value} {xs : List Int} (h : ZOwn W N v xs) (hf : Ib.Fr N W W') : ZOwn W' N v xs :=
  h.kept (fun q C fr hq _ => hf.block q (lt_of_block hq) (.inr (fun ⟨o, h1, h2⟩ => by
    rw [hq] at h1
    cases h1
    rcases h2 with h | h | h <;> exact absurd h (by decide))))
/-- What the inner loop has gathered. -/
def nowJ (M : Nat) (k : Int) (U : List Int) (j : Nat) : List Int := (k :: (U.take j).filter (fun x => decide (x ≠ k))).take M
theorem nowJ_zero (M : Nat) (k : Int) (U : List Int) (h : 1 ≤ M) : nowJ M k U 0 = [k] := by
  unfold nowJ
  rw [List.take_zero, List.filter_nil, List.take_of_length_le (by simpa using h)]
theorem nowJ_all (M : Nat) (k : Int) (U : List Int) : nowJ M k U U.length = stepU M k U := by
  unfold nowJ stepU
  rw [List.take_length]
theorem nowJ_full (M : Nat) (k : Int) (U : List Int) (j : Nat) (h : (nowJ M k U j).length = M) : nowJ M k U j = stepU M k U := by
  unfold nowJ stepU at *
  have e : U.filter (fun x => decide (x ≠ k)) = (U.take j).filter (fun x => decide (x ≠ k)) ++ (U.drop j).filter (fun x => decide (x ≠ k)) := by rw [← List.filter_append, List.take_append_drop]
  rw [e, ← List.cons_append, List.take_append_of_le_length]
  rw [List.length_take] at h
  omega
theorem nowJ_short {M : Nat} {k : Int} {U : List Int} {j : Nat} (h : (nowJ M k U j).length < M) : nowJ M k U j = k :: (U.take j).filter (fun x => decide (x ≠ k)) := by
  unfold nowJ at *
  rw [List.length_take] at h
  exact List.take_of_length_le (by omega)
theorem nowJ_add {M : Nat} {k : Int} {U : List Int} {j : Nat} (h : (nowJ M k U j).length < M) (hj : j < U.length) (hne : U[j] ≠ k) : nowJ M k U (j + 1) = nowJ M k U j ++ [U[j]] := by
  have h1 := h
  rw [nowJ_short h] at h1 ⊢
  unfold nowJ
  rw [List.take_succ_eq_append_getElem hj, List.filter_append]
  have e : List.filter (fun x => decide (x ≠ k)) [U[j]] = [U[j]] := by simp [hne]
  rw [e, ← List.cons_append, List.take_of_length_le]
  rw [List.length_append]
  simp at h1 ⊢
  omega
theorem nowJ_same {M : Nat} {k : Int} {U : List Int} {j : Nat} (hj : j < U.length) (he : U[j] = k) : nowJ M k U (j + 1) = nowJ M k U j := by
  unfold nowJ
  rw [List.take_succ_eq_append_getElem hj, List.filter_append]
  have e : List.filter (fun x => decide (x ≠ k)) [U[j]] = [] := by simp [he]
  rw [e, List.append_nil]

/-- A row of ints just made, of one. -/
theorem ZOwn.one (w : World) (x : Int) : ZOwn (w.alloc (.cells #[.int .i64 x] 3)) w.heap.size (.slice (some ⟨w.heap.size, 0, none⟩) 1 1) [x] :=
  ⟨rfl, .inr ⟨w.heap.size, 1, _, rfl, Nat.le_refl _, heap_alloc_new _ _, by simp, by unfold maxLen; omega, by simp, by simp⟩⟩
theorem OSt.drewN {N c M i : Nat} {vu : Value} {U : List Int} {W : World} (h : OSt N c M i vu U W) (q : Nat) : OSt N c M i vu U (W.drewN q) := by
  obtain ⟨⟨L, h1, h2⟩, h3, h4, h5⟩ := h
  exact ⟨⟨L, h1.drewN q, h2⟩, h3, h4, h5⟩
/-- Rows of ints have turned that are not among them. -/
theorem CAt.int {N c M Z : Nat} {L : List Ib.T} {W W' : World} {v : Value} {xs : List Int} {B : Nat} (h : Ib.CAt W N c M Z L) (ho : ZOwn W B v xs) (hg : W.grownBy W' v.ownBlock) : Ib.CAt W' N c M Z L :=
  h.grown (fun k hk hm => hg.block k hk (fun e => by
    obtain ⟨_, cur, hc⟩ := ho.row e.symm
    obtain ⟨o, h1, h2⟩ := hm
    rw [hc] at h1
    cases h1
    rcases h2 with h | h | h <;> exact absurd h (by decide)))

/-- Where the inner loop stands. -/
structure ISt (w : World) (N c M i : Nat) (vu vn : Value) (U : List Int) (k : Int) (j B : Nat) (W : World) : Prop where
  ca : ∃ L, Ib.CAt W N c M i L ∧ (∀ t ∈ L, t.p = 0) ∧ L.map (·.k) = (stepU M k U).reverse
  us : ZOwn W N vu U
  ub : ∀ q, vu.ownBlock = some q → q < B
  nw : ZOwn W B vn (nowJ M k U j)
  nb : N ≤ B
  sz : B ≤ W.heap.size
  bl : Below w.heap.size w W
set_option maxRecDepth 100000 in
set_option maxHeartbeats 4000000 in
theorem Oldest.walk (m : Int) (vs : Value) (ks : List Int) (w : World) (hm : I64 m) (hs : Ints w vs ks) :
    Calls Try.prog 5 #[.int .i64 m, vs] w fun e w' => e = .returned (.bool true) ∧ Below w.heap.size w w' := by
  have HI := hide hs
  obtain ⟨so, scap, rfl, hs1, _, _⟩ := hs
  obtain ⟨ns, hns⟩ : ∃ n, n = ks.length := ⟨_, rfl⟩
  rw [← hns] at hs1 HI ⊢
  have HNs := hide hns
  have hsi : (ns : Int) ≤ 9223372036854775807 := by omega
  clear hns
  go_enter Try.func5, Try.ntmps5
  go_wp2_with fail
  refine (awake_ok _).mono ?_
  rintro e w1 ⟨rfl, g1⟩
  have G1 := hide g1
  clear g1
  go_wp2_with fail
  refine (Pick_any m 12 w1 hm.1 hm.2 (by omega) (by omega)).mono ?_
  rintro e w2 ⟨q, rfl, hq, rfl⟩
  obtain ⟨M, hM⟩ : ∃ M, M = q + 1 := ⟨_, rfl⟩
  have e1 : (1 : Int) + (q : Int) = (M : Int) := by omega
  have hM1 : 1 ≤ M := by omega
  have hM2 : M ≤ 12 := by omega
  have hMi : (M : Int) ≤ 12 := by omega
  clear hM
  go_wp2_with fail
  refine (Ib.New_any w2 M hM1 (by omega)).mono ?_
  rintro e w3 ⟨c, rfl, hc, a3, b3⟩
  obtain ⟨N, hN⟩ : ∃ N, N = w2.heap.size := ⟨_, rfl⟩
  rw [← hN] at a3 hc
  have HN : Hid (w.heap.size ≤ N) := hide (by rw [hN]; exact (unhide G1).size)
  have HS : Hid (OSt N c M 0 (.slice none 0 0) [] w3) := hide ⟨⟨[], a3, by simp, rfl⟩, ZOwn.nil _ _, by simp, by rw [hN]; exact b3.size⟩
  have G3 := hide ((unhide G1).trans (b3.mono (unhide G1).size))
  clear a3 b3 hc hN e1 G1 hq
  go_wp2
  go_loopw [8, 9] (fun vu i wr => ∃ (n : Nat) (U : List Int), i = .int .i64 (n : Int) ∧ n ≤ 200 ∧ Hid (OSt N c M n vu U wr) ∧ Hid (Below w.heap.size w wr)) (fun _ i _ => 200 - (intOf i).toNat)
  case atStart => exact ⟨0, [], rfl, by omega, HS, G3⟩
  case round =>
    obtain ⟨n, U, rfl, hn, HO, HB⟩ := hrel
    by_cases hlt : n < ns ∧ n < 200
    · obtain ⟨hlt1, hlt2⟩ := hlt
      have hl1 : (n : Int) < (ns : Int) := by omega
      have hl2 : (n : Int) < 200 := by omega
      have hnk : n < ks.length := by rw [← unhide HNs]; exact hlt1
      obtain ⟨kb, ko, rfl, ck, ik⟩ := ((unhide HI).below (unhide HB)).at hnk
      obtain ⟨x, hx⟩ : ∃ x, x = ks[n] := ⟨_, rfl⟩
      rw [← hx] at ck ik
      have hx1 := ik.1
      have hx2 := ik.2
      have hmod := tmod_bd x
      obtain ⟨k, hk⟩ : ∃ k, x.tmod 30 = k := ⟨_, rfl⟩
      rw [hk] at hmod
      have hkg : Ib.good k := ⟨by omega, by omega⟩
      have hidx : (0 : Int) ≤ (n : Int) ∧ (n : Int) < (ns : Int) := ⟨by omega, hl1⟩
      obtain ⟨⟨L, hca, hpz, hLk⟩, hus, hul, hsz⟩ := unhide HO
      have HCA := hide hca
      have HPZ := hide hpz
      have HLK := hide hLk
      have HUS := hide hus
      clear hx ik hca hpz hLk hus
      go_wp2_with fail
      refine (Ib.Put_step wr N c M n L k (unhide HCA) (unhide HPZ) hkg (by omega) hsz).mono ?_
      rintro e w4 ⟨⟨r, rfl⟩, ⟨L', a4, p4, k4⟩, f4⟩
      have A4 := hide a4
      have P4 := hide p4
      have K4 : Hid (L'.map (·.k) = (stepU M k U).reverse) := hide (by rw [k4, unhide HLK]; exact step_eq M k U hM1 hul)
      have U4 := hide ((unhide HUS).fr f4)
      have hsz4 : N ≤ w4.heap.size := Nat.le_trans hsz f4.size
      have B4 := hide ((unhide HB).trans ((f4.below hsz).mono (unhide HN)))
      have hsx : wr.heap.size ≤ w4.heap.size := f4.size
      clear a4 p4 k4 f4 HCA HPZ HLK HUS HO
      obtain ⟨uo, ucap, rfl, hu1, hu2, hu3⟩ := (unhide U4).form
      obtain ⟨nu, hnu⟩ : ∃ nu, nu = U.length := ⟨_, rfl⟩
      have HU3 := hide hu3
      rw [← hnu] at hu1 hul U4 ⊢
      have HNu := hide hnu
      have hnui : (nu : Int) ≤ 12 := by omega
      clear hu3 hnu
      have HIst : Hid (ISt w N c M (n + 1) (.slice uo nu ucap) (.slice (some ⟨w4.heap.size, 0, none⟩) 1 1) U k 0 w4.heap.size (w4.alloc (.cells #[.int .i64 k] 3))) := hide (by
        have bal := (Below.refl w4.heap.size w4).alloc (Nat.le_refl _) (.cells #[.int .i64 k] 3)
        refine ⟨⟨L', (unhide A4).below bal, unhide P4, unhide K4⟩, (unhide U4).below bal, fun q hq => ?_, ?_, hsz4, by simp, (unhide B4).trans (bal.mono (unhide B4).size)⟩
        · obtain ⟨_, cur, hc⟩ := (unhide U4).row hq
          exact lt_of_block hc
        · rw [nowJ_zero M k U hM1]
          exact ZOwn.one w4 k)
      clear A4 P4 K4 U4 B4 hsx
      obtain ⟨B, hBB⟩ : ∃ B, B = w4.heap.size := ⟨_, rfl⟩
      have HIst' : Hid (ISt w N c M (n + 1) (.slice uo nu ucap) (.slice (some ⟨w4.heap.size, 0, none⟩) 1 1) U k 0 B (w4.alloc (.cells #[.int .i64 k] 3))) := by rw [hBB]; exact HIst
      clear HIst hBB
      rename World => W0
      go_wp2
      go_loopw [11, 12] (fun vn jv wj => ∃ j : Nat, jv = .int .i64 (j : Int) ∧ j ≤ nu ∧ Hid (ISt w N c M (n + 1) (.slice uo nu ucap) vn U k j B wj)) (fun _ jv _ => nu - (intOf jv).toNat)
      case atStart => exact ⟨0, rfl, by omega, HIst'⟩
      case round =>
        obtain ⟨j, rfl, hj, HI2⟩ := hrel
        obtain ⟨no, ncap, rfl, hn1, hn2, hn3⟩ := (unhide HI2).nw.form
        obtain ⟨nn, hnn⟩ : ∃ nn, nn = (nowJ M k U j).length := ⟨_, rfl⟩
        have hnM : nn ≤ M := by rw [hnn]; unfold nowJ; exact List.length_take_le _ _
        rw [← hnn] at hn1 HI2 ⊢
        have HNn := hide hnn
        have hnni : (nn : Int) ≤ 12 := by omega
        have hji : (j : Int) ≤ 12 := by omega
        clear hnn hn3
        by_cases hgo : j < nu ∧ nn < M
        · obtain ⟨hg1, hg2⟩ := hgo
          have hg1' : (j : Int) < (nu : Int) := by omega
          have hg2' : (nn : Int) < (M : Int) := by omega
          have hjU : j < U.length := by rw [← unhide HNu]; exact hg1
          obtain ⟨ub, rfl, hub, ⟨cur, hcur⟩, hcu⟩ := (unhide HI2).us.at hjU
          obtain ⟨y, hy⟩ : ∃ y, y = U[j] := ⟨_, rfl⟩
          rw [← hy] at hcu
          have hult : ub < B := (unhide HI2).ub ub rfl
          have HCur := hide hcur
          have hBsz : B ≤ wr.heap.size := (unhide HI2).sz
          have HY := hide hy
          clear hy hcur
          by_cases hyk : y = k
          · subst hyk
            have hb : (y != y) = false := by simp
            have hst : Hid (ISt w N c M (n + 1) (.slice (some ⟨ub, 0, none⟩) nu ucap) (.slice no nn ncap) U y (j + 1) B wr) := hide (by
              obtain ⟨q1, q2, q3, q4, q5, q6, q7⟩ := unhide HI2
              exact ⟨q1, q2, q3, by rw [nowJ_same hjU (unhide HY).symm]; exact q4, q5, q6, q7⟩)
            go_wp2
            go_roundw
            case rel => exact ⟨j + 1, by go_num, by omega, hst⟩
            case measure => simp [intOf]; omega
          · have hb : (y != k) = true := by simpa using hyk
            have hnn2 : (nowJ M k U j).length < M := by rw [← unhide HNn]; exact hg2
            go_wp2_with (at_builtin; refine wpList_append_z rfl (.tmp 72) (.tmp 77) rfl B _ (nowJ M k U j) rfl (ZOwn.below (unhide HI2).nw ((Below.refl _ _).alloc (Nat.le_refl _) _)) ?r1 ?r2 ⟨wr.heap.size, 0, none⟩ 1 y rfl ?r3 ?_)
            case r1 => simp; omega
            case r2 => omega
            case r3 => exact (cell_of_row _ _ _ _ _ _ (heap_alloc_new _ _)).trans rfl
            intro v' w5 hz5 hg5
            have hst : Hid (ISt w N c M (n + 1) (.slice (some ⟨ub, 0, none⟩) nu ucap) v' U k (j + 1) B w5) := hide (by
              obtain ⟨⟨L2, q1, q1b⟩, q2, q3, q4, q5, q6, q7⟩ := unhide HI2
              have bal := (Below.refl wr.heap.size wr).alloc (Nat.le_refl _) (.cells #[.int .i64 y] 3)
              have z1 := q4.below bal
              refine ⟨⟨L2, CAt.int (q1.below bal) z1 hg5, q1b⟩, (q2.below bal).keptB (fun q hq hlt => hg5.block q hlt (fun e => ?_)), q3, ?_, q5, ?_, ?_⟩
              · have h1 := (z1.row e.symm).1
                have h2 := q3 q hq
                omega
              · rw [nowJ_add hnn2 hjU (by rw [← unhide HY]; exact hyk), ← unhide HY]
                exact hz5
              · have := hg5.size
                simp at this
                omega
              · exact q7.trans ((bal.mono q7.size).grown hg5 (by have := q7.size; simp; omega) (fun q hq => by have := (z1.row hq).1; have := unhide HN; omega)))
            clear hz5 hg5
            go_wp2
            go_roundw
            case rel => exact ⟨j + 1, by go_num, by omega, hst⟩
            case measure => simp [intOf]; omega
        · have hfin : Hid (nowJ M k U j = stepU M k U) := hide (by
            by_cases h1 : nn < M
            · have : j = U.length := by rw [← unhide HNu]; omega
              rw [this]; exact nowJ_all M k U
            · exact nowJ_full M k U j (by rw [← unhide HNn]; omega))
          have hst : Hid (OSt N c M (n + 1) (.slice no nn ncap) (stepU M k U) wr) := hide (by
            obtain ⟨q1, q2, q3, q4, q5, q6, q7⟩ := unhide HI2
            exact ⟨q1, by rw [← unhide hfin]; exact q4.mono q5, stepU_len M k U, by omega⟩)
          have hbl := hide (unhide HI2).bl
          by_cases h1 : j < nu
          · have h1' : (j : Int) < (nu : Int) := by omega
            have h2' : ¬ (nn : Int) < (M : Int) := by omega
            clear hgo HI2
            go_wp2
            go_roundw
            case rel => exact ⟨n + 1, stepU M k U, by go_num, by omega, hst, hbl⟩
            case measure => simp [intOf]; omega
          · have h1' : ¬ (j : Int) < (nu : Int) := by omega
            clear hgo HI2
            go_wp2
            go_roundw
            case rel => exact ⟨n + 1, stepU M k U, by go_num, by omega, hst, hbl⟩
            case measure => simp [intOf]; omega
    · have hend : ¬ (n : Int) < (ns : Int) ∨ ¬ (n : Int) < 200 := by omega
      obtain ⟨⟨L, hca, hpz, hLk⟩, hus, hul, hsz⟩ := unhide HO
      obtain ⟨uo, ucap, rfl, hu1, hu2, hu3⟩ := hus.form
      have HCA := hide hca
      have HLK := hide hLk
      have HUS := hide hus
      obtain ⟨nu, hnu⟩ : ∃ nu, nu = U.length := ⟨_, rfl⟩
      rw [← hnu] at hu1 hul HUS ⊢
      have HNu := hide hnu
      have hnui : (nu : Int) ≤ 12 := by omega
      clear hca hpz hLk hus hu3 hnu hlt HO
      have go : ∀ P : Prop, (¬ (n : Int) < (ns : Int) → P) → ((n : Int) < (ns : Int) → ¬ (n : Int) < 200 → P) → P := fun P h1 h2 => by
        by_cases h : (n : Int) < (ns : Int)
        · exact h2 h (by omega)
        · exact h1 h
      clear hend
      refine go _ (fun h1 => ?_) (fun h1 h2 => ?_)
      all_goals
        clear go
        go_wp2_with fail
        refine (Ib.Keys_any wr N c M n L (unhide HCA)).mono ?_
        rintro e w5 ⟨u, rfl, hz, hb5⟩
        rw [unhide HLK] at hz
        obtain ⟨lo, lcap, rfl, hl1, hl2, hl3⟩ := hz.form
        have hlr : U.reverse.length = nu := by rw [List.length_reverse]; exact (unhide HNu).symm
        have HZ := hide hz
        rw [hlr] at hl1 HZ ⊢
        have HU5 := hide ((unhide HUS).below hb5)
        have HB5 := hide ((unhide HB).trans (hb5.mono (unhide HB).size))
        have hnn : ((nu : Int) != (nu : Int)) = false := by simp
        clear hz hb5 hl3 hlr
        go_wp2
        go_loopw [14] (fun iv wj => ∃ i : Nat, iv = .int .i64 (i : Int) ∧ i ≤ nu ∧ ∃ q, wj = w5.drewN q) (fun iv _ => nu - (intOf iv).toNat)
        case atStart => exact ⟨0, rfl, by omega, 0, rfl⟩
        case round =>
          obtain ⟨i, rfl, hi, qd, rfl⟩ := hrel
          have hii : (i : Int) ≤ 12 := by omega
          by_cases hlt : i < nu
          · have hlt' : (i : Int) < (nu : Int) := by omega
            have hiU : i < U.reverse.length := by rw [List.length_reverse, ← unhide HNu]; exact hlt
            have hjU : nu - 1 - i < U.length := by rw [← unhide HNu]; omega
            obtain ⟨lg, rfl, _, _, c1⟩ := (unhide HZ).at hiU
            obtain ⟨ug, rfl, _, _, c2⟩ := (unhide HU5).at hjU
            have ey : U.reverse[i] = U[nu - 1 - i] := by
              rw [List.getElem_reverse]
              congr 1
              rw [← unhide HNu]
            rw [ey] at c1
            obtain ⟨y, hy⟩ : ∃ y, y = U[nu - 1 - i] := ⟨_, rfl⟩
            rw [← hy] at c1 c2
            obtain ⟨a1, ha1⟩ : ∃ a : Nat, a = nu - 1 := ⟨_, rfl⟩
            obtain ⟨d1, hd1⟩ : ∃ d : Nat, d = nu - 1 - i := ⟨_, rfl⟩
            rw [← hd1] at c2
            have hw1 : IntKind.i64.wrap ((nu : Int) - 1) = (a1 : Int) := by rw [IntKind.wrap_i64]; omega
            have hw2 : IntKind.i64.wrap ((a1 : Int) - (i : Int)) = (d1 : Int) := by rw [IntKind.wrap_i64]; omega
            have hx1 : (0 : Int) ≤ (i : Int) ∧ (i : Int) < (nu : Int) := ⟨by omega, hlt'⟩
            have hx2 : (0 : Int) ≤ (d1 : Int) ∧ (d1 : Int) < (nu : Int) := ⟨by omega, by omega⟩
            clear ha1 hd1
            have hyy : (y != y) = false := by simp
            clear ey hy
            go_wp2
            go_quiet (fail)
            go_wp2
            go_roundw
            case rel => exact ⟨i + 1, by go_num, by omega, _, rfl⟩
            case measure => simp [intOf]; omega
          · have hlt' : ¬ (i : Int) < (nu : Int) := by omega
            go_wp2
            go_ret
            exact ⟨rfl, below_drewN (unhide HB5) _⟩

set_option maxRecDepth 100000 in
theorem Oldest.lifted (os : Os) (started : os.Started) (H : Type) (enc : TypeId × Value → H) :
    ReturnsInHanded {} Try.checked os 5 .any (Rows.bcacheOldestSpec.pre6 enc Try.prog Try.f5 Rows.bcacheOldestRow.domain false) (Rows.bcacheOldestSpec.post enc Try.prog Try.f5 false true false false) := by
  refine returnsInHanded_of_change (C := Try.checked) own_knob started (by kernel_rfl) Try.func5
    (ChangeSpec.witness6 (enc := enc) (C := Try.checked) false ⟨#[], #[.int .i64 0, .slice none 0 0], []⟩ 8 (by kernel_rfl) (by kernel_rfl) (by kernel_rfl) (by kernel_rfl)) ?_
  intro W base args ds gs before hval0 hW hcnd _
  have hval : ∀ (j : Nat) t v, Try.f5.params[j]? = some t → args[j]? = some v → Value.okWide Try.prog W .any base t v := hval0
  have hW' := hW
  obtain ⟨p, q, hA0, hV, rfl, hfz, hnd⟩ := hW
  have hA : DataW.TrodAll enc Try.prog W 0 (fun _ => true) true Try.f5.params.toList args.toList ds p := hA0
  rw [Try.params5] at hA hval
  obtain ⟨v0, v1, d0, d1, p0, p1, rfl, rfl, rfl, h0, h1⟩ := trodAll_two hA
  obtain ⟨rfl, rfl⟩ := trodVars_none hV
  obtain ⟨a0, rfl, rfl, rfl, w0⟩ := open_int Try.underlying3 (hval 0 3 v0 rfl rfl) h0
  have k1 := h1
  have lt1 : ∀ x ∈ p1, x.block < W.heap.size := by obtain ⟨m, hm⟩ := k1; exact DataW.trod_lt m _ _ _ hm
  obtain ⟨a1, len1, cap1, rfl⟩ := okWide_slice Try.underlying48 (hval 1 48 v1 rfl rfl)
  obtain ⟨l1, hl1⟩ := open_intl h1
  have b0 := bounds_i64 w0
  clear hA0 hval0
  refine (Oldest.walk a0 _ l1 W ⟨by omega, by omega⟩ hl1).mono fun e W' ⟨he, bel⟩ => ?_
  subst he
  exact ⟨_, rfl, _, _, _, [], _, [], hW', trodAll_mk1 (shut_bool Try.underlying4 _), (trodAll_cons_mk (shut_int Try.underlying3 w0) (trodAll_cons_mk (Below.trod laid_out (by kernel_rfl) (of_decide_eq_true (by kernel_rfl)) k1 bel lt1) trodAll_mk0)), rfl, bel.frame _, fun h => by cases h⟩

theorem bcacheOldest_holds : Rows.BcacheOldestSaid :=
  OpenClaim.holds_of_wide 5 Try.f5 rfl rfl rfl rfl rfl rfl rfl ⟨rfl, rfl, rfl, rfl, rfl⟩ rfl rfl rfl rfl rfl (by kernel_rfl) Try.func5 (by kernel_rfl)
    (of_decide_eq_true (by kernel_rfl)) (by unfold Func.isWrapper; first | (rw [if_pos (by decide +kernel)]; kernel_rfl) | (rw [if_neg (by decide +kernel)]; exact ⟨rfl, rfl⟩))
    (fun os started H enc _ => Oldest.lifted os started H enc)
#print axioms bcacheOldest_holds
end Go.Proofs.Ytmhlfbgchhmffaa
