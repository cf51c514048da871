/-
  InodeShrinks: for every two slices of ints and every int it returns true, and its arguments read as before. Conditions: none.
-/
import Derived.Test.YtikoegmpbjeadabIcut2
import Derived.Test.YtikoegmpbjeadabIgrown
import Derived.Deep.QuietTactic
namespace Go.Proofs.Ytikoegmpbjeadab
open Go.ChangeShapes Go.WideShapes Go.ChangeAt Go.RowKit
set_option linter.unusedVariables false

/-- A slice that reads as these numbers. -/
def Nr (w : World) (v : Value) (l : List Nat) : Prop :=
  ∃ ao cap, v = .slice ao l.length cap ∧ l.length ≤ cap ∧ cap ≤ 9223372036854775807 ∧ (l.length ≠ 0 → ∃ g off, ao = some ⟨g, off, none⟩ ∧ g < w.heap.size ∧ ∀ i, (h : i < l.length) → w.cell? ⟨g, off + i, none⟩ = some (.int .i64 (l[i] : Int)))
theorem Nr.kept {w w' : World} {v : Value} {l : List Nat} (h : Nr w v l) (hg : w.grownBy w' none) : Nr w' v l := by
  obtain ⟨ao, cap, e, h1, h2, h4⟩ := h
  refine ⟨ao, cap, e, h1, h2, fun hl => ?_⟩
  obtain ⟨g, off, e2, hb, hc⟩ := h4 hl
  exact ⟨g, off, e2, by have := hg.size; omega, fun i hi => hg.cell (hc i hi) (by simp)⟩
theorem NOwn.nr {w : World} {base : Nat} {v : Value} {xs : List Nat} (h : NOwn w base v xs) : Nr w v xs := by
  obtain ⟨ao, cap, e, h1, h2, h4⟩ := h.form
  refine ⟨ao, cap, e, h1, h2, fun hl => ?_⟩
  obtain ⟨g, e2, hb, hc⟩ := h4 hl
  exact ⟨g, 0, e2, hb, fun i hi => by rw [Nat.zero_add]; exact hc i hi⟩

set_option maxHeartbeats 2000000 in
theorem SameInts_eq (w : World) (v u : Value) (l : List Nat) (hv : Nr w v l) (hu : Nr w u l) :
    Calls Try.prog 10 #[v, u] w fun e w' => e = .returned (.bool true) ∧ w.grownBy w' none := by
  have HV := hide hv
  have HU := hide hu
  obtain ⟨ao, cap, rfl, h1, h2, _⟩ := hv
  obtain ⟨bo, dap, rfl, k1, k2, _⟩ := hu
  obtain ⟨n, hn⟩ : ∃ n, n = l.length := ⟨_, rfl⟩
  rw [← hn] at h1 k1 HV HU ⊢
  have hni : (n : Int) ≤ 9223372036854775807 := by omega
  have Hn := hide hn
  clear hn
  go_enter Try.func10, Try.ntmps10
  go_wp2
  go_loopw [5] (fun i wr => ∃ k : Nat, i = .int .i64 (k : Int) ∧ k ≤ n ∧ w.grownBy wr none) (fun i _ => n - (intOf i).toNat)
  case atStart => exact ⟨0, rfl, by omega, World.grownBy.refl _ _⟩
  case round =>
    obtain ⟨k, rfl, hk, hg⟩ := hrel
    by_cases hlt : k < n
    · have hlt' : (k : Int) < (n : Int) := by omega
      have hkl : k < l.length := by rw [← unhide Hn]; exact hlt
      obtain ⟨pb, off, hao, hpb, hc⟩ : ∃ pb off, ao = some ⟨pb, off, none⟩ ∧ pb < wr.heap.size ∧ ∀ i, (h : i < l.length) → wr.cell? ⟨pb, off + i, none⟩ = some (.int .i64 (l[i] : Int)) := by
        obtain ⟨ao', cap', e, _, _, h4⟩ := (unhide HV).kept hg
        cases e
        exact h4 (by omega)
      obtain ⟨qb, qff, hbo, hqb, hd⟩ : ∃ pb off, bo = some ⟨pb, off, none⟩ ∧ pb < wr.heap.size ∧ ∀ i, (h : i < l.length) → wr.cell? ⟨pb, off + i, none⟩ = some (.int .i64 (l[i] : Int)) := by
        obtain ⟨ao', cap', e, _, _, h4⟩ := (unhide HU).kept hg
        cases e
        exact h4 (by omega)
      subst hao hbo
      have c0 := hc k hkl
      have d0 := hd k hkl
      have HG := hide hg
      clear hc hd hg hlt
      go_wp2_with fail
      go_quiet (fail)
      go_wp2
      go_roundw
      case rel => exact ⟨k + 1, rfl, by omega, grown_drewN' (unhide HG) _⟩
      case measure => simp [intOf]; omega
    · have hlt' : ¬ (k : Int) < (n : Int) := by omega
      have HG := hide hg
      clear hg
      go_wp2
      go_ret
      exact ⟨rfl, unhide HG⟩

/-- What Pick answers. -/
def pickV (c n : Int) : Int := if c < 0 then -(c + 1) % n else c % n
theorem pickV_in (c n : Int) (hn : 0 < n) : 0 ≤ pickV c n ∧ pickV c n < n := by
  unfold pickV
  split
  · exact ⟨Int.emod_nonneg _ (by omega), Int.emod_lt_of_pos _ hn⟩
  · exact ⟨Int.emod_nonneg _ (by omega), Int.emod_lt_of_pos _ hn⟩
theorem Pick_val (c n : Int) (w : World) (h0 : -9223372036854775808 ≤ c) (h1 : c ≤ 9223372036854775807) (hn : 0 < n) (hn2 : n ≤ 9223372036854775807) :
    Calls Try.prog 7 #[.int .i64 c, .int .i64 n] w fun e w' => e = .returned (.int .i64 (pickV c n)) ∧ w' = w := by
  by_cases hc : c < 0
  · go_enter Try.func7, Try.ntmps7
    go_wp2
    go_ret
    have e : -(c + 1).tmod n = -(c + 1) % n := by rw [← Int.neg_tmod, Int.tmod_eq_emod_of_nonneg (by omega)]
    rw [pickV, if_pos hc, ← e]
    exact ⟨rfl, rfl⟩
  · go_enter Try.func7, Try.ntmps7
    go_wp2
    go_ret
    rw [pickV, if_neg (by omega)]
    exact ⟨rfl, rfl⟩

/-- A piece of a slice of numbers of one's own. -/
theorem NOwn.piece {w : World} {base : Nat} {lo : Option Addr} {q cap : Nat} {L : List Nat} (h : NOwn w base (.slice lo q cap) L) (a z : Nat) (haz : a ≤ z) (hz : z ≤ L.length) :
    Nr w (.slice (lo.map fun x => x.add a) (z - a) (cap - a)) ((L.take z).drop a) := by
  obtain ⟨ao, cap', e, h1, h2, h4⟩ := h.form
  injection e with e1 e2 e3
  subst e1 e3
  have hl : ((L.take z).drop a).length = z - a := by rw [List.length_drop, List.length_take]; omega
  refine ⟨_, cap - a, by rw [hl], by rw [hl]; omega, by omega, fun hne => ?_⟩
  rw [hl] at hne
  obtain ⟨g, rfl, hg, hc⟩ := h4 (by omega)
  refine ⟨g, a, by simp [addr_add], hg, fun i hi => ?_⟩
  rw [hl] at hi
  rw [hc (a + i) (by omega)]
  simp

theorem Nr.empty (w : World) (A : Option Addr) (C : Nat) (hC : C ≤ 9223372036854775807) : Nr w (.slice A 0 C) [] := ⟨A, C, rfl, by simp, hC, fun h => absurd rfl h⟩
theorem NOwn.pieces {w : World} {base : Nat} {lo : Option Addr} {q cap : Nat} {L : List Nat} (h : NOwn w base (.slice lo q cap) L) (hq : q = L.length) (a z N C : Nat) (A : Option Addr) (haz : a ≤ z) (hz : z ≤ q) (hqc : q ≤ cap) (hN : N = z - a)
    (hA : (A = lo.map (fun x => x.add a) ∧ C = cap - a) ∨ (a = 0 ∧ A = lo ∧ C = cap) ∨ (cap = a ∧ C ≤ 9223372036854775807)) : Nr w (.slice A N C) ((L.take z).drop a) := by
  subst hN
  rcases hA with ⟨rfl, rfl⟩ | ⟨rfl, rfl, rfl⟩ | ⟨h1, h2⟩
  · exact h.piece a z haz (by omega)
  · have := h.piece 0 z haz (by omega)
    cases A with
    | none => simpa using this
    | some ad => simpa [Addr.add] using this
  · have e : (L.take z).drop a = [] := List.drop_eq_nil_of_le (by rw [List.length_take]; omega)
    rw [e, show z - a = 0 by omega]
    exact Nr.empty w A C h2

set_option maxRecDepth 100000 in
set_option maxHeartbeats 16000000 in
theorem Shrinks.walk (vs vt : Value) (sz st : List Int) (gap : Int) (w : World) (hs : Ints w vs sz) (ht : Ints w vt st) (hgap : I64 gap) :
    Calls Try.prog 3 #[vs, .int .i64 gap, vt] w fun e w' => e = .returned (.bool true) ∧ Below w.heap.size w w' := by
  have HI := hide hs
  have HT := hide ht
  obtain ⟨so, scap, rfl, ht1, _, _⟩ := ht
  obtain ⟨ns, hns⟩ : ∃ n, n = st.length := ⟨_, rfl⟩
  rw [← hns] at ht1 HT ⊢
  have HNs := hide hns
  have hsi : (ns : Int) ≤ 9223372036854775807 := by omega
  clear hs hns
  go_enter Try.func3, Try.ntmps3
  go_wp2_with fail
  refine (awake_ok _).mono ?_
  rintro e w1 ⟨rfl, g1⟩
  have G1 := hide g1
  clear g1
  go_wp2_with fail
  refine (grown_any w1 vs sz gap ((unhide HI).kept (unhide G1)) hgap).mono ?_
  rintro e w2 ⟨b, n0, v0, vl, L, rfl, hb, m2, l2, hn0, g2⟩
  have G2 : Hid (w.grownBy w2 none) := hide ((unhide G1).trans g2)
  have HB : Hid (w.heap.size ≤ b) := hide (Nat.le_trans (unhide G1).size hb)
  obtain ⟨lo, lcap, rfl, hl1, hl2, hl4⟩ := l2.form
  have hsm := m2.small.1
  have HM0 : Hid (NdAt w2 b n0 v0 (L.take L.length)) := hide (by rw [List.take_length]; exact m2)
  have HL0 := hide l2
  obtain ⟨q, hq⟩ : ∃ q, q = L.length := ⟨_, rfl⟩
  rw [← hq] at hl1 hsm HM0 HL0 ⊢
  have HQ := hide hq
  have hqI : (q : Int) ≤ 64 := by omega
  clear hq m2 l2 g2 hb hl4 G1
  go_wp2
  go_loopw [11, 12] (fun x i wr => ∃ (k lft n : Nat) (vn : Value), i = .int .i64 (k : Int) ∧ x = .int .i64 (lft : Int) ∧ lft ≤ q ∧ k ≤ 30 ∧ n ≤ 23980 ∧ Hid ((ns < k ∨ 30 ≤ k) → n = 0) ∧ NdAt wr b n vn (L.take lft) ∧ NOwn wr w1.heap.size (.slice lo q lcap) L ∧ w.grownBy wr none) (fun _ i _ => 30 - (intOf i).toNat)
  case atStart => exact ⟨0, q, n0, v0, rfl, rfl, by omega, by omega, hn0, hide (by omega), unhide HM0, unhide HL0, unhide G2⟩
  case round =>
    obtain ⟨k, lft, n, vn, rfl, rfl, hlft, hk, hn, HEnd, hm, hl, hg⟩ := hrel
    have HM := hide hm
    have HL := hide hl
    have HG := hide hg
    have hTl : (L.take lft).length = lft := by rw [List.length_take, ← unhide HQ]; omega
    have HBn : Hid (lft = bf n) := hide (by rw [← hTl]; exact hm.len)
    have HTl := hide hTl
    clear hTl
    clear hm hl hg HM0 HL0 G2
    have hkI : (k : Int) ≤ 30 := by omega
    have hnI : (n : Int) ≤ 23980 := by omega
    have hlI : (lft : Int) ≤ 64 := by omega
    by_cases hlt : k ≤ ns ∧ k < 30
    · have hl1' : (k : Int) ≤ (ns : Int) := by omega
      have hl2' : (k : Int) < 30 := by omega
      go_upto_region 10 with fail
      go_cut [53] from 36 to 123 (fun c wx => c = .bool (decide (k < ns ∧ k < 29)) ∧ wx = wr)
      case first =>
        by_cases h1 : (k : Int) < (ns : Int)
        · by_cases h2 : (k : Int) < 29
          · have HD : Hid (decide (k < ns ∧ k < 29) = true) := hide (decide_eq_true (by omega))
            go_wp2_with fail
            go_meet
            exact ⟨by rw [unhide HD], rfl⟩
          · have HD : Hid (decide (k < ns ∧ k < 29) = false) := hide (decide_eq_false (by omega))
            go_wp2_with fail
            go_meet
            exact ⟨by rw [unhide HD], rfl⟩
        · have HD : Hid (decide (k < ns ∧ k < 29) = false) := hide (decide_eq_false (by omega))
          go_wp2_with fail
          go_meet
          exact ⟨by rw [unhide HD], rfl⟩
      case rest =>
        obtain ⟨rfl, hwc⟩ := hcut
        have hwc' : wr = wc := hwc.symm
        clear hwc
        subst hwc'
        go_upto_if 53 with fail
        go_cut [13] from 36 to 123 (fun t wx => ∃ tz : Nat, t = .int .i64 (tz : Int) ∧ tz ≤ n ∧ Hid (¬ (k < ns ∧ k < 29) → tz = 0) ∧ wr.grownBy wx none)
        case first =>
          by_cases hto : k < ns ∧ k < 29
          · have hD : decide (k < ns ∧ k < 29) = true := decide_eq_true hto
            rw [hD]
            have hkl : k < st.length := by rw [← unhide HNs]; exact hto.1
            obtain ⟨pb, off, rfl, c0, i0⟩ := ((unhide HT).kept (unhide HG)).at hkl
            obtain ⟨s, hs0⟩ : ∃ s, s = st[k] := ⟨_, rfl⟩
            rw [← hs0] at c0 i0
            have hp := pickV_in s ((n : Int) + 1) (by omega)
            have HTo := hide hto
            have hks : (k : Int) < (ns : Int) := by omega
            clear hs0 hD hto
            go_wp2_with fail
            go_quiet (first | (go_at_call 8; exact Calls.quiet_of_same (Size_any _ b n vn (L.take lft) ((unhide HM).drewN _))) | (go_at_call 7; exact Calls.quiet_of_same (Pick_val s ((n : Int) + 1) _ i0.1 i0.2 (by omega) (by omega))))
            go_wp2_with fail
            go_meet
            exact ⟨(pickV s ((n : Int) + 1)).toNat, by rw [Int.toNat_of_nonneg hp.1], by omega, hide (fun h => absurd (unhide HTo) h), grown_drewN' (World.grownBy.refl _ _) _⟩
          · have hD : decide (k < ns ∧ k < 29) = false := decide_eq_false hto
            rw [hD]
            go_wp2_with fail
            go_meet
            exact ⟨0, rfl, by omega, hide (fun _ => rfl), World.grownBy.refl _ _⟩
        case rest =>
          obtain ⟨tz, rfl, hto, HTo, hgx⟩ := hcut
          have M2 := hide ((unhide HM).grown hgx)
          have L2 := hide ((unhide HL).grown hgx)
          have G2 : Hid (w.grownBy wc none) := hide ((unhide HG).trans hgx)
          have htoI : (tz : Int) ≤ (n : Int) := by omega
          have hbt : bf tz ≤ lft := by rw [unhide HBn]; unfold bf; omega
          clear hgx HM HL HG
          go_wp2_with fail
          refine (Cut_ok wc b n vn (L.take lft) (unhide M2) tz hto).mono ?_
          rintro e w3 ⟨vd, vg, rfl, m3, o3, _, g3⟩
          have M3 : Hid (NdAt w3 b tz vd (L.take (bf tz))) := hide (by rw [List.take_take, Nat.min_eq_left hbt] at m3; exact m3)
          have L3 := hide ((unhide L2).far (unhide M2) g3)
          have G3 := hide (own_step (unhide G2) (unhide HB) g3)
          have O3 := hide o3
          have hDl : ((L.take lft).drop (bf tz)).length = lft - bf tz := by rw [List.length_drop, unhide HTl]
          have hlw : ∀ x ∈ canon ((L.take lft).drop (bf tz)), 0 < x.2 ∧ x.1 + x.2 ≤ 512 := low_canon (low_drop (unhide M2).lw _)
          have hXl := canon_len ((L.take lft).drop (bf tz))
          have HBk := hide (bks_canon ((L.take lft).drop (bf tz)))
          obtain ⟨go, gcap, rfl, _, _, _⟩ := o3.form
          clear m3 o3 g3 M2 L2 G2
          obtain ⟨X, hX⟩ : ∃ X, X = canon ((L.take lft).drop (bf tz)) := ⟨_, rfl⟩
          rw [← hX] at O3 hlw hXl HBk ⊢
          obtain ⟨D, hD⟩ : ∃ D, D = (L.take lft).drop (bf tz) := ⟨_, rfl⟩
          rw [← hD] at hDl hXl HBk
          have HDD := hide hD
          clear hX hD
          obtain ⟨x, hx⟩ : ∃ x, x = X.length := ⟨_, rfl⟩
          rw [← hx] at hXl ⊢
          have HXx := hide hx
          clear hx
          have hx64 : x ≤ 64 := by omega
          have hxI : (x : Int) ≤ 64 := by omega
          go_wp2
          go_loopw [16, 17] (fun a i wi => ∃ y : Nat, i = .int .i64 (y : Int) ∧ y ≤ x ∧ NOwn wi w3.heap.size a (bks (X.take y)) ∧ w3.grownBy wi none) (fun _ i _ => x - (intOf i).toNat)
          case atStart => exact ⟨0, rfl, by omega, by simpa [bks] using NOwn.nil w3 w3.heap.size, World.grownBy.refl _ _⟩
          case round =>
            obtain ⟨y, rfl, hy, hN, hG⟩ := hrel
            have HN := hide hN
            have HGi := hide hG
            clear hN hG
            by_cases hyx : y < x
            · have hyx' : (y : Int) < (x : Int) := by omega
              have hyX : y < X.length := by rw [← unhide HXx]; exact hyx
              obtain ⟨ao', cap', e, _, _, h4⟩ := (unhide O3).form
              injection e with e1 e2 e3
              obtain ⟨g, hgo, hgb, hgl, hcell⟩ := h4 (by omega)
              rw [← e1] at hgo
              subst hgo
              clear e1 e2 e3 h4
              have hx2 := hlw X[y] (List.getElem_mem hyX)
              have HCl := hide (hcell y hyX)
              have HTy : Hid (bks (X.take (y + 1)) = bks (X.take y) ++ List.range' X[y].1 X[y].2) := hide (by rw [List.take_succ_eq_append_getElem hyX, bks_append, bks_one])
              have HLe : Hid ((bks (X.take y)).length + X[y].2 ≤ 64) := hide (by
                have h1 := congrArg List.length (unhide HBk)
                have h2 : bks X = bks (X.take (y + 1)) ++ bks (X.drop (y + 1)) := by rw [← bks_append, List.take_append_drop]
                rw [h2, unhide HTy] at h1
                simp at h1
                omega)
              obtain ⟨xx, hxx⟩ : ∃ xx, xx = X[y] := ⟨_, rfl⟩
              rw [← hxx] at hx2 HCl HTy HLe
              clear hxx hcell hyx
              obtain ⟨x1, x2⟩ := xx
              simp only at hx2 HCl HTy HLe
              obtain ⟨hx21, hx22⟩ := hx2
              have hxxI : (x1 : Int) + (x2 : Int) ≤ 512 := by omega
              go_wp2
              go_loopw [16, 18] (fun a i wj => ∃ j : Nat, i = .int .i64 (j : Int) ∧ j ≤ x2 ∧ NOwn wj w3.heap.size a (bks (X.take y) ++ List.range' x1 j) ∧ w3.grownBy wj none) (fun _ i _ => x2 - (intOf i).toNat)
              case atStart => exact ⟨0, rfl, by omega, by simpa using unhide HN, unhide HGi⟩
              case round =>
                obtain ⟨j, rfl, hj, hN2, hG2⟩ := hrel
                have HN2 := hide hN2
                have HG2 := hide hG2
                have d0 := hG2.cell (unhide HCl).1 (by simp)
                have d1 := hG2.cell (unhide HCl).2 (by simp)
                clear hN2 hG2 HN HGi
                by_cases hjx : j < x2
                · have hjx' : (j : Int) < (x2 : Int) := by omega
                  have hll : (bks (X.take y) ++ List.range' x1 j).length ≤ 65536 := by
                    have := unhide HLe
                    simp
                    omega
                  go_wp2_with (at_builtin; refine wpList_append_int rfl (.tmp 85) (.tmp 93) rfl w3.heap.size _ (bks (X.take y) ++ List.range' x1 j) rfl ?ho ?hb2 hll ⟨_, 0, none⟩ 1 (x1 + j) rfl ?hc ?_)
                  case ho => exact (unhide HN2).grown (World.grownBy_alloc _ _ _)
                  case hb2 => have := (unhide HG2).size; simp; omega
                  case hc => exact (cell_of_row _ _ _ _ _ _ (heap_alloc_new _ _)).trans rfl
                  intro v5 w5 o5 g5
                  have N5 : Hid (NOwn w5 w3.heap.size v5 (bks (X.take y) ++ List.range' x1 (j + 1))) := hide (by rw [range_snoc]; exact o5)
                  have G5 : Hid (w3.grownBy w5 none) := hide (((unhide HG2).trans (World.grownBy_alloc _ _ _)).andThen g5 (fun z e => .inl ((unhide HN2).row e).1))
                  clear o5 g5 HN2 HG2 d0 d1
                  go_wp2
                  go_roundw
                  case rel => exact ⟨j + 1, rfl, by omega, unhide N5, unhide G5⟩
                  case measure => simp [intOf]; omega
                · have hjx' : ¬ (j : Int) < (x2 : Int) := by omega
                  have hje : j = x2 := by omega
                  have N5 : Hid (NOwn wr w3.heap.size u16 (bks (X.take (y + 1)))) := hide (by
                    have h := unhide HN2
                    rw [hje] at h
                    rw [unhide HTy]
                    exact h)
                  clear hje
                  go_wp2
                  go_roundw
                  case rel => exact ⟨y + 1, rfl, by omega, unhide N5, unhide HG2⟩
                  case measure => simp [intOf]; omega
            · have hyx' : ¬ (y : Int) < (x : Int) := by omega
              have HBl : Hid (NOwn wr w3.heap.size u16 D) := hide (by
                have h := unhide HN
                rw [List.take_of_length_le (by have := unhide HXx; omega), unhide HBk] at h
                exact h)
              have M4 := hide ((unhide M3).grown (unhide HGi))
              have L4 := hide ((unhide L3).grown (unhide HGi))
              have G4 : Hid (w.grownBy wr none) := hide ((unhide G3).trans (unhide HGi))
              obtain ⟨bo, bcap, hbu, hb1, hb2, _⟩ := (unhide HBl).form
              rw [hDl] at hbu hb1
              subst hbu
              obtain ⟨dl, hdl⟩ : ∃ dl, dl = lft - bf tz := ⟨_, rfl⟩
              rw [← hdl] at hb1 HBl ⊢
              obtain ⟨bt, hbte⟩ : ∃ bt, bt = bf tz := ⟨_, rfl⟩
              rw [← hbte] at hbt hdl HDD
              have HBt := hide hbte
              have Hdl := hide hdl
              have HPc : Hid (∀ (N C : Nat) (A : Option Addr), N = lft - bt → (A = lo.map (fun x => x.add bt) ∧ C = lcap - bt) ∨ (bt = 0 ∧ A = lo ∧ C = lcap) ∨ (lcap = bt ∧ C ≤ 9223372036854775807) → Nr wr (.slice A N C) D) := hide (fun N C A h1 h2 => by
                rw [unhide HDD]
                exact (unhide L4).pieces (unhide HQ) bt lft N C A hbt hlft hl1 h1 h2)
              have hdI : (dl : Int) ≤ (lft : Int) := by omega
              have hlq : (lft : Int) ≤ (q : Int) := by omega
              have hqc : (q : Int) ≤ (lcap : Int) := by omega
              have hcm : (lcap : Int) ≤ 9223372036854775807 := by omega
              have HFb : Hid (¬ (dl < lft) → dl = lft ∧ bt = 0) := hide (by omega)
              clear hdl hbte hDl HN HGi M3 L3 G3
              go_upto_region 23 with fail
              go_cut [19] from 36 to 123 (fun c wx => c = .bool true ∧ wr.grownBy wx none)
              case first =>
                by_cases hlt2 : dl < lft
                · have hs1 : ((lft : Int) - (dl : Int)).toNat = bt := by have := unhide Hdl; omega
                  by_cases hcap : lcap = bt
                  · subst hcap
                    go_wp2_with fail
                    refine (SameInts_eq wr _ _ D (unhide HBl).nr (unhide HPc _ _ _ rfl (.inr (.inr ⟨(by first | rfl | trivial), by omega⟩)))).mono ?_
                    rintro e w6 ⟨rfl, g6⟩
                    have G6 := hide g6
                    clear g6
                    go_wp2_with fail
                    go_meet
                    exact ⟨rfl, unhide G6⟩
                  · go_wp2_with fail
                    refine (SameInts_eq wr _ _ D (unhide HBl).nr (unhide HPc _ _ _ rfl (.inl ⟨rfl, rfl⟩))).mono ?_
                    rintro e w6 ⟨rfl, g6⟩
                    have G6 := hide g6
                    clear g6
                    go_wp2_with fail
                    go_meet
                    exact ⟨rfl, unhide G6⟩
                · have hB0 := hide (unhide HFb hlt2)
                  by_cases hcap : lcap = 0
                  · subst hcap
                    go_wp2_with fail
                    refine (SameInts_eq wr _ _ D (unhide HBl).nr (unhide HPc _ _ _ (by have h5 := (unhide hB0).2; have h6 := (unhide hB0).1; omega) (.inr (.inr ⟨(unhide hB0).2.symm, by omega⟩)))).mono ?_
                    rintro e w6 ⟨rfl, g6⟩
                    have G6 := hide g6
                    clear g6
                    go_wp2_with fail
                    go_meet
                    exact ⟨rfl, unhide G6⟩
                  · go_wp2_with fail
                    refine (SameInts_eq wr _ _ D (unhide HBl).nr (unhide HPc _ _ _ (by have h5 := (unhide hB0).2; have h6 := (unhide hB0).1; omega) (.inr (.inl ⟨(unhide hB0).2, rfl, rfl⟩)))).mono ?_
                    rintro e w6 ⟨rfl, g6⟩
                    have G6 := hide g6
                    clear g6
                    go_wp2_with fail
                    go_meet
                    exact ⟨rfl, unhide G6⟩
              case rest =>
                obtain ⟨rfl, g6⟩ := hcut
                have M6 := hide ((unhide M4).grown g6)
                have L6 := hide ((unhide L4).grown g6)
                have G6 : Hid (w.grownBy wc none) := hide ((unhide G4).trans g6)
                have HTb : Hid ((L.take (bf tz)).length = bt) := hide (by rw [← unhide HBt, List.length_take, ← unhide HQ]; omega)
                have HSb : Hid ((lft : Int) - (dl : Int) = (bt : Int)) := hide (by have := unhide Hdl; omega)
                clear g6 M4 L4 G4 HBl HPc
                go_wp2_with fail
                rw [unhide HSb]
                refine (Blocks_any wc b tz vd (L.take (bf tz)) (unhide M6)).mono ?_
                rintro e w7 ⟨rfl, rfl⟩
                rw [unhide HTb]
                go_wp2_with fail
                refine (Size_any w7 b tz vd (L.take (bf tz)) (unhide M6)).mono ?_
                rintro e w8 ⟨rfl, rfl⟩
                have HEn2 : Hid ((ns < k + 1 ∨ 30 ≤ k + 1) → tz = 0) := hide (fun h => unhide HTo (by omega))
                go_wp2
                go_roundw
                case rel => exact ⟨k + 1, bt, tz, vd, rfl, rfl, by omega, by omega, by omega, HEn2, by rw [unhide HBt]; exact unhide M6, unhide L6, unhide G6⟩
                case measure => simp [intOf]; omega
    · have HE0 : Hid (n = 0) := hide (unhide HEnd (by omega))
      have HL0 : Hid (lft = 0) := hide (by rw [unhide HBn, unhide HE0]; rfl)
      have hout : ¬ ((k : Int) ≤ (ns : Int) ∧ (k : Int) < 30) := by omega
      have HLL : Hid (∀ K : Prop, ((¬ (k : Int) ≤ (ns : Int)) → K) → (((k : Int) ≤ (ns : Int) ∧ ¬ (k : Int) < 30) → K) → K) := hide (fun K h1 h2 => by
        by_cases e : (k : Int) ≤ (ns : Int)
        · exact h2 ⟨e, fun h => hout ⟨e, h⟩⟩
        · exact h1 e)
      have hn00 := unhide HE0
      have hl00 := unhide HL0
      subst hn00 hl00
      rw [List.take_zero] at HM
      clear hlt hout HEnd HTl HBn hkI hnI hlI
      refine unhide HLL _ ?_ ?_
      all_goals intro hx
      all_goals try obtain ⟨hx1, hx2⟩ := hx
      all_goals go_wp2_with fail
      all_goals refine (Size_any wr b 0 vn [] (unhide HM)).mono ?_
      all_goals rintro e w9 ⟨rfl, rfl⟩
      all_goals go_wp2_with fail
      all_goals refine (Runs_any w9 b 0 vn [] (unhide HM)).mono ?_
      all_goals rintro e w10 ⟨u9, rfl, o9, g9⟩
      all_goals have G9 : Hid (w.grownBy w10 none) := hide ((unhide HG).trans g9)
      all_goals obtain ⟨ro, rcap, rfl, _, _, _⟩ := o9.form
      all_goals rw [canon_nil]
      all_goals clear o9 g9
      all_goals go_wp2
      all_goals go_ret
      all_goals exact ⟨by simp, below_of_grown (unhide G9)⟩

set_option maxRecDepth 100000 in
theorem Shrinks.lifted (os : Os) (started : os.Started) (H : Type) (enc : TypeId × Value → H) :
    ReturnsInHanded {} Try.checked os 3 .any (Rows.inodeShrinksSpec.pre6 enc Try.prog Try.f3 Rows.inodeShrinksRow.domain false) (Rows.inodeShrinksSpec.post enc Try.prog Try.f3 false true false false) := by
  refine returnsInHanded_of_change (C := Try.checked) own_knob started (by kernel_rfl) Try.func3
    (ChangeSpec.witness6 (enc := enc) (C := Try.checked) false ⟨#[], #[.slice none 0 0, .int .i64 0, .slice none 0 0], []⟩ 8 (by kernel_rfl) (by kernel_rfl) (by kernel_rfl) (by kernel_rfl)) ?_
  intro W base args ds gs before hval0 hW hcnd _
  have hval : ∀ (j : Nat) t v, Try.f3.params[j]? = some t → args[j]? = some v → Value.okWide Try.prog W .any base t v := hval0
  have hW' := hW
  obtain ⟨p, q, hA0, hV, rfl, hfz, hnd⟩ := hW
  have hA : DataW.TrodAll enc Try.prog W 0 (fun _ => true) true Try.f3.params.toList args.toList ds p := hA0
  rw [Try.params3] at hA hval
  obtain ⟨v0, v1, v2, d0, d1, d2, p0, p1, p2, rfl, rfl, rfl, h0, h1, h2⟩ := trodAll_three hA
  obtain ⟨rfl, rfl⟩ := trodVars_none hV
  obtain ⟨a1, rfl, rfl, rfl, w1⟩ := open_int Try.underlying3 (hval 1 3 v1 rfl rfl) h1
  have k2 := h2
  have lt2 : ∀ x ∈ p2, x.block < W.heap.size := by obtain ⟨m, hm⟩ := k2; exact DataW.trod_lt m _ _ _ hm
  obtain ⟨a2, len2, cap2, rfl⟩ := okWide_slice Try.underlying22 (hval 2 22 v2 rfl rfl)
  obtain ⟨l2, hl2⟩ := open_intl h2
  have k0 := h0
  have lt0 : ∀ x ∈ p0, x.block < W.heap.size := by obtain ⟨m, hm⟩ := k0; exact DataW.trod_lt m _ _ _ hm
  obtain ⟨a0, len0, cap0, rfl⟩ := okWide_slice Try.underlying22 (hval 0 22 v0 rfl rfl)
  obtain ⟨l0, hl0⟩ := open_intl h0
  have b1 := bounds_i64 w1
  clear hA0 hval0
  refine (Shrinks.walk _ _ l0 l2 a1 W hl0 hl2 ⟨by omega, by omega⟩).mono fun e W' ⟨he, bel⟩ => ?_
  subst he
  exact ⟨_, rfl, _, _, _, [], _, [], hW', trodAll_mk1 (shut_bool Try.underlying4 _), (trodAll_cons_mk (Below.trod laid_out (by kernel_rfl) (of_decide_eq_true (by kernel_rfl)) k0 bel lt0) (trodAll_cons_mk (shut_int Try.underlying3 w1) (trodAll_cons_mk (Below.trod laid_out (by kernel_rfl) (of_decide_eq_true (by kernel_rfl)) k2 bel lt2) trodAll_mk0))), rfl, bel.frame _, fun h => by cases h⟩

theorem inodeShrinks_holds : Rows.InodeShrinksSaid :=
  OpenClaim.holds_of_wide 3 Try.f3 rfl rfl rfl rfl rfl rfl rfl ⟨rfl, rfl, rfl, rfl, rfl⟩ rfl rfl rfl rfl rfl (by kernel_rfl) Try.func3 (by kernel_rfl)
    (of_decide_eq_true (by kernel_rfl)) (by unfold Func.isWrapper; first | (rw [if_pos (by decide +kernel)]; kernel_rfl) | (rw [if_neg (by decide +kernel)]; exact ⟨rfl, rfl⟩))
    (fun os started H enc _ => Shrinks.lifted os started H enc)
#print axioms inodeShrinks_holds
end Go.Proofs.Ytikoegmpbjeadab
