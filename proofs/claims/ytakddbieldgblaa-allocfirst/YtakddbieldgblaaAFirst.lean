/-
  AllocFirst: for every int, every slice of calls and every int it returns true, and its arguments read as before. Conditions: none.
-/
import Derived.Test.YtakddbieldgblaaAopen
namespace Go.Proofs.Ytakddbieldgblaa
open Go.ChangeShapes Go.WideShapes Go.ChangeAt Go.RowKit
set_option linter.unusedVariables false
attribute [local go_sem] Oper.semAt_some

/-! ### The runs that are taken -/
theorem rising_of {xs : List (Nat × Nat)} (hp : ∀ x ∈ xs, 1 ≤ x.2) (h : (blocks xs).Pairwise (· < ·)) : xs.Pairwise fun x y => x.1 + x.2 ≤ y.1 := by
  induction xs with
  | nil => exact .nil
  | cons x xs ih =>
    have e : blocks (x :: xs) = List.range' x.1 x.2 ++ blocks xs := by simp [blocks]
    rw [e, List.pairwise_append] at h
    refine List.Pairwise.cons (fun y hy => ?_) (ih (fun z hz => hp z (List.mem_cons_of_mem _ hz)) h.2.1)
    have h1 := hp x (List.mem_cons_self ..)
    have h2 := hp y (List.mem_cons_of_mem _ hy)
    have := h.2.2 (x.1 + x.2 - 1) (List.mem_range'_1.2 (by omega)) y.1 (mem_blocks.2 ⟨y, hy, by omega, by omega⟩)
    omega
theorem blocks_sorted (B : Nat) (U V : Nat → Bool) : (blocks (runsOf B U V)).Pairwise (· < ·) := by
  rw [runsOf, blocks_runsF]
  exact List.Pairwise.filter _ (List.pairwise_lt_range')
theorem cut_sorted (B n : Nat) (U V : Nat → Bool) : (blocks (cut n (runsOf B U V))).Pairwise (· < ·) := by
  rw [blocks_cut]
  exact (blocks_sorted B U V).sublist (List.take_sublist _ _)

/-- The last block of the first k runs; -1 of none. -/
def lastI (rs : List (Nat × Nat)) (k : Nat) : Int := match k with
  | 0 => -1
  | k + 1 => match rs[k]? with
    | some x => (x.1 : Int) + (x.2 : Int) - 1
    | none => -1
theorem lastI_lt {rs : List (Nat × Nat)} (hr : rs.Pairwise fun x y => x.1 + x.2 ≤ y.1) {k : Nat} (hk : k < rs.length) : lastI rs k < (rs[k].1 : Int) := by
  cases k with
  | zero => simp only [lastI]; omega
  | succ k =>
    have h1 : rs[k]? = some rs[k] := List.getElem?_eq_getElem (by omega)
    simp only [lastI, h1]
    have := (List.pairwise_iff_getElem.1 hr) k (k + 1) (by omega) hk (by omega)
    omega
theorem lastI_step {rs : List (Nat × Nat)} {k : Nat} (hk : k < rs.length) : lastI rs (k + 1) = (rs[k].1 : Int) + (rs[k].2 : Int) - 1 := by
  simp only [lastI, List.getElem?_eq_getElem hk]
theorem total_take {rs : List (Nat × Nat)} {k : Nat} (hk : k < rs.length) : total (rs.take (k + 1)) = total (rs.take k) + rs[k].2 := by
  rw [List.take_succ_eq_append_getElem hk, total_append]
  simp [total]

/-- What may still be taken lies behind all that was. -/
theorem first_taken (B n : Nat) (U V : Nat → Bool) : ∀ x ∈ runsOf B (marks U (cut n (runsOf B U V))) V, lastI (cut n (runsOf B U V)) (cut n (runsOf B U V)).length ≤ (x.1 : Int) := by
  intro x hx
  obtain ⟨rs, hrs⟩ : ∃ rs, rs = cut n (runsOf B U V) := ⟨_, rfl⟩
  rw [← hrs] at hx ⊢
  cases hl : rs.length with
  | zero => simp only [lastI]; omega
  | succ k =>
    have hk : k < rs.length := by omega
    rw [lastI_step hk]
    have hpos := runsF_pos _ _ _ x hx
    have hx1 : x.1 ∈ blocks (runsOf B (marks U rs) V) := mem_blocks.2 ⟨x, hx, by omega, by omega⟩
    rw [runsOf, blocks_runsF] at hx1
    obtain ⟨hr, hm⟩ := List.mem_filter.1 hx1
    simp only [may, marks_eq, Bool.and_eq_true, Bool.not_eq_true', Bool.or_eq_false_iff, decide_eq_false_iff_not] at hm
    obtain ⟨⟨hU, hnb⟩, hV⟩ := hm
    have hF : x.1 ∈ blocks (runsOf B U V) := by
      rw [runsOf, blocks_runsF]
      exact List.mem_filter.2 ⟨hr, by simp [may, hU, hV]⟩
    have hall : ∀ y ∈ rs, 1 ≤ y.2 := by
      rw [hrs]
      exact cut_pos _ _ (fun y hy => runsF_pos _ _ _ y hy)
    have hrk : 1 ≤ rs[k].2 := hall _ (List.getElem_mem hk)
    have hlast : rs[k].1 + rs[k].2 - 1 ∈ blocks rs := mem_blocks.2 ⟨rs[k], List.getElem_mem hk, by omega, by omega⟩
    have hb : blocks rs = (blocks (runsOf B U V)).take n := by rw [hrs, blocks_cut]
    have hsplit := List.take_append_drop n (blocks (runsOf B U V))
    have hs := blocks_sorted B U V
    rw [← hsplit, List.pairwise_append] at hs
    rw [← hsplit] at hF
    rcases List.mem_append.1 hF with h | h
    · exact absurd (by rw [hb]; exact h) hnb
    · have := hs.2.2 _ (by rw [← hb]; exact hlast) _ h
      omega

theorem Give_some (w : World) (b B : Nat) (v : Value) (l : List (Int × Int)) (U V : Nat → Bool) (h : MapAt w b B U V) (hv : Rn w v l) :
    Calls Try.prog 17 #[.pointer (some ⟨b, 0, none⟩), v] w fun e w' => ∃ (x : Int) (U' : Nat → Bool), e = .returned (.int .i64 x) ∧ MapAt w' b B U' V ∧ w.grownBy w' (some b) := by
  refine (Give_any w b B v l U V h hv).mono fun e w' h => ?_
  obtain ⟨h1 | h1, h2⟩ := h
  · obtain ⟨U', _, e2, e3⟩ := h1
    exact ⟨_, U', e2, e3, h2⟩
  · obtain ⟨_, e2, e3⟩ := h1
    exact ⟨_, U, e2, e3, h2⟩
theorem Take_some (w : World) (b B n : Nat) (U V : Nat → Bool) (h : MapAt w b B U V) (hn2 : (n : Int) ≤ 9223372036854775807) :
    Calls Try.prog 12 #[.pointer (some ⟨b, 0, none⟩), .int .i64 (n : Int)] w fun e w' => ∃ (v : Value) (x : Int) (U' : Nat → Bool), e = .returned (.tuple #[v, .int .i64 x]) ∧ MapAt w' b B U' V ∧ w.grownBy w' (some b) := by
  refine (Take_any w b B n U V h hn2).mono fun e w' h => ?_
  obtain ⟨⟨v, h1 | h1⟩, h2, h3⟩ := h
  · exact ⟨v, _, _, h1.1, h2, h3⟩
  · exact ⟨v, _, _, h1.1, h2, h3⟩
theorem own_step {w w1 w2 : World} {b : Nat} (h : w.grownBy w1 none) (hb : w.heap.size ≤ b) (k : w1.grownBy w2 (some b)) : w.grownBy w2 none := h.andThen k (fun j e => by cases e; exact .inl hb)
theorem AClL.at {w : World} {ao : Option Addr} {n cap : Nat} {l : List ACl} (h : AClL w (.slice ao n cap) l) {i : Nat} (hi : i < l.length) : ∃ b off, ao = some ⟨b, off, none⟩ ∧ AClAt w b (off + i * 3) l[i] := by
  obtain ⟨ao', cap', e, _, h4⟩ := h
  cases e
  obtain ⟨b, off, e2, _, h5⟩ := h4 (by omega)
  exact ⟨b, off, e2, h5 i hi⟩

theorem act_gen {F : Fence} {n : Nat} {P : Program} {c : Code} {Q : Exit → Act → World → Prop} {T : Array Value} {w : World} (h : ∀ T', T' = T → c.wpIn F n P Q { tmps := T', defers := [] } w) : c.wpIn F n P Q { tmps := T, defers := [] } w := h T rfl

set_option maxRecDepth 100000 in
set_option maxHeartbeats 4000000 in
theorem First.walk (B0 N0 : Int) (vs : Value) (ls : List ACl) (w : World) (hB0 : I64 B0) (hN0 : I64 N0) (hs : AClL w vs ls) :
    Calls Try.prog 7 #[.int .i64 B0, vs, .int .i64 N0] w fun e w' => e = .returned (.bool true) ∧ Below w.heap.size w w' := by
  have HS := hide hs
  obtain ⟨so, scap, rfl, hs1, _⟩ := hs
  obtain ⟨b1, b2⟩ := hB0
  obtain ⟨n1, n2⟩ := hN0
  obtain ⟨ns, hns⟩ : ∃ n, n = ls.length := ⟨_, rfl⟩
  rw [← hns] at hs1 HS ⊢
  have Hns := hide hns
  have hsi : (ns : Int) ≤ 9223372036854775807 := by omega
  clear hns
  refine (callsIn_wide (n := 3)).1 ?_
  refine callsIn_of_wp_marks Try.func7 rfl trivial ?_ rfl
  simp only [Try.ntmps7, List.size_toArray, List.length_cons, List.length_nil, Nat.reduceAdd, Nat.reduceSub, Array.replicate_succ, Array.replicate_zero, List.push_toArray, List.append_toArray, List.nil_append, List.cons_append]
  gi_wp2_with fail
  have hR0 := Boxed.new w 4 (.bool false)
  obtain ⟨W0, hW0⟩ : ∃ W0, W0 = w.alloc (.cells #[.bool false] 4) := ⟨_, rfl⟩
  have hg0 : w.grownBy W0 none := by rw [hW0]; exact World.grownBy_alloc _ _ _
  have hz0 : W0.heap.size = w.heap.size + 1 := by rw [hW0]; simp
  rw [← hW0] at hR0 ⊢
  have HR0 := hide hR0
  have HG0 := hide hg0
  have HZ0 := hide hz0
  clear hW0 hR0 hg0 hz0
  refine ⟨trivial, (callsIn_wide.2 (awake_ok _)).mono ?_⟩
  rintro e w1 ⟨rfl, g1⟩
  have G1 := hide g1
  clear g1
  gi_wp2_with fail
  refine ⟨trivial, (callsIn_wide.2 (Pick_any B0 513 w1 b1 b2 (by omega) (by omega))).mono ?_⟩
  rintro e w1' ⟨B, rfl, hB, rfl⟩
  have hB5 : B ≤ 512 := by omega
  gi_wp2_with fail
  refine ⟨trivial, (callsIn_wide.2 (New_any B w1 hB5)).mono ?_⟩
  rintro e w2 ⟨rfl, m2, g2⟩
  obtain ⟨b, hb⟩ : ∃ b, b = w1.heap.size := ⟨_, rfl⟩
  rw [← hb] at m2 ⊢
  have M2 := hide m2
  have G2 : Hid (W0.grownBy w2 none) := hide ((unhide G1).trans g2)
  have HB : Hid (W0.heap.size ≤ b) := hide (by rw [hb]; exact (unhide G1).size)
  clear m2 g2 hb G1
  gi_wp2
  gi_loopw [9] (fun i wr => ∃ (k : Nat) (U V : Nat → Bool), i = .int .i64 (k : Int) ∧ k ≤ 40 ∧ MapAt wr b B U V ∧ W0.grownBy wr none) (fun i _ => 40 - (intOf i).toNat)
  case atStart => exact ⟨0, none?, none?, rfl, by omega, unhide M2, unhide G2⟩
  case round =>
    obtain ⟨k, U, V, rfl, hk, hm, hg⟩ := hrel
    by_cases hlt : k < ns ∧ k < 40
    · have hl1 : (k : Int) < (ns : Int) := by omega
      have hl2 : (k : Int) < 40 := by omega
      have hkl : k < ls.length := by rw [← unhide Hns]; exact hlt.1
      obtain ⟨pb, off, rfl, hat0⟩ := (unhide HS).at hkl
      have hat := (hat0.kept (unhide HG0)).kept hg
      have c0 := hat.c0
      have c1 := hat.c1
      have i0 := hat.i0
      have i1 := hat.i1
      have HM := hide hm
      have HG := hide hg
      clear hlt hat hat0 hm hg M2 G2
      gi_wp2_with fail
      refine ⟨trivial, (callsIn_wide.2 (Pick_any _ 3 wr i0.1 i0.2 (by omega) (by omega))).mono ?_⟩
      rintro e wr' ⟨q, rfl, hq, rfl⟩
      have hq3 : q = 0 ∨ q = 1 ∨ q = 2 := by omega
      rcases hq3 with rfl | rfl | rfl
      · gi_wp2_with fail
        refine ⟨trivial, (callsIn_wide.2 (Pick_any _ 30 wr i1.1 i1.2 (by omega) (by omega))).mono ?_⟩
        rintro e wr' ⟨q, rfl, hq, rfl⟩
        gi_wp2_with fail
        refine ⟨trivial, (callsIn_wide.2 (Take_some wr b B q U V (unhide HM) (by omega))).mono ?_⟩
        rintro e w3 ⟨v3, x3, U3, rfl, m3, g3⟩
        have G3 := hide (own_step (unhide HG) (unhide HB) g3)
        have M3 := hide m3
        clear m3 g3 c0 c1
        gi_wp2
        go_roundw
        case rel => exact ⟨k + 1, U3, V, rfl, by omega, unhide M3, unhide G3⟩
        case measure => simp [intOf]; omega
      · have hB1 : (B : Int) + 1 ≤ 513 := by omega
        gi_wp2_with fail
        refine ⟨trivial, (callsIn_wide.2 (Pick_any _ ((B : Int) + 1) wr i1.1 i1.2 (by omega) (by omega))).mono ?_⟩
        rintro e wr' ⟨z, rfl, hz, rfl⟩
        gi_wp2_with fail
        refine ⟨trivial, (callsIn_wide.2 (Give_some (wr.alloc (.cells #[.int .i64 (z : Int), .int .i64 1] 36)) b B _ [((z : Int), 1)] U V ((unhide HM).alloc _) (Rn.one wr (z : Int) 1 (by simp only [fits]; omega)))).mono ?_⟩
        rintro e w3 ⟨x3, U3, rfl, m3, g3⟩
        have G3 := hide (own_step ((unhide HG).trans (World.grownBy_alloc _ _ _)) (unhide HB) g3)
        have M3 := hide m3
        clear m3 g3 c0 c1
        gi_wp2
        go_roundw
        case rel => exact ⟨k + 1, U3, V, rfl, by omega, unhide M3, unhide G3⟩
        case measure => simp [intOf]; omega
      · gi_wp2_with fail
        refine ⟨trivial, (callsIn_wide.2 (Commit_any wr b B U V (unhide HM))).mono ?_⟩
        rintro e w3 ⟨⟨v3, rfl⟩, m3, g3⟩
        have G3 := hide (own_step (unhide HG) (unhide HB) g3)
        have M3 := hide m3
        clear m3 g3 c0 c1
        gi_wp2
        go_roundw
        case rel => exact ⟨k + 1, U, U, rfl, by omega, unhide M3, unhide G3⟩
        case measure => simp [intOf]; omega
    · have HM := hide hm
      have HG := hide hg
      clear hm hg M2 G2
      have hout : ¬ ((k : Int) < (ns : Int) ∧ (k : Int) < 40) := by omega
      have HL : Hid (∀ K : Prop, ((¬ (k : Int) < (ns : Int)) → K) → (((k : Int) < (ns : Int) ∧ ¬ (k : Int) < 40) → K) → K) := hide (fun K h1 h2 => by
        by_cases e : (k : Int) < (ns : Int)
        · exact h2 ⟨e, fun h => hout ⟨e, h⟩⟩
        · exact h1 e)
      clear hlt hout
      refine unhide HL _ ?_ ?_
      all_goals intro hx
      all_goals try obtain ⟨hx1, hx2⟩ := hx
      all_goals gi_wp2_with fail
      all_goals refine ⟨trivial, (callsIn_wide.2 (Free_any wr b B U V (unhide HM))).mono ?_⟩
      all_goals rintro e w5 ⟨rfl, g5⟩
      all_goals have G5 : Hid (W0.grownBy w5 none) := hide ((unhide HG).trans g5)
      all_goals have M5 := hide ((unhide HM).grown g5 (by simp))
      all_goals clear g5 HM HG
      all_goals have htt := runsOf_total B U V
      all_goals gi_wp2_with fail
      all_goals refine ⟨trivial, (callsIn_wide.2 (Pick_any N0 ((total (runsOf B U V) : Int) + 1) w5 n1 n2 (by omega) (by omega))).mono ?_⟩
      all_goals rintro e w5' ⟨n, rfl, hn, rfl⟩
      all_goals have hn' : n ≤ total (runsOf B U V) := by omega
      all_goals gi_wp2_with fail
      all_goals refine ⟨trivial, (callsIn_wide.2 (Take_ok w5 b B n U V (unhide M5) hn')).mono ?_⟩
      all_goals rintro e w6 ⟨v6, rfl, o6, m6, g6⟩
      all_goals have G6 := hide (own_step (unhide G5) (unhide HB) g6)
      all_goals have M6 := hide m6
      all_goals have hrn := o6.rn (fun x hx => by have := cut_in (runsOf B U V) n 512 (fun y hy => (runsOf_in hB5 y hy).2) x hx; omega)
      all_goals have H1 : Hid (∀ x ∈ cut n (runsOf B U V), 1 ≤ x.2 ∧ x.1 + x.2 ≤ 512) := hide (fun x hx => ⟨cut_pos _ _ (fun y hy => (runsOf_in hB5 y hy).1) x hx, cut_in _ _ 512 (fun y hy => (runsOf_in hB5 y hy).2) x hx⟩)
      all_goals have H2 : Hid ((cut n (runsOf B U V)).Pairwise fun x y => x.1 + x.2 ≤ y.1) := hide (rising_of (fun x hx => (unhide H1 x hx).1) (cut_sorted B n U V))
      all_goals have H3 := hide (first_taken B n U V)
      all_goals have H4 : Hid (total (cut n (runsOf B U V)) = n) := hide (total_cut _ _ hn')
      all_goals obtain ⟨rs, hrs⟩ : ∃ rs, rs = cut n (runsOf B U V) := ⟨_, rfl⟩
      all_goals rw [← hrs] at hrn H1 H2 H3 H4 M6
      all_goals have HN := hide hrn
      all_goals obtain ⟨ao, cap, rfl, q1, q2, _, _⟩ := hrn
      all_goals have hml : (rs.map toI).length = rs.length := by simp
      all_goals obtain ⟨m, hm0⟩ : ∃ m, m = rs.length := ⟨_, rfl⟩
      all_goals rw [hml, ← hm0] at q1 HN ⊢
      all_goals rw [← hm0] at H3
      all_goals have Hm := hide hm0
      all_goals have hmi : (m : Int) ≤ 9223372036854775807 := by omega
      all_goals have htn : n ≤ 512 := by omega
      all_goals clear g6 o6 m6 M5 G5 hrs hm0 hml hn hn' htt
      all_goals have hbL := Boxed.new w6 3 (.int .i64 (-1))
      all_goals have hgL : w6.grownBy (w6.alloc (.cells #[.int .i64 (-1)] 3)) none := World.grownBy_alloc _ _ _
      all_goals obtain ⟨W7, hW7⟩ : ∃ W7, W7 = w6.alloc (.cells #[.int .i64 (-1)] 3) := ⟨_, rfl⟩
      all_goals rw [← hW7] at hbL hgL
      all_goals have HbL := hide hbL
      all_goals have HgL := hide hgL
      all_goals clear hbL hgL
      all_goals gi_wp2
      all_goals rw [← hW7]
      all_goals clear hW7
      all_goals
        gi_loopw [13, 14] (fun many i wr => ∃ k : Nat, i = .int .i64 (k : Int) ∧ many = .int .i64 (total (rs.take k) : Int) ∧ k ≤ m ∧ Boxed wr w6.heap.size 3 (.int .i64 (lastI rs k)) ∧ w6.grownBy wr none) (fun _ i _ => m - (intOf i).toNat)
        case atStart => exact ⟨0, rfl, by simp [total], by omega, unhide HbL, unhide HgL⟩
        case round =>
          obtain ⟨k2, rfl, rfl, hk2, hbx, hg⟩ := hrel
          clear HbL HgL
          by_cases hlt2 : k2 < m
          · have hl1 : (k2 : Int) < (m : Int) := by omega
            have hkl : k2 < rs.length := by rw [← unhide Hm]; exact hlt2
            obtain ⟨ao', cap', e', _, _, _, h4⟩ := unhide HN
            have hml : (rs.map toI).length = rs.length := by simp
            obtain ⟨pb, off, hao, hpb, hcs⟩ := h4 (by omega)
            obtain ⟨c0', c1'⟩ := hcs k2 (by omega)
            have c0 := hg.cell c0' (by simp)
            have c1 := hg.cell c1' (by simp)
            clear c0' c1'
            have hpne : pb ≠ w6.heap.size := by omega
            have e0 : ((rs.map toI)[k2]'(by omega)) = toI rs[k2] := by simp
            rw [e0] at c0 c1
            cases e'
            subst hao
            have hin := unhide H1 rs[k2] (List.getElem_mem hkl)
            have hla := lastI_lt (unhide H2) hkl
            have HST := hide (lastI_step hkl)
            have HTT := hide (total_take hkl)
            have htl : total (rs.take k2) ≤ 512 := by have h5 := total_le_of_prefix (List.take_prefix k2 rs); have := unhide H4; omega
            obtain ⟨x, hx⟩ : ∃ x, x = rs[k2] := ⟨_, rfl⟩
            rw [← hx] at c0 c1 hin hla HST HTT
            simp only [toI] at c0 c1
            obtain ⟨x1, x2⟩ := x
            simp only at c0 c1 hin hla HST HTT
            obtain ⟨la, hla0⟩ : ∃ la, la = lastI rs k2 := ⟨_, rfl⟩
            rw [← hla0] at hla hbx
            have cL := hbx.cell
            have cF := hbx.frozen
            have d1 : decide ((x2 : Int) < 1) = false := decide_eq_false (by omega)
            have d2 : decide ((x1 : Int) ≤ la) = false := decide_eq_false (by omega)
            have b1' : (x1 : Int) ≤ 512 := by omega
            have b2' : (x2 : Int) ≤ 512 := by omega
            obtain ⟨tt, htt0⟩ : ∃ tt, tt = total (rs.take k2) := ⟨_, rfl⟩
            rw [← htt0] at HTT htl ⊢
            have htl' : (tt : Int) ≤ 512 := by omega
            have HX := hide hbx
            have HG7 := hide hg
            clear hcs h4 e0 hx hla0 htt0 hbx hg hlt2 hml
            gi_wp2_with fail
            refine wp_onlyN ?_
            go_quiet (fail)
            simp only [onlyN]
            gi_wp2_with fail
            refine wp_onlyN ?_
            go_region
            simp only [onlyN]
            have c1x : ((wr.drewN (nq + 1)).setCell ⟨w6.heap.size, 0, none⟩ (.int .i64 ((x1 : Int) + (x2 : Int) - 1))).cell? ⟨pb, off + k2 * 2 + 1, none⟩ = some (.int .i64 (x2 : Int)) := by
              rw [World.cell?_setCell_other _ _ _ _ (fun e => hpne (congrArg Addr.block e).symm)]
              exact c1
            have HX2 : Hid (Boxed ((wr.drewN (nq + 1)).setCell ⟨w6.heap.size, 0, none⟩ (.int .i64 ((x1 : Int) + (x2 : Int) - 1))) w6.heap.size 3 (.int .i64 (lastI rs (k2 + 1)))) := hide (by
              rw [unhide HST]
              exact Boxed.set _ (show Boxed (wr.drewN (nq + 1)) w6.heap.size 3 (.int .i64 la) from unhide HX))
            have HG8 : Hid (w6.grownBy ((wr.drewN (nq + 1)).setCell ⟨w6.heap.size, 0, none⟩ (.int .i64 ((x1 : Int) + (x2 : Int) - 1))) none) := hide ((grown_drewN (unhide HG7) (nq + 1)).andThen (setCell_grown _ w6.heap.size 0 _) (fun j e => by cases e; exact .inl (Nat.le_refl _)))
            gi_wp2
            go_roundw
            case rel => exact ⟨k2 + 1, rfl, by rw [unhide HTT]; push_cast; rfl, by omega, unhide HX2, unhide HG8⟩
            case measure => simp [intOf]; omega
          · obtain rfl : k2 = m := by omega
            have hl1 : ¬ (k2 : Int) < (k2 : Int) := by omega
            have htk : total (rs.take k2) = n := by rw [List.take_of_length_le (by have := unhide Hm; omega)]; exact unhide H4
            rw [htk]
            have HX := hide hbx
            have HG7 := hide hg
            have HRs := hide htk
            clear hbx hg hlt2 htk
            gi_wp2_with fail
            refine ⟨trivial, (callsIn_wide.2 (All_any _ _)).mono ?_⟩
            rintro e w' ⟨rfl, rfl⟩
            gi_wp2
            have bA := Boxed.new wr 24 (.pointer (some ⟨b, 0, none⟩))
            obtain ⟨Wl, hWl⟩ : ∃ Wl, Wl = wr.alloc (.cells #[.pointer (some ⟨b, 0, none⟩)] 24) := ⟨_, rfl⟩
            have hgl : wr.grownBy Wl none := by rw [hWl]; exact World.grownBy_alloc _ _ _
            have hsl : Wl.heap.size = wr.heap.size + 1 := by rw [hWl]; simp
            rw [← hWl] at bA ⊢
            clear hWl
            have hg6 : w6.grownBy Wl none := (unhide HG7).trans hgl
            have hgW : W0.grownBy Wl none := (unhide G6).trans hg6
            have bL : Boxed Wl w6.heap.size 3 (.int .i64 (lastI rs k2)) := (unhide HX).kept hgl (by simp)
            have bR : Boxed Wl w.heap.size 4 (.bool false) := (unhide HR0).kept hgW (by simp)
            have mL := (unhide M6).grown hg6 (by simp)
            have bel : Below w.heap.size w Wl := below_of_grown ((unhide HG0).trans hgW)
            have hLlt := (unhide HX).lt
            have hw6 : w.heap.size < w6.heap.size := by have h5 := (unhide G6).size; have := unhide HZ0; omega
            obtain ⟨la, hla0⟩ : ∃ la, la = lastI rs k2 := ⟨_, rfl⟩
            rw [← hla0] at bL H3
            clear hla0 HX hgl hg6 hgW
            refine act_gen fun T hT => ?_
            refine wpIn_rangeFunc_ownH rfl (by omega) (gf := 42) (lb := #[.pointer (some ⟨wr.heap.size, 0, none⟩)]) (by rw [hT]; rfl) trivial (enters_of Try.func42 (by kernel_rfl) rfl)
              (AllIt_stops 2 b B wr.heap.size w6.heap.size (w6.heap.size + 1) _ V Wl bA.cell bA.lt mL (by omega) (by omega) (fun j => no_arr_int bL.cell)) Kp.trans (Kp.book (by omega)) (Below.refl _ _) (fun _ => rfl)
              (fun pre W => (Boxed W w6.heap.size 3 (.int .i64 la) ∧ Boxed W w.heap.size 4 (.bool false)) ∧ Below w.heap.size w W)
              (fun c pre _ => c = .ret ∧ ∃ x ∈ pre, ((cl x).1 : Int) < la)
              (OwnFrom.and (OwnFrom.and (Own.from (boxed_own w6.heap.size 3 (fun pre : List (Nat × Nat) => .int .i64 la)) _) (Own.from (boxed_own w.heap.size 4 (fun pre : List (Nat × Nat) => .bool false)) _)) (ownFrom_below (Nat.le_refl _) (by omega)))
              (fun c => ownFrom_pure _ _)
              ⟨⟨bL, bR⟩, bel⟩
              (fun x a' W => ∃ Bx, RBox W Bx (cl x) ∧ a' = { tmps := (T.setIfInBounds 122 (rv (cl x))).setIfInBounds 15 (.pointer (some ⟨Bx, 0, none⟩)), defers := [] })
              (fun x a' s A A' row hs hg hr => by
                obtain ⟨Bx, h2, h3⟩ := hs
                exact ⟨Bx, RBox.own _ Bx _ () A A' row h2 hg hr, h3⟩)
              ?_ ?_ ?_ ?_
            · rintro l pre x W K ⟨⟨hb1, hb2⟩, hb3⟩ hK
              have HK := hide hK
              obtain ⟨y, hy⟩ : ∃ y, y = cl x := ⟨_, rfl⟩
              rw [← hy] at HK ⊢
              obtain ⟨y1, y2⟩ := y
              unfold rv at HK ⊢
              simp only at HK ⊢
              subst hT
              clear hy hK
              gi_wp2
              exact unhide HK _ _ ((KeepsOthers.alloc _ _).from _) (Kp.of_grown (World.grownBy_alloc _ _ _) hb1.lt) ⟨⟨hb1.alloc _, hb2.alloc _⟩, hb3.alloc hb3.size _⟩ ⟨W.heap.size, heap_alloc_new _ _, rfl⟩
            · rintro l pre x a' W hl hr ⟨⟨hb1, hb2⟩, hb3⟩ ⟨Bx, hbx, rfl⟩ hlt
              have c0 := hbx.c0
              have cL := hb1.cell
              have cR := hb2.cell
              have fR := hb2.frozen
              subst hT
              simp only [List.setIfInBounds_toArray, List.set_cons_succ, List.set_cons_zero]
              gi_wp2
              · have hlo : ((cl x).1 : Int) < la := by first | assumption | omega
                exact ⟨(KeepsOthers.setCell _ _ _).from _, rfl, x, by simp, hlo⟩
              · exact ⟨KeepsFrom.refl _ _, Kp.refl _ _ _, ⟨hb1, hb2⟩, hb3⟩
            · rintro D ys W hD rfl ⟨⟨hb1, hb2⟩, hb3⟩ hK
              have cR := hb2.cell
              have fR := hb2.frozen
              subst hT
              gi_wp2
              have hK' := (KeepsOthers.setCell W ⟨w.heap.size, 0, none⟩ (.bool true)).same D _ hK rfl
              refine ⟨by simp, .inl ⟨_, _, rfl, run_takeDeferred hK', ?_⟩⟩
              have hc5 := cell_kept (hb2.set (.bool true)).cell (grownBy_putObj' _ D (.deferred none)) (fun r e => by cases e; exact ⟨_, hK', rfl⟩)
              refine ⟨.bool true, ?_, rfl, (hb3.setCell (p := ⟨w.heap.size, 0, none⟩) (Nat.le_refl _) _).trans (belowK_b (w := w) (Nat.le_refl _) _ D _ _ (by omega) hK' rfl rfl)⟩
              simp [results, Try.f7, go_sem, hc5]
            · rintro D c pre W hD hpre ⟨rfl, x, hx, hlo⟩ hK
              exfalso
              have hxr := hpre.subset hx
              have h5 := runsOf_in hB5 x hxr
              rw [cl_id h5.1 h5.2] at hlo
              have := unhide H3 x hxr
              omega

set_option maxRecDepth 100000 in
theorem First.lifted (os : Os) (started : os.Started) (H : Type) (enc : TypeId × Value → H) :
    ReturnsInHanded {} Try.checked os 7 .any (Rows.allocFirstSpec.pre6 enc Try.prog Try.f7 Rows.allocFirstRow.domain false) (Rows.allocFirstSpec.post enc Try.prog Try.f7 false true false false) := by
  refine returnsInHanded_of_change (C := Try.checked) own_knob started (by kernel_rfl) Try.func7
    (ChangeSpec.witness6 (enc := enc) (C := Try.checked) false ⟨#[], #[.int .i64 0, .slice none 0 0, .int .i64 0], []⟩ 8 (by kernel_rfl) (by kernel_rfl) (by kernel_rfl) (by kernel_rfl)) ?_
  intro W base args ds gs before hval0 hW hcnd _
  have hval : ∀ (j : Nat) t v, Try.f7.params[j]? = some t → args[j]? = some v → Value.okWide Try.prog W .any base t v := hval0
  have hW' := hW
  obtain ⟨p, q, hA0, hV, rfl, hfz, hnd⟩ := hW
  have hA : DataW.TrodAll enc Try.prog W 0 (fun _ => true) true Try.f7.params.toList args.toList ds p := hA0
  rw [Try.params7] at hA hval
  obtain ⟨v0, v1, v2, d0, d1, d2, p0, p1, p2, rfl, rfl, rfl, h0, h1, h2⟩ := trodAll_three hA
  obtain ⟨rfl, rfl⟩ := trodVars_none hV
  obtain ⟨a0, rfl, rfl, rfl, w0⟩ := open_int Try.underlying3 (hval 0 3 v0 rfl rfl) h0
  obtain ⟨a2, rfl, rfl, rfl, w2⟩ := open_int Try.underlying3 (hval 2 3 v2 rfl rfl) h2
  have k1 := h1
  have lt1 : ∀ x ∈ p1, x.block < W.heap.size := by obtain ⟨m, hm⟩ := k1; exact DataW.trod_lt m _ _ _ hm
  obtain ⟨a1, len1, cap1, rfl⟩ := okWide_slice Try.underlying22 (hval 1 22 v1 rfl rfl)
  obtain ⟨l1, hl1⟩ := open_acalls h1
  have b0 := bounds_i64 w0
  have b2 := bounds_i64 w2
  clear hA0 hval0
  refine (First.walk a0 a2 _ l1 W ⟨by omega, by omega⟩ ⟨by omega, by omega⟩ hl1).mono fun e W' ⟨he, bel⟩ => ?_
  subst he
  exact ⟨_, rfl, _, _, _, [], _, [], hW', trodAll_mk1 (shut_bool Try.underlying4 _), (trodAll_cons_mk (shut_int Try.underlying3 w0) (trodAll_cons_mk (Below.trod laid_out (by kernel_rfl) (of_decide_eq_true (by kernel_rfl)) k1 bel lt1) (trodAll_cons_mk (shut_int Try.underlying3 w2) trodAll_mk0))), rfl, bel.frame _, fun h => by cases h⟩

theorem allocFirst_holds : Rows.AllocFirstSaid :=
  OpenClaim.holds_of_wide 7 Try.f7 rfl rfl rfl rfl rfl rfl rfl ⟨rfl, rfl, rfl, rfl, rfl⟩ rfl rfl rfl rfl rfl (by kernel_rfl) Try.func7 (by kernel_rfl)
    (of_decide_eq_true (by kernel_rfl)) (by unfold Func.isWrapper; first | (rw [if_pos (by decide +kernel)]; kernel_rfl) | (rw [if_neg (by decide +kernel)]; exact ⟨rfl, rfl⟩))
    (fun os started H enc _ => First.lifted os started H enc)
#print axioms allocFirst_holds
end Go.Proofs.Ytakddbieldgblaa
