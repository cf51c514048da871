/-
  DERIVED. The law's 'do': Extend by one run of what is needed.
-/
import Derived.Test.YtikoegmpbjeadaaIdo2
namespace Go.Proofs.Ytikoegmpbjeadaa
open Go.RowKit
set_option linter.unusedVariables false

set_option maxRecDepth 20000 in
set_option maxHeartbeats 16000000 in
theorem do_ext7 (w : World) (b c n : Nat) (v u vl : Value) (L : List Nat) (N : Int) (two : Bool) (ao : Option Addr) (q cap : Nat) (l : List (Int × Int)) (hvl : vl = .slice ao q cap) (hr : Rn w vl l) (hne : ∀ c, vl = .slice none 0 c → c = 0) (hl : l.length ≤ 2000000) (h : NdAt w b n v L) (h2 : RdAt w c n u L) (hN : I64 N) :
    Calls Try.prog 13 #[.pointer (some ⟨b, 0, none⟩), .pointer (some ⟨c, 0, none⟩), clA 7 N vl two] w (DoPost w b c) := by
  subst hvl
  unfold clA
  have HRn := hide hr
  have HNn := hide hne
  have hql : q = l.length := by obtain ⟨_, _, e, _⟩ := hr; injection e
  have HQl := hide hql
  have hqI : (q : Int) ≤ 2000000 := by omega
  have hn32 := h.le
  obtain ⟨W, hW⟩ : ∃ W, W = w.alloc (.cells #[.int .i64 7, .int .i64 N, .slice ao q cap, .bool two] 34) := ⟨_, rfl⟩
  have HM : Hid (NdAt W b n v L) := hide (by rw [hW]; exact h.grown (World.grownBy_alloc _ _ _))
  have HR : Hid (RdAt W c n u L) := hide (by rw [hW]; exact h2.grown (World.grownBy_alloc _ _ _))
  have HG : Hid (w.grownBy W none) := hide (by rw [hW]; exact World.grownBy_alloc _ _ _)
  have hbx : W.heap[w.heap.size]? = some (.cells #[.int .i64 7, .int .i64 N, .slice ao q cap, .bool two] 34 (0, 0)) := by rw [hW]; exact heap_alloc_new _ _
  have cN : W.cell? ⟨w.heap.size, 1, none⟩ = some (.int .i64 N) := (cell_of_row _ _ _ _ _ _ hbx).trans rfl
  have cL : W.cell? ⟨w.heap.size, 2, none⟩ = some (.slice ao q cap) := (cell_of_row _ _ _ _ _ _ hbx).trans rfl
  have cK : W.cell? ⟨w.heap.size, 0, none⟩ = some (.int .i64 7) := (cell_of_row _ _ _ _ _ _ hbx).trans rfl
  have hbw : w.heap.size < W.heap.size := lt_of_block hbx
  have HNe : Hid (w.heap.size ≠ b) := hide (by have := h.lt; omega)
  clear h h2 hbx hr hne hql
  go_enter Try.func13, Try.ntmps13
  go_upto_region 4 with fail
  rw [← hW]
  clear hW
  go_wp2_with (at_builtin; refine wpList_append_iruns rfl (.tmp 34) (.tmp 36) rfl W.heap.size _ rfl (ir_empty W) _ l rfl (((unhide HRn).kept (unhide HG)).alloc _) (unhide HNn) hl (by simp) ?_)
  intro v3 w3 o3 g3
  have g3' : W.grownBy w3 none := (World.grownBy_alloc _ _ _).andThen g3 (fun z e => .inl (by cases e; exact Nat.le_refl _))
  have I3 := hide o3
  have G3 := hide g3'
  obtain ⟨zo, zc, hx3, _⟩ := o3.form
  rw [← unhide HQl] at hx3
  have eN := g3'.cell cN (by simp)
  have eK := g3'.cell cK (by simp)
  have eL := g3'.cell cL (by simp)
  clear o3 g3 g3'
  subst hx3
  have I3u := I3
  have hsm := needV_small n N hn32
  go_wp2_with fail
  refine (rNeed_val w3 c n u L ((unhide HR).grown (unhide G3)) N hN).mono ?_
  rintro e w4 ⟨rfl, g4⟩
  have G4 : Hid (W.grownBy w4 none) := hide ((unhide G3).trans g4)
  have fL := g4.cell eL (by simp)
  have fN := g4.cell eN (by simp)
  have Rn4 := hide ((unhide HRn).kept ((unhide HG).trans (unhide G4)))
  obtain ⟨x, hx⟩ : ∃ x, x = (needV n N).1 := ⟨_, rfl⟩
  obtain ⟨y, hy⟩ : ∃ y, y = (needV n N).2 := ⟨_, rfl⟩
  rw [← hx] at hsm ⊢
  rw [← hy]
  obtain ⟨hx0, hx64⟩ := hsm
  clear g4 eL eN eK hx hy I3 I3u G3
  have hFits : ∀ z ∈ l, fits z := by obtain ⟨_, _, _, _, _, h, _⟩ := unhide HRn; exact h
  by_cases hgo : 0 < x ∧ 0 < q
  · have hg1 : 0 < x := hgo.1
    have hg2 : (0 : Int) < (q : Int) := by omega
    have hl0 : 0 < l.length := by rw [← unhide HQl]; exact hgo.2
    obtain ⟨pb, off, hao, hpb, hc⟩ : ∃ pb off, ao = some ⟨pb, off, none⟩ ∧ pb < w4.heap.size ∧ ∀ i, (h : i < l.length) → w4.cell? ⟨pb, off + i * 2, none⟩ = some (.int .i64 l[i].1) ∧ w4.cell? ⟨pb, off + i * 2 + 1, none⟩ = some (.int .i64 l[i].2) := by
      obtain ⟨ao', cap', e, _, _, _, h4⟩ := unhide Rn4
      injection e with e1 e2 e3
      subst e1
      exact h4 (by omega)
    subst hao
    have d0 := (hc 0 hl0).1
    have hf0 := hFits l[0] (List.getElem_mem hl0)
    obtain ⟨fr, hfr⟩ : ∃ fr, fr = l[0].1 := ⟨_, rfl⟩
    rw [← hfr] at d0
    have hf1 : fits (fr, x) := by
      unfold fits at hf0 ⊢
      rw [hfr]
      simp only at hf0 ⊢
      omega
    simp only [Nat.zero_mul, Nat.add_zero] at d0
    have IX := hide (IR.one w4 fr x)
    have GX : Hid (W.grownBy (w4.alloc (.cells #[.int .i64 fr, .int .i64 x] 51)) none) := hide ((unhide G4).trans (World.grownBy_alloc _ _ _))
    have FX : Hid (∀ z ∈ [(fr, x)], fits z) := hide (fun z hz => by simp at hz; subst hz; exact hf1)
    have ZB := hide (unhide G4).size
    clear hc hfr hf0 hf1 hgo hFits hl0
    go_upto_region 10 with fail
    have IX0 := IX
    have IX : Hid (IR (w4.alloc (.cells #[.int .i64 fr, .int .i64 x] 51)) W.heap.size (.slice (some ⟨w4.heap.size, 0, none⟩) 1 1) [(fr, x)]) := hide ((unhide IX0).mono (unhide ZB))
    have LX : Hid ([(fr, x)].length ≤ 2000000) := hide (by simp)
    have QX : Hid ([(fr, x)].length = 1) := hide rfl
    clear IX0 fL fN d0
    have M4 := hide ((unhide HM).grown (unhide GX))
    have R4 := hide ((unhide HR).grown (unhide GX))
    have cN4 := (unhide GX).cell cN (by simp)
    have G04 : Hid (w.grownBy (w4.alloc (.cells #[.int .i64 fr, .int .i64 x] 51)) none) := hide ((unhide HG).trans (unhide GX))
    have ZX := hide (unhide GX).size
    go_wp2_with fail
    refine (Extend_gen (w4.alloc (.cells #[.int .i64 fr, .int .i64 x] 51)) b n v _ L [(fr, x)] (unhide M4) N hN ((unhide IX).rn (unhide FX)) (by have := unhide LX; omega)).mono ?_
    rintro e w5 ⟨v5, rfl, m5, s5, gr5⟩
    have M5 := hide m5
    have R5 := hide ((unhide R4).nodes (unhide M4) gr5)
    have I5 := hide ((unhide IX).kept gr5 (fun z hz e => (unhide IX).ne hz (unhide M4).blk (by decide) (by simpa using e)))
    have F5 := hide ((Fr2.of w (w4.alloc (.cells #[.int .i64 fr, .int .i64 x] 51)) b c (unhide G04)).left gr5)
    have cN5 : w5.cell? ⟨w.heap.size, 1, none⟩ = some (.int .i64 N) := gr5.cell cN4 (by simpa using unhide HNe)
    have S5 : Hid (∀ z, (Value.slice (some ⟨w4.heap.size, 0, none⟩) 1 1).ownBlock = some z → v5.ownBlock ≠ some z) := hide (fun z hz e => by
      have h1 := (unhide IX).row hz
      rcases s5 with rfl | s5
      · obtain ⟨_, cur, hcu⟩ := (unhide HM).runs.row e
        have h2 := lt_of_block hcu
        have h3 := h1.1
        omega
      · obtain ⟨h2, _⟩ := s5.row e
        obtain ⟨_, cur, hcu⟩ := h1
        have h4 := lt_of_block hcu
        omega)
    clear m5 gr5 s5 M4 R4 cN4 G04
    go_wp2_with fail
    refine (rExtend_gen w5 c n u _ L [(fr, x)] (unhide R5) N hN ((unhide I5).rn (unhide FX)) (by have := unhide LX; omega)).mono ?_
    rintro e w6 ⟨u6, rfl, m6, gr6⟩
    have M6 := hide ((unhide M5).nodes (unhide R5) gr6)
    have R6 := hide m6
    have I6 : Hid (∃ l', IR w6 w.heap.size (.slice (some ⟨w4.heap.size, 0, none⟩) 1 1) l' ∧ l'.length = 1) := hide ⟨_, ((unhide I5).kept gr6 (fun z hz e => (unhide I5).ne hz (unhide R5).blk (by decide) (by simpa using e))).mono (unhide HG).size, unhide QX⟩
    have F6 := hide ((unhide F5).right gr6)
    clear m6 gr6 M5 R5 I5 F5 cN5
    have hxqI : (1 : Int) ≤ 2000000 := by have := unhide LX; have := unhide QX; omega
    go_wp2
    go_loopw [12] (fun i wr => ∃ (j : Nat) (l' : List (Int × Int)), i = .int .i64 (j : Int) ∧ j ≤ 1 ∧ IR wr w.heap.size (.slice (some ⟨w4.heap.size, 0, none⟩) 1 1) l' ∧ l'.length = 1 ∧ NdAt wr b (extN n N [(fr, x)]) v5 (extL n L N [(fr, x)]) ∧ RdAt wr c (extN n N [(fr, x)]) u6 (extL n L N [(fr, x)]) ∧ Fr2 w wr b c) (fun i _ => 1 - (intOf i).toNat)
    case atStart =>
      obtain ⟨l', h1, h2⟩ := unhide I6
      exact ⟨0, l', rfl, by omega, h1, h2, unhide M6, unhide R6, unhide F6⟩
    case round =>
      obtain ⟨j, l', rfl, hj, ho, hxl, hm, hr, hf⟩ := hrel
      have HO := hide ho
      have HXl := hide hxl
      have HM7 := hide hm
      have HR7 := hide hr
      have HF7 := hide hf
      clear ho hxl hm hr hf M6 R6 I6 F6
      by_cases hlt : j < 1
      · have hlt' : (j : Int) < (1 : Int) := by omega
        have hjx : j < l'.length := by rw [unhide HXl]; exact hlt
        obtain ⟨g, hro, hgb, hgl, hcell⟩ := (unhide HO).at_ (by omega)
        injection hro with hro
        injection hro with hro
        subst hro
        obtain ⟨d0, d1⟩ := hcell j hjx
        obtain ⟨_, cur, hcur⟩ := (unhide HO).row (q := w4.heap.size) rfl
        have f0 : wr.frozen? ⟨w4.heap.size, j * 2, none⟩ = false := by simp [World.frozen?, hcur]
        have f1 : wr.frozen? ⟨w4.heap.size, j * 2 + 1, none⟩ = false := by simp [World.frozen?, hcur]
        have hgr : wr.grownBy ((wr.setCell ⟨w4.heap.size, j * 2, none⟩ (.int .i64 500)).setCell ⟨w4.heap.size, j * 2 + 1, none⟩ (.int .i64 1)) (some w4.heap.size) := (setCell_grown _ _ _ _).trans (setCell_grown _ _ _ _)
        have HO2 : Hid (∃ ys, IR ((wr.setCell ⟨w4.heap.size, j * 2, none⟩ (.int .i64 500)).setCell ⟨w4.heap.size, j * 2 + 1, none⟩ (.int .i64 1)) w.heap.size (.slice (some ⟨w4.heap.size, 0, none⟩) 1 1) ys ∧ ys.length = 1) := hide ⟨_, (unhide HO).set j 500 1 hjx, by rw [List.length_set]; exact unhide HXl⟩
        have HM2 := hide ((unhide HM7).other hgr (fun e => by
          have h7 := (unhide HM7).blk
          rw [e, hcur] at h7
          injection h7 with h7
          injection h7 with _ h7
          exact absurd h7 (by decide)) (fun z hz e => unhide S5 w4.heap.size rfl (by rw [hz, e])))
        have HR2 := hide ((unhide HR7).other hgr (fun e => by
          have h7 := (unhide HR7).blk
          rw [e, hcur] at h7
          injection h7 with h7
          injection h7 with _ h7
          exact absurd h7 (by decide)) (fun z hz => (unhide HR7).list.ne hz hcur (by decide)))
        have HF2 := hide ((unhide HF7).new hgb hgr)
        clear hcell hcur HO HM7 HR7 HF7 hgr
        go_wp2
        go_roundw
        case rel =>
          obtain ⟨ys, h1, h2⟩ := unhide HO2
          exact ⟨j + 1, ys, rfl, by omega, h1, h2, unhide HM2, unhide HR2, unhide HF2⟩
        case measure => simp [intOf]; omega
      · have hlt' : ¬ (j : Int) < (1 : Int) := by omega
        have HD : Hid (DoPost w b c (.returned (.bool true)) wr) := hide ⟨rfl, ⟨_, _, _, _, unhide HM7, unhide HR7⟩, unhide HF7⟩
        clear HO HM7 HR7 HF7
        go_wp2
        go_ret
        exact unhide HD
  · have hout : ¬ (0 < x ∧ (0 : Int) < (q : Int)) := by omega
    have HLL : Hid (∀ K : Prop, ((¬ 0 < x) → K) → ((0 < x ∧ ¬ (0 : Int) < (q : Int)) → K) → K) := hide (fun K h1 h2 => by
      by_cases e : 0 < x
      · exact h2 ⟨e, fun h => hout ⟨e, h⟩⟩
      · exact h1 e)
    have IX : Hid (IR w4 W.heap.size (.slice none 0 0) []) := hide (IR.nil _ _)
    have GX := G4
    have FX : Hid (∀ z ∈ ([] : List (Int × Int)), fits z) := hide (fun z hz => by cases hz)
    have LX : Hid (([] : List (Int × Int)).length ≤ 2000000) := hide (by simp)
    have QX : Hid (([] : List (Int × Int)).length = 0) := hide rfl
    clear hgo hout hFits
    refine unhide HLL _ ?_ ?_
    all_goals intro hx
    all_goals try obtain ⟨hx1, hx2⟩ := hx
    all_goals go_upto_region 10 with fail
    all_goals clear fL fN
    all_goals
      have M4 := hide ((unhide HM).grown (unhide GX))
      have R4 := hide ((unhide HR).grown (unhide GX))
      have cN4 := (unhide GX).cell cN (by simp)
      have G04 : Hid (w.grownBy w4 none) := hide ((unhide HG).trans (unhide GX))
      have ZX := hide (unhide GX).size
      go_wp2_with fail
      refine (Extend_gen w4 b n v _ L ([] : List (Int × Int)) (unhide M4) N hN ((unhide IX).rn (unhide FX)) (by have := unhide LX; omega)).mono ?_
      rintro e w5 ⟨v5, rfl, m5, s5, gr5⟩
      have M5 := hide m5
      have R5 := hide ((unhide R4).nodes (unhide M4) gr5)
      have I5 := hide ((unhide IX).kept gr5 (fun z hz e => (unhide IX).ne hz (unhide M4).blk (by decide) (by simpa using e)))
      have F5 := hide ((Fr2.of w w4 b c (unhide G04)).left gr5)
      have cN5 : w5.cell? ⟨w.heap.size, 1, none⟩ = some (.int .i64 N) := gr5.cell cN4 (by simpa using unhide HNe)
      have S5 : Hid (∀ z, (Value.slice none 0 0).ownBlock = some z → v5.ownBlock ≠ some z) := hide (fun z hz e => by
        have h1 := (unhide IX).row hz
        rcases s5 with rfl | s5
        · obtain ⟨_, cur, hcu⟩ := (unhide HM).runs.row e
          have h2 := lt_of_block hcu
          have h3 := h1.1
          omega
        · obtain ⟨h2, _⟩ := s5.row e
          obtain ⟨_, cur, hcu⟩ := h1
          have h4 := lt_of_block hcu
          omega)
      clear m5 gr5 s5 M4 R4 cN4 G04
      go_wp2_with fail
      refine (rExtend_gen w5 c n u _ L ([] : List (Int × Int)) (unhide R5) N hN ((unhide I5).rn (unhide FX)) (by have := unhide LX; omega)).mono ?_
      rintro e w6 ⟨u6, rfl, m6, gr6⟩
      have M6 := hide ((unhide M5).nodes (unhide R5) gr6)
      have R6 := hide m6
      have I6 : Hid (∃ l', IR w6 w.heap.size (.slice none 0 0) l' ∧ l'.length = 0) := hide ⟨_, ((unhide I5).kept gr6 (fun z hz e => (unhide I5).ne hz (unhide R5).blk (by decide) (by simpa using e))).mono (unhide HG).size, unhide QX⟩
      have F6 := hide ((unhide F5).right gr6)
      clear m6 gr6 M5 R5 I5 F5 cN5
      have hxqI : (0 : Int) ≤ 2000000 := by have := unhide LX; have := unhide QX; omega
      go_wp2
      go_loopw [12] (fun i wr => ∃ (j : Nat) (l' : List (Int × Int)), i = .int .i64 (j : Int) ∧ j ≤ 0 ∧ IR wr w.heap.size (.slice none 0 0) l' ∧ l'.length = 0 ∧ NdAt wr b (extN n N []) v5 (extL n L N []) ∧ RdAt wr c (extN n N []) u6 (extL n L N []) ∧ Fr2 w wr b c) (fun i _ => 0 - (intOf i).toNat)
      case atStart =>
        obtain ⟨l', h1, h2⟩ := unhide I6
        exact ⟨0, l', rfl, by omega, h1, h2, unhide M6, unhide R6, unhide F6⟩
      case round =>
        obtain ⟨j, l', rfl, hj, ho, hxl, hm, hr, hf⟩ := hrel
        have HO := hide ho
        have HXl := hide hxl
        have HM7 := hide hm
        have HR7 := hide hr
        have HF7 := hide hf
        clear ho hxl hm hr hf M6 R6 I6 F6
        by_cases hlt : j < 0
        · exact absurd hlt (Nat.not_lt_zero _)
        · have hlt' : ¬ (j : Int) < (0 : Int) := by omega
          have HD : Hid (DoPost w b c (.returned (.bool true)) wr) := hide ⟨rfl, ⟨_, _, _, _, unhide HM7, unhide HR7⟩, unhide HF7⟩
          clear HO HM7 HR7 HF7
          go_wp2
          go_ret
          exact unhide HD
end Go.Proofs.Ytikoegmpbjeadaa
