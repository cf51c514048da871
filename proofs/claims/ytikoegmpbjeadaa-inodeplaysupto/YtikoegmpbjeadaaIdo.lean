/-
  DERIVED. The law's 'do', by kinds: those that change nothing, and Cut.
-/
import Derived.Test.YtikoegmpbjeadaaIplay
import Derived.Test.YtikoegmpbjeadaaIopen
namespace Go.Proofs.Ytikoegmpbjeadaa
open Go.RowKit
set_option linter.unusedVariables false

/-- What 'do' is handed: a call, whose runs read so. -/
def clA (k N : Int) (vl : Value) (two : Bool) : Value := .agg #[.int .i64 k, .int .i64 N, vl, .bool two]

set_option maxRecDepth 20000 in
set_option maxHeartbeats 4000000 in
theorem do_other (w : World) (b c n : Nat) (v u vl : Value) (L : List Nat) (k N : Int) (two : Bool) (ao : Option Addr) (q cap : Nat) (hvl : vl = .slice ao q cap) (h : NdAt w b n v L) (h2 : RdAt w c n u L) (hk : ¬ k = 1 ∧ ¬ k = 7 ∧ ¬ k = 2 ∧ ¬ k = 3 ∧ ¬ k = 4 ∧ ¬ k = 5) :
    Calls Try.prog 13 #[.pointer (some ⟨b, 0, none⟩), .pointer (some ⟨c, 0, none⟩), clA k N vl two] w (DoPost w b c) := by
  obtain ⟨k1, k7, k2, k3, k4, k5⟩ := hk
  subst hvl
  unfold clA
  have HF : Hid (DoPost w b c (.returned (.bool true)) (w.alloc (.cells #[.int .i64 k, .int .i64 N, .slice ao q cap, .bool two] 34))) := hide ⟨rfl, ⟨n, v, u, L, h.grown (World.grownBy_alloc _ _ _), h2.grown (World.grownBy_alloc _ _ _)⟩, Fr2.of _ _ _ _ (World.grownBy_alloc _ _ _)⟩
  clear h h2
  go_enter Try.func13, Try.ntmps13
  go_wp2
  go_ret
  exact unhide HF

set_option maxRecDepth 20000 in
set_option maxHeartbeats 4000000 in
theorem do_asked (w : World) (b c n : Nat) (v u vl : Value) (L : List Nat) (N : Int) (two : Bool) (ao : Option Addr) (q cap : Nat) (hvl : vl = .slice ao q cap) (h : NdAt w b n v L) (h2 : RdAt w c n u L) :
    Calls Try.prog 13 #[.pointer (some ⟨b, 0, none⟩), .pointer (some ⟨c, 0, none⟩), clA 5 N vl two] w (DoPost w b c) := by
  subst hvl
  unfold clA
  have HM := hide (h.grown (World.grownBy_alloc w (.cells #[.int .i64 5, .int .i64 N, .slice ao q cap, .bool two] 34) none))
  have HR := hide (h2.grown (World.grownBy_alloc w (.cells #[.int .i64 5, .int .i64 N, .slice ao q cap, .bool two] 34) none))
  clear h h2
  go_enter Try.func13, Try.ntmps13
  go_wp2_with fail
  refine (asked_ok _ b c n v u L (unhide HM) (unhide HR)).mono ?_
  rintro e w1 ⟨rfl, g1⟩
  have HF : Hid (DoPost w b c (.returned (.bool true)) w1) := hide ⟨rfl, ⟨n, v, u, L, (unhide HM).grown g1, (unhide HR).grown g1⟩, Fr2.of _ _ _ _ ((World.grownBy_alloc _ _ _).trans g1)⟩
  clear g1
  go_wp2
  go_ret
  exact unhide HF

set_option maxRecDepth 20000 in
set_option maxHeartbeats 4000000 in
theorem do_need (w : World) (b c n : Nat) (v u vl : Value) (L : List Nat) (N : Int) (two : Bool) (ao : Option Addr) (q cap : Nat) (hvl : vl = .slice ao q cap) (h : NdAt w b n v L) (h2 : RdAt w c n u L) (hN : I64 N) :
    Calls Try.prog 13 #[.pointer (some ⟨b, 0, none⟩), .pointer (some ⟨c, 0, none⟩), clA 4 N vl two] w (DoPost w b c) := by
  subst hvl
  unfold clA
  obtain ⟨W, hW⟩ : ∃ W, W = w.alloc (.cells #[.int .i64 4, .int .i64 N, .slice ao q cap, .bool two] 34) := ⟨_, rfl⟩
  have HM : Hid (NdAt W b n v L) := hide (by rw [hW]; exact h.grown (World.grownBy_alloc _ _ _))
  have HR : Hid (RdAt W c n u L) := hide (by rw [hW]; exact h2.grown (World.grownBy_alloc _ _ _))
  have HG : Hid (w.grownBy W none) := hide (by rw [hW]; exact World.grownBy_alloc _ _ _)
  have cN : W.cell? ⟨w.heap.size, 1, none⟩ = some (.int .i64 N) := by rw [hW]; exact (cell_of_row _ _ _ _ _ _ (heap_alloc_new _ _)).trans rfl
  clear h h2
  go_enter Try.func13, Try.ntmps13
  go_wp2_with fail
  rw [← hW]
  clear hW
  refine (Need_val W b n v L (unhide HM) N hN).mono ?_
  rintro e w1 ⟨rfl, g1⟩
  have c1 := g1.cell cN (by simp)
  have M1 := hide ((unhide HM).grown g1)
  have R1 := hide ((unhide HR).grown g1)
  have G1 : Hid (w.grownBy w1 none) := hide ((unhide HG).trans g1)
  clear g1 cN HM HR HG
  go_wp2_with fail
  refine (rNeed_val w1 c n u L (unhide R1) N hN).mono ?_
  rintro e w2 ⟨rfl, g2⟩
  have HF : Hid (DoPost w b c (.returned (.bool true)) w2) := hide ⟨rfl, ⟨n, v, u, L, (unhide M1).grown g2, (unhide R1).grown g2⟩, Fr2.of _ _ _ _ ((unhide G1).trans g2)⟩
  clear g2 c1
  go_wp2
  go_ret
  exact unhide HF

set_option maxRecDepth 20000 in
set_option maxHeartbeats 4000000 in
theorem do_at (w : World) (b c n : Nat) (v u vl : Value) (L : List Nat) (N : Int) (two : Bool) (ao : Option Addr) (q cap : Nat) (hvl : vl = .slice ao q cap) (h : NdAt w b n v L) (h2 : RdAt w c n u L) (hN : I64 N) :
    Calls Try.prog 13 #[.pointer (some ⟨b, 0, none⟩), .pointer (some ⟨c, 0, none⟩), clA 3 N vl two] w (DoPost w b c) := by
  subst hvl
  unfold clA
  obtain ⟨W, hW⟩ : ∃ W, W = w.alloc (.cells #[.int .i64 3, .int .i64 N, .slice ao q cap, .bool two] 34) := ⟨_, rfl⟩
  have HM : Hid (NdAt W b n v L) := hide (by rw [hW]; exact h.grown (World.grownBy_alloc _ _ _))
  have HR : Hid (RdAt W c n u L) := hide (by rw [hW]; exact h2.grown (World.grownBy_alloc _ _ _))
  have HG : Hid (w.grownBy W none) := hide (by rw [hW]; exact World.grownBy_alloc _ _ _)
  have cN : W.cell? ⟨w.heap.size, 1, none⟩ = some (.int .i64 N) := by rw [hW]; exact (cell_of_row _ _ _ _ _ _ (heap_alloc_new _ _)).trans rfl
  clear h h2
  go_enter Try.func13, Try.ntmps13
  go_wp2_with fail
  rw [← hW]
  clear hW
  refine (At_val W b n v L (unhide HM) N hN).mono ?_
  rintro e w1 ⟨rfl, rfl⟩
  go_wp2_with fail
  refine (rAt_val w1 c n u L (unhide HR) N hN).mono ?_
  rintro e w2 ⟨rfl, rfl⟩
  have HF : Hid (DoPost w b c (.returned (.bool true)) w2) := hide ⟨rfl, ⟨n, v, u, L, unhide HM, unhide HR⟩, Fr2.of _ _ _ _ (unhide HG)⟩
  clear cN
  go_wp2
  go_ret
  exact unhide HF

set_option maxRecDepth 20000 in
set_option maxHeartbeats 8000000 in
theorem do_cut (w : World) (b c n : Nat) (v u vl : Value) (L : List Nat) (N : Int) (two : Bool) (ao : Option Addr) (q cap : Nat) (hvl : vl = .slice ao q cap) (h : NdAt w b n v L) (h2 : RdAt w c n u L) (hN : I64 N) :
    Calls Try.prog 13 #[.pointer (some ⟨b, 0, none⟩), .pointer (some ⟨c, 0, none⟩), clA 2 N vl two] w (DoPost w b c) := by
  subst hvl
  unfold clA
  have hlw := h.lw
  have hLl := h.small.1
  obtain ⟨W, hW⟩ : ∃ W, W = w.alloc (.cells #[.int .i64 2, .int .i64 N, .slice ao q cap, .bool two] 34) := ⟨_, rfl⟩
  have HM : Hid (NdAt W b n v L) := hide (by rw [hW]; exact h.grown (World.grownBy_alloc _ _ _))
  have HR : Hid (RdAt W c n u L) := hide (by rw [hW]; exact h2.grown (World.grownBy_alloc _ _ _))
  have HG : Hid (w.grownBy W none) := hide (by rw [hW]; exact World.grownBy_alloc _ _ _)
  have hbx : W.heap[w.heap.size]? = some (.cells #[.int .i64 2, .int .i64 N, .slice ao q cap, .bool two] 34 (0, 0)) := by rw [hW]; exact heap_alloc_new _ _
  have HBx := hide hbx
  have cN : W.cell? ⟨w.heap.size, 1, none⟩ = some (.int .i64 N) := (cell_of_row _ _ _ _ _ _ hbx).trans rfl
  have HNe : Hid (w.heap.size ≠ b) := hide (by have := h.lt; omega)
  clear h h2 hbx
  go_enter Try.func13, Try.ntmps13
  go_wp2_with fail
  rw [← hW]
  clear hW
  refine (Cut_gen W b n v L (unhide HM) N).mono ?_
  rintro e w1 ⟨a1, g1, rfl, m1, o1, s1, gr1⟩
  have c1 : w1.cell? ⟨w.heap.size, 1, none⟩ = some (.int .i64 N) := gr1.cell cN (by simpa using unhide HNe)
  have M1 := hide m1
  have O1 := hide o1
  have S1 := hide s1
  have R1 := hide ((unhide HR).nodes (unhide HM) gr1)
  have F1 := hide ((Fr2.of w W b c (unhide HG)).left gr1)
  have SZ1 := hide (unhide HG).size
  clear m1 o1 s1 gr1 cN HM HR HG
  go_wp2_with fail
  refine (rCut_gen w1 c n u L (unhide R1) N).mono ?_
  rintro e w2 ⟨a2, g2, rfl, m2, o2, gr2⟩
  have M2 := hide ((unhide M1).nodes (unhide R1) gr2)
  have R2 := hide m2
  have O12 := hide ((unhide O1).kept gr2 (fun z hz e => (unhide O1).ne hz (unhide R1).blk (by decide) (by simpa using e)))
  have O2 := hide o2
  have F2 := hide ((unhide F1).right gr2)
  clear m2 o2 gr2 c1 M1 R1 O1 F1
  go_wp2_with fail
  refine (SameRuns_any w2 g1 g2 _ _ ((unhide O12).rn (cutG_fit hlw)) ((unhide O2).rn (cutG_fit hlw))).mono ?_
  rintro e w3 ⟨rfl, gr3⟩
  simp only [decide_true]
  have M3 := hide ((unhide M2).grown gr3)
  have R3 := hide ((unhide R2).grown gr3)
  have F3 := hide ((unhide F2).none gr3)
  have O3 : Hid (∃ xs, ROwn w3 w.heap.size g1 xs ∧ xs.length = (cutG n L N).length) := hide ⟨_, ((unhide O12).grown gr3).mono (unhide SZ1), rfl⟩
  have hGl : (cutG n L N).length ≤ 64 := by
    unfold cutG
    split
    · have h1 := canon_len (L.drop (bf N.toNat))
      rw [List.length_drop] at h1
      omega
    · simp
  obtain ⟨ro, rcap, hru, _⟩ := (unhide O12).form
  obtain ⟨t, ht⟩ : ∃ t, t = (cutG n L N).length := ⟨_, rfl⟩
  rw [← ht] at O3 hGl hru
  subst hru
  clear gr3 M2 R2 O12 O2 F2 ht
  have htI : (t : Int) ≤ 64 := by omega
  go_wp2
  go_loopw [18] (fun i wr => ∃ (j : Nat) (xs : List (Nat × Nat)), i = .int .i64 (j : Int) ∧ j ≤ t ∧ ROwn wr w.heap.size (.slice ro t rcap) xs ∧ xs.length = t ∧ NdAt wr b (cutN n N) a1 (cutL n L N) ∧ RdAt wr c (cutN n N) a2 (cutL n L N) ∧ Fr2 w wr b c) (fun i _ => t - (intOf i).toNat)
  case atStart =>
    obtain ⟨xs, h1, h2⟩ := unhide O3
    exact ⟨0, xs, rfl, by omega, h1, h2, unhide M3, unhide R3, unhide F3⟩
  case round =>
    obtain ⟨j, xs, rfl, hj, ho, hxl, hm, hr, hf⟩ := hrel
    have HO := hide ho
    have HXl := hide hxl
    have HM := hide hm
    have HR := hide hr
    have HF := hide hf
    clear ho hxl hm hr hf M3 R3 O3 F3
    by_cases hlt : j < t
    · have hlt' : (j : Int) < (t : Int) := by omega
      have hjx : j < xs.length := by rw [unhide HXl]; exact hlt
      obtain ⟨ao', cap', e, _, _, h4⟩ := (unhide HO).form
      injection e with e1 e2 e3
      obtain ⟨g, hro, hgb, hgl, hcell⟩ := h4 (by omega)
      rw [← e1] at hro
      subst hro
      clear e1 e2 e3 h4
      obtain ⟨d0, d1⟩ := hcell j hjx
      obtain ⟨_, cur, hcur⟩ := (unhide HO).row (q := g) rfl
      have f0 : wr.frozen? ⟨g, j * 2, none⟩ = false := by simp [World.frozen?, hcur]
      have f1 : wr.frozen? ⟨g, j * 2 + 1, none⟩ = false := by simp [World.frozen?, hcur]
      have hgr : wr.grownBy ((wr.setCell ⟨g, j * 2, none⟩ (.int .i64 0)).setCell ⟨g, j * 2 + 1, none⟩ (.int .i64 0)) (some g) := (setCell_grown _ _ _ _).trans (setCell_grown _ _ _ _)
      have HO2 : Hid (∃ ys, ROwn ((wr.setCell ⟨g, j * 2, none⟩ (.int .i64 0)).setCell ⟨g, j * 2 + 1, none⟩ (.int .i64 0)) w.heap.size (.slice (some ⟨g, 0, none⟩) t rcap) ys ∧ ys.length = t) := hide ⟨_, ((unhide HO).set0 j 0 hjx).set1 j 0 (by simpa using hjx), by simpa using unhide HXl⟩
      have HM2 := hide ((unhide HM).other hgr (fun e => by
        have h7 := (unhide HM).blk
        rw [e, hcur] at h7
        injection h7 with h7
        injection h7 with _ h7
        exact absurd h7 (by decide)) (fun z hz e => unhide S1 g rfl (by rw [hz, e])))
      have HR2 := hide ((unhide HR).other hgr (fun e => by
        have h7 := (unhide HR).blk
        rw [e, hcur] at h7
        injection h7 with h7
        injection h7 with _ h7
        exact absurd h7 (by decide)) (fun z hz => (unhide HR).list.ne hz hcur (by decide)))
      have HF2 := hide ((unhide HF).new hgb hgr)
      clear hcell hcur HO HM HR HF hgr
      go_wp2
      go_roundw
      case rel =>
        obtain ⟨ys, h1, h2⟩ := unhide HO2
        exact ⟨j + 1, ys, rfl, by omega, h1, h2, unhide HM2, unhide HR2, unhide HF2⟩
      case measure => simp [intOf]; omega
    · have hlt' : ¬ (j : Int) < (t : Int) := by omega
      have HD : Hid (DoPost w b c (.returned (.bool true)) wr) := hide ⟨rfl, ⟨_, _, _, _, unhide HM, unhide HR⟩, unhide HF⟩
      clear HO HM HR HF
      go_wp2
      go_ret
      exact unhide HD
end Go.Proofs.Ytikoegmpbjeadaa
