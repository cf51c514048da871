/-
  DERIVED. joined: two lists of runs as one.
-/
import Derived.Test.YtikoegmpbjeadaaIhave
namespace Go.Proofs.Ytikoegmpbjeadaa
open Go.RowKit
set_option linter.unusedVariables false

theorem Norm.joinL {X : List (Nat × Nat)} (h : Norm X) : ∀ (Y : List (Nat × Nat)), (∀ y ∈ Y, 0 < y.2) → Norm (joinL X Y) := by
  intro Y
  induction Y generalizing X with
  | nil => intro _; exact h
  | cons y Y ih => intro hy; exact ih (h.jstep (hy y (List.mem_cons_self ..))) fun z hz => hy z (List.mem_cons_of_mem _ hz)
theorem joinL_len (X : List (Nat × Nat)) : ∀ (Y : List (Nat × Nat)), (joinL X Y).length ≤ X.length + Y.length := by
  intro Y
  induction Y generalizing X with
  | nil => simp [joinL]
  | cons y Y ih =>
    have h1 := ih (jstep X y)
    have h2 : (jstep X y).length ≤ X.length + 1 := by
      rcases jstep_cases X y with h | ⟨Z, z, rfl, _, h⟩
      · rw [h]; simp
      · rw [h]; simp
    show (joinL (jstep X y) Y).length ≤ _
    rw [List.length_cons]
    omega
theorem joinL_take (X Y : List (Nat × Nat)) (k : Nat) (h : k < Y.length) : joinL X (Y.take (k + 1)) = jstep (joinL X (Y.take k)) Y[k] := by rw [List.take_succ_eq_append_getElem h, joinL_snoc]
theorem ROwn.at_last {w : World} {base : Nat} {v : Value} {Z : List (Nat × Nat)} {z : Nat × Nat} (h : ROwn w base v (Z ++ [z])) : ∃ g cap, v = .slice (some ⟨g, 0, none⟩) (Z.length + 1) cap ∧ base ≤ g ∧ g < w.heap.size ∧ Z.length + 1 ≤ cap ∧ cap ≤ 9223372036854775807 ∧ w.cell? ⟨g, Z.length * 2, none⟩ = some (.int .i64 (z.1 : Int)) ∧ w.cell? ⟨g, Z.length * 2 + 1, none⟩ = some (.int .i64 (z.2 : Int)) ∧ (∀ i, w.frozen? ⟨g, i, none⟩ = false) := by
  obtain ⟨ao, cap, e, h1, h2, h4⟩ := h.form
  obtain ⟨g, e2, hb, hl, hc⟩ := h4 (by simp)
  subst e2
  obtain ⟨c0, c1⟩ := hc Z.length (by simp)
  simp only [List.getElem_append_right (Nat.le_refl _), Nat.sub_self, List.getElem_singleton] at c0 c1
  simp only [List.length_append, List.length_singleton] at e h1
  subst e
  obtain ⟨_, cur, hcur⟩ := h.row (q := g) rfl
  exact ⟨g, cap, rfl, hb, hl, h1, h2, c0, c1, fun i => by simp [World.frozen?, hcur]⟩

set_option maxRecDepth 20000 in
set_option maxHeartbeats 2000000 in
theorem joined_any (w : World) (v u : Value) (X Y : List (Nat × Nat)) (hv : ROwn w 0 v X) (hu : Rn w u (Y.map toI)) (hX : Norm X) (hXl : low (bks X)) (hY : ∀ y ∈ Y, 0 < y.2 ∧ y.1 + y.2 ≤ 512) (hlx : X.length ≤ 10000) (hly : Y.length ≤ 10000) :
    Calls Try.prog 39 #[v, u] w fun e w' => ∃ u', e = .returned u' ∧ ROwn w' w.heap.size u' (joinL X Y) ∧ w.grownBy w' none := by
  have HU := hide hu
  have HV := hide hv
  obtain ⟨ao, cap, rfl, hu1, hu2, hu3, hu4⟩ := hu
  rw [List.length_map] at hu1 HU ⊢
  clear hu4 hu3 hv
  obtain ⟨n, hn⟩ : ∃ n, n = Y.length := ⟨_, rfl⟩
  rw [← hn] at hu1 HU hly ⊢
  have HN := hide hn
  have hni : (n : Int) ≤ 10000 := by omega
  clear hn
  go_enter Try.func39, Try.ntmps39
  go_wp2_with fail
  refine (Clone_own w 0 v X (unhide HV) (by omega)).mono ?_
  rintro e w1 ⟨a1, rfl, o1, g1⟩
  have O1 := hide o1
  have G1 := hide g1
  clear o1 g1
  go_wp2
  go_loopw [5, 13] (fun a i wr => ∃ (k : Nat), i = .int .i64 (k : Int) ∧ k ≤ n ∧ ROwn wr w.heap.size a (joinL X (Y.take k)) ∧ w.grownBy wr none) (fun _ i _ => n - (intOf i).toNat)
  case atStart => exact ⟨0, rfl, by omega, by simpa [joinL] using unhide O1, unhide G1⟩
  case round =>
    obtain ⟨k, rfl, hk, ho, hg⟩ := hrel
    by_cases hlt : k < n
    · have hlt' : (k : Int) < (n : Int) := by omega
      have hkl : k < Y.length := by rw [← unhide HN]; exact hlt
      obtain ⟨pb, off, hao, hpb, hc⟩ : ∃ pb off, ao = some ⟨pb, off, none⟩ ∧ pb < wr.heap.size ∧ ∀ i, (h : i < (Y.map toI).length) → wr.cell? ⟨pb, off + i * 2, none⟩ = some (.int .i64 (Y.map toI)[i].1) ∧ wr.cell? ⟨pb, off + i * 2 + 1, none⟩ = some (.int .i64 (Y.map toI)[i].2) := by
        obtain ⟨ao', cap', e, _, _, _, h4⟩ := (unhide HU).kept hg
        injection e with e1 e2 e3
        subst e1
        exact h4 (by rw [List.length_map]; omega)
      subst hao
      obtain ⟨c0, c1⟩ := hc k (by rw [List.length_map]; exact hkl)
      rw [List.getElem_map] at c0 c1
      have hy := hY Y[k] (List.getElem_mem hkl)
      have HJ := hide (joinL_take X Y k hkl)
      have hpre : ∀ y ∈ Y.take k, 0 < y.2 ∧ y.1 + y.2 ≤ 512 := fun y hy => hY y (List.mem_of_mem_take hy)
      have HNm := hide (hX.joinL (Y.take k) fun y hy => (hpre y hy).1)
      have HLw : Hid (low (bks (joinL X (Y.take k)))) := hide (by rw [bks_joinL]; exact low_append hXl (low_bks fun y hy => (hpre y hy).2))
      have hJl : (joinL X (Y.take k)).length ≤ 20000 := by
        have h1 := joinL_len X (Y.take k)
        have h2 : (Y.take k).length ≤ k := by rw [List.length_take]; omega
        omega
      clear hpre
      obtain ⟨J, hJ⟩ : ∃ J, J = joinL X (Y.take k) := ⟨_, rfl⟩
      rw [← hJ] at ho HJ HNm HLw hJl
      obtain ⟨y, hyk⟩ : ∃ y, y = Y[k] := ⟨_, rfl⟩
      rw [← hyk] at c0 c1 hy HJ
      obtain ⟨y1, y2⟩ := y
      simp only [toI] at c0 c1 hy
      obtain ⟨hy1, hy2⟩ := hy
      have hyi1 : (0 : Int) < (y2 : Int) := by omega
      have hyi2 : (y1 : Int) + (y2 : Int) ≤ 512 := by omega
      clear hc hJ hyk hlt hY
      have HG : Hid (w.grownBy (wr.alloc (.cells #[.int .i64 (y1 : Int), .int .i64 (y2 : Int)] 51)) none) := hide (hg.trans (World.grownBy_alloc _ _ _))
      have HO : Hid (ROwn (wr.alloc (.cells #[.int .i64 (y1 : Int), .int .i64 (y2 : Int)] 51)) w.heap.size u5 J) := hide (ho.grown (World.grownBy_alloc _ _ _))
      clear hg ho
      have b0 : (wr.alloc (.cells #[.int .i64 (y1 : Int), .int .i64 (y2 : Int)] 51)).cell? ⟨wr.heap.size, 0, none⟩ = some (.int .i64 (y1 : Int)) := (cell_of_row _ _ _ _ _ _ (heap_alloc_new _ _)).trans rfl
      have b1 : (wr.alloc (.cells #[.int .i64 (y1 : Int), .int .i64 (y2 : Int)] 51)).cell? ⟨wr.heap.size, 1, none⟩ = some (.int .i64 (y2 : Int)) := (cell_of_row _ _ _ _ _ _ (heap_alloc_new _ _)).trans rfl
      rcases list_snoc J with hJ0 | ⟨Z, z, hJZ⟩
      · subst hJ0
        obtain ⟨ao5, cap5, hu5, _, _, _⟩ := (unhide HO).form
        subst hu5
        simp only [List.length_nil] at HO ⊢
        have hd : decide ((0 : Int) ≤ -1) = false := by decide
        go_wp2_with fail
        obtain ⟨W, hW⟩ : ∃ W, W = wr.alloc (.cells #[.int .i64 (y1 : Int), .int .i64 (y2 : Int)] 51) := ⟨_, rfl⟩
        rw [← hW] at b0 b1 HG HO ⊢
        have HS : Hid (wr.heap.size + 1 = W.heap.size) := hide (by rw [hW]; simp)
        clear hW c0 c1
        go_quiet (fail)
        go_wp2_with (at_builtin; refine wpList_append_run rfl (.tmp 48) (.tmp 50) rfl w.heap.size _ [] rfl ?ho ?hb ?hl ⟨_, 0, none⟩ 1 (y1, y2) rfl ?hc ?_)
        case ho => exact (unhide HO).grown (grown_drewN' (World.grownBy.refl _ _) _ |>.trans (World.grownBy_alloc _ _ _))
        case hb => have := (unhide HG).size; simp; omega
        case hl => simp
        case hc => exact one_cells' _ _ _
        intro v' w2 o2 g2
        have o1 : ROwn ((W.drewN nq).alloc (.cells #[.int .i64 (y1 : Int), .int .i64 (y2 : Int)] 51)) w.heap.size (.slice ao5 0 cap5) [] := (unhide HO).grown ((grown_drewN' (World.grownBy.refl _ _) _).trans (World.grownBy_alloc _ _ _))
        have g1 : w.grownBy ((W.drewN nq).alloc (.cells #[.int .i64 (y1 : Int), .int .i64 (y2 : Int)] 51)) none := (grown_drewN' (unhide HG) _).trans (World.grownBy_alloc _ _ _)
        have G2 : Hid (w.grownBy w2 none) := hide (own_step' g1 o1 g2)
        clear o1 g1
        have O2 : Hid (ROwn w2 w.heap.size v' (joinL X (Y.take (k + 1)))) := hide (by rw [unhide HJ]; exact o2)
        clear o2 g2 HO HG b0 b1
        go_wp2
        go_roundw
        case rel => exact ⟨k + 1, rfl, by omega, unhide O2, unhide G2⟩
        case measure => simp [intOf]; omega
      · subst hJZ
        have hz : z.1 + z.2 ≤ 512 ∧ 0 < z.2 := by
          have h1 := (unhide HNm).pos z (by simp)
          exact ⟨low_run (unhide HLw) z (by simp) h1, h1⟩
        obtain ⟨g5, cap5, hu5, hb5, hl5, hcp5, hcq5, d0, d1, hfz⟩ := (unhide HO).at_last
        subst hu5
        obtain ⟨z1, z2⟩ := z
        simp only at hz d0 d1
        obtain ⟨hz1, hz2⟩ := hz
        have hqi : Z.length ≤ 20000 := by simp at hJl; omega
        obtain ⟨q, hq⟩ : ∃ q, q = Z.length := ⟨_, rfl⟩
        rw [← hq] at d0 d1 hcp5 HO hqi ⊢
        have HQ := hide hq
        clear hq
        have hqi : (q : Int) ≤ 20000 := by omega
        have hzi : (z1 : Int) + (z2 : Int) ≤ 512 := by omega
        have hzj : (0 : Int) < (z2 : Int) := by omega
        have e1 : (q : Int) + 1 - 1 = (q : Int) := by omega
        go_wp2_with fail
        obtain ⟨W, hW⟩ : ∃ W, W = wr.alloc (.cells #[.int .i64 (y1 : Int), .int .i64 (y2 : Int)] 51) := ⟨_, rfl⟩
        rw [← hW] at b0 b1 HG HO d0 d1 hl5 hfz ⊢
        have HS : Hid (wr.heap.size + 1 = W.heap.size) := hide (by rw [hW]; simp)
        clear hW c0 c1
        have hd : decide ((0 : Int) ≤ (q : Int)) = true := decide_eq_true (by omega)
        by_cases hj : (z1 : Int) + (z2 : Int) = (y1 : Int)
        · have hj' : ((z1 : Int) + (z2 : Int) == (y1 : Int)) = true := beq_iff_eq.2 hj
          have HJ2 : Hid (joinL X (Y.take (k + 1)) = (Z ++ [(z1, z2)]).set q (z1, z2 + y2)) := hide (by
            rw [unhide HJ, show y1 = z1 + z2 by omega, jstep_join, unhide HQ]
            simp)
          have HO2 : Hid (ROwn (W.setCell ⟨g5, q * 2 + 1, none⟩ (.int .i64 ((z2 : Int) + (y2 : Int)))) w.heap.size (.slice (some ⟨g5, 0, none⟩) (q + 1) cap5) (joinL X (Y.take (k + 1)))) := hide (by
            have h := (unhide HO).set1 q (z2 + y2) (by rw [unhide HQ]; simp)
            have e : (Z ++ [(z1, z2)])[q]'(by rw [unhide HQ]; simp) = (z1, z2) := by simp [unhide HQ]
            rw [e] at h
            rw [unhide HJ2, ← Int.natCast_add]
            exact h)
          have HG2 : Hid (w.grownBy (W.setCell ⟨g5, q * 2 + 1, none⟩ (.int .i64 ((z2 : Int) + (y2 : Int)))) none) := hide (own_step (unhide HG) hb5 (setCell_grown _ _ _ _))
          clear HJ2 HO HG HJ
          go_quiet (fail)
          go_wp2_with fail
          go_region
          go_wp2
          go_roundw
          case rel => exact ⟨k + 1, rfl, by omega, unhide HO2, ⟨(unhide HG2).os, (unhide HG2).tape, (unhide HG2).output, (unhide HG2).size, (unhide HG2).block⟩⟩
          case measure => simp [intOf]; omega
        · have hj' : ((z1 : Int) + (z2 : Int) == (y1 : Int)) = false := beq_eq_false_iff_ne.2 hj
          have HJ2 : Hid (joinL X (Y.take (k + 1)) = Z ++ [(z1, z2)] ++ [(y1, y2)]) := hide (by
            rw [unhide HJ]
            exact jstep_not _ _ _ (by simp only; omega))
          clear HJ
          go_quiet (fail)
          go_wp2_with (at_builtin; refine wpList_append_run rfl (.tmp 48) (.tmp 50) rfl w.heap.size _ (Z ++ [(z1, z2)]) rfl ?ho ?hb ?hl ⟨_, 0, none⟩ 1 (y1, y2) rfl ?hc ?_)
          case ho => exact (unhide HO).grown (grown_drewN' (World.grownBy.refl _ _) _ |>.trans (World.grownBy_alloc _ _ _))
          case hb => have := (unhide HG).size; simp; omega
          case hl => have := unhide HQ; simp; omega
          case hc => exact one_cells' _ _ _
          intro v' w2 o2 g2
          have o1 : ROwn ((W.drewN nq).alloc (.cells #[.int .i64 (y1 : Int), .int .i64 (y2 : Int)] 51)) w.heap.size (.slice (some ⟨g5, 0, none⟩) (q + 1) cap5) (Z ++ [(z1, z2)]) := (unhide HO).grown ((grown_drewN' (World.grownBy.refl _ _) _).trans (World.grownBy_alloc _ _ _))
          have g1 : w.grownBy ((W.drewN nq).alloc (.cells #[.int .i64 (y1 : Int), .int .i64 (y2 : Int)] 51)) none := (grown_drewN' (unhide HG) _).trans (World.grownBy_alloc _ _ _)
          have G2 : Hid (w.grownBy w2 none) := hide (own_step' g1 o1 g2)
          have O2 : Hid (ROwn w2 w.heap.size v' (joinL X (Y.take (k + 1)))) := hide (by rw [unhide HJ2, List.append_assoc]; exact o2)
          clear o1 g1 o2 g2 HO HG b0 b1 d0 d1 hfz
          go_wp2
          go_roundw
          case rel => exact ⟨k + 1, rfl, by omega, unhide O2, unhide G2⟩
          case measure => simp [intOf]; omega
    · have hlt' : ¬ (k : Int) < (n : Int) := by omega
      have HO : Hid (ROwn wr w.heap.size u5 (joinL X Y)) := hide (by
        rw [List.take_of_length_le (by have := unhide HN; omega)] at ho
        exact ho)
      have HG := hide hg
      clear ho hg
      go_wp2
      go_ret
      exact ⟨_, rfl, unhide HO, unhide HG⟩
end Go.Proofs.Ytikoegmpbjeadaa
