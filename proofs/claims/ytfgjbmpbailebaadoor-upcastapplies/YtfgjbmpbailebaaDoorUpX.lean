/-
  DERIVED. The walks of what changes do: rename, show, scale.
-/
import Derived.Test.YtfgjbmpbailebaaDoorUpW
namespace Go.Proofs.YtfgjbmpbailebaaDoor
open Go.RowKit Go.Maps
set_option linter.unusedVariables false

theorem renC_no {fs : List Fld} {c : Chg} (h : hasF fs c.name = false ∨ hasF fs c.tn = true) : renC fs c = fs := by unfold renC; rw [if_pos h]
theorem renC_yes {fs : List Fld} {c : Chg} (h : hasF fs c.name = true) (h2 : hasF fs c.tn = false) : renC fs c = setF (dropF fs c.name) ⟨c.tn, (getA fs c.name).text, (getA fs c.name).n, (getA fs c.name).s⟩ := by unfold renC; rw [if_neg]; simp [h, h2]

set_option maxHeartbeats 4000000 in
theorem vrename_any (c : Chg) (fs : List Fld) (v : Value) (base : Nat) (w : World) (ho : FOwn w base v fs) (hb : base ≤ w.heap.size) (hlen : (fs.length + 1) * 48 ≤ 140737488355328) :
    Calls Tryd.prog 33 #[v, .agg (cgv c)] w (DoPost w base (renC fs c)) := by
  obtain ⟨a, cp, rfl, hfd⟩ := ho.fdn
  have hcl := fdn_len hfd
  obtain ⟨kd, nm, tn, ⟨fn, ft, fi, fss⟩⟩ := c
  have hb1 : Below w.heap.size w (w.alloc (.cells (cgv ⟨kd, nm, tn, ⟨fn, ft, fi, fss⟩⟩) 49)) := (Below.refl _ _).alloc (Nat.le_refl _) _
  have hx1 := CBx.new w ⟨kd, nm, tn, ⟨fn, ft, fi, fss⟩⟩
  have HG : Hid (∀ W, Below w.heap.size w W → Calls Tryd.prog 50 #[.slice a fs.length cp, sv nm] W fun e w' => e = .returned (.tuple #[.agg (fv (getA fs nm)), .bool (hasF fs nm)]) ∧ Below W.heap.size W w') := hide (fun W hW => Get_any a fs.length cp fs nm W (hfd.below hW (Nat.le_refl _)).1)
  have HHas : Hid (∀ W, Below w.heap.size w W → Calls Tryd.prog 46 #[.slice a fs.length cp, sv tn] W fun e w' => e = .returned (.bool (hasF fs tn)) ∧ Below W.heap.size W w') := hide (fun W hW => vhas_any a fs.length cp fs tn W (hfd.below hW (Nat.le_refl _)).1)
  have HO := hide ho
  obtain ⟨w1, hw1⟩ : ∃ w1, w1 = w.alloc (.cells (cgv ⟨kd, nm, tn, ⟨fn, ft, fi, fss⟩⟩) 49) := ⟨_, rfl⟩
  have HW1 := hide hw1
  rw [← hw1] at hb1 hx1
  obtain ⟨B, hB⟩ : ∃ B, B = w.heap.size := ⟨_, rfl⟩
  rw [← hB] at hx1
  have HX1 := hide hx1
  have HB1 := hide hb1
  obtain ⟨x0, x1, x2, x3, x4, x5, x6⟩ := hx1.cells
  simp only at x0 x1 x2 x3 x4 x5 x6
  have HBB := hide hB
  clear hw1 hx1 hb1 hB ho
  obtain ⟨⟨gn, gt, gi, gs⟩, hg⟩ : ∃ g, g = getA fs nm := ⟨_, rfl⟩
  rw [← hg] at HG
  cases hk : hasF fs nm with
  | false =>
    have HA := hide (renC_no (c := ⟨kd, nm, tn, ⟨fn, ft, fi, fss⟩⟩) (.inl hk))
    rw [hk] at HG
    clear hk hfd hg
    go_enter Tryd.func33, Tryd.ntmps33
    go_upto_region 1 with fail
    rw [← unhide HW1, ← unhide HBB]
    go_wp2_with (go_at_call 50; refine (unhide HG _ (unhide HB1)).mono ?_; rintro e w2 ⟨rfl, b2⟩; have HB2 := hide (((unhide HB1).trans (b2.mono (unhide HB1).size)).alloc ((unhide HB1).trans (b2.mono (unhide HB1).size)).size (.cells (fv ⟨gn, gt, gi, gs⟩) 30)); clear b2)
    go_ret
    rw [unhide HA]
    exact DoPost.same (unhide HO) (unhide HB2)
  | true =>
    rw [hk] at HG
    cases hk2 : hasF fs tn with
    | true =>
      have HA := hide (renC_no (c := ⟨kd, nm, tn, ⟨fn, ft, fi, fss⟩⟩) (.inr hk2))
      rw [hk2] at HHas
      clear hk hk2 hfd hg
      go_enter Tryd.func33, Tryd.ntmps33
      go_upto_region 1 with fail
      rw [← unhide HW1, ← unhide HBB]
      go_upto_region 2 with (go_at_call 50; refine (unhide HG _ (unhide HB1)).mono ?_; rintro e w2 ⟨rfl, b2⟩; have HB2 := hide (((unhide HB1).trans (b2.mono (unhide HB1).size)).alloc ((unhide HB1).trans (b2.mono (unhide HB1).size)).size (.cells (fv ⟨gn, gt, gi, gs⟩) 30)); have HX2 := hide (((unhide HX1).below b2 (Nat.le_refl _)).below ((Below.refl _ _).alloc (Nat.le_refl _) (.cells (fv ⟨gn, gt, gi, gs⟩) 30)) (Nat.le_refl _)); clear b2)
      clear x0 x1 x2 x3 x4 x5 x6
      obtain ⟨w3, hw3⟩ : ∃ w3, w3 = w2.alloc (.cells (fv ⟨gn, gt, gi, gs⟩) 30) := ⟨_, rfl⟩
      rw [show w2.alloc (.cells #[Value.string ⟨gn.toArray⟩, .bool gt, .int .i64 gi, Value.string ⟨gs.toArray⟩] 30) = w3 from hw3.symm]
      rw [← hw3] at HB2 HX2
      clear hw3
      obtain ⟨x0, x1, x2, x3, x4, x5, x6⟩ := (unhide HX2).cells
      simp only at x0 x1 x2 x3 x4 x5 x6
      go_wp2_with (go_at_call 46; refine (unhide HHas _ (unhide HB2)).mono ?_; rintro e w4 ⟨rfl, b4⟩; have HB4 := hide ((unhide HB2).trans (b4.mono (unhide HB2).size)); clear b4)
      go_ret
      rw [unhide HA]
      exact DoPost.same (unhide HO) (unhide HB4)
    | false =>
      have HA := hide (renC_yes (c := ⟨kd, nm, tn, ⟨fn, ft, fi, fss⟩⟩) hk hk2)
      simp only at HA
      rw [← hg] at HA
      rw [hk2] at HHas
      have HD : Hid (∀ W, Below w.heap.size w W → Calls Tryd.prog 32 #[.slice a fs.length cp, sv nm] W fun e w' => ∃ v, e = .returned v ∧ FOwn w' W.heap.size v (dropF fs nm) ∧ Below W.heap.size W w') := hide (fun W hW => Drop_any a cp fs _ W (hfd.below hW (Nat.le_refl _)) (by omega))
      have hdl : ((dropF fs nm).length + 1) * 48 ≤ 140737488355328 := by have := (drop_len fs nm).1 hk; omega
      obtain ⟨D, hD⟩ : ∃ D, D = dropF fs nm := ⟨_, rfl⟩
      rw [← hD] at HD hdl HA
      have HS : Hid (∀ W a2 c2, FdN W a2 c2 D → Calls Tryd.prog 47 #[.slice a2 D.length c2, .agg (fv ⟨tn, gt, gi, gs⟩)] W fun e w' => ∃ v, e = .returned v ∧ FOwn w' W.heap.size v (setF D ⟨tn, gt, gi, gs⟩) ∧ Below W.heap.size W w') := hide (fun W a2 c2 hW => Set_any a2 c2 D _ W hW hdl)
      clear hk hk2 hfd hg hD
      go_enter Tryd.func33, Tryd.ntmps33
      go_upto_region 1 with fail
      rw [← unhide HW1, ← unhide HBB]
      go_upto_region 2 with (go_at_call 50; refine (unhide HG _ (unhide HB1)).mono ?_; rintro e w2 ⟨rfl, b2⟩; have HB2 := hide (((unhide HB1).trans (b2.mono (unhide HB1).size)).alloc ((unhide HB1).trans (b2.mono (unhide HB1).size)).size (.cells (fv ⟨gn, gt, gi, gs⟩) 30)); have HX2 := hide (((unhide HX1).below b2 (Nat.le_refl _)).below ((Below.refl _ _).alloc (Nat.le_refl _) (.cells (fv ⟨gn, gt, gi, gs⟩) 30)) (Nat.le_refl _)); have HF2 := hide (FBox.new w2 ⟨gn, gt, gi, gs⟩); have hge := (unhide HB1).size; have hge2 := b2.size; clear b2)
      clear x0 x1 x2 x3 x4 x5 x6
      obtain ⟨w3, hw3⟩ : ∃ w3, w3 = w2.alloc (.cells (fv ⟨gn, gt, gi, gs⟩) 30) := ⟨_, rfl⟩
      rw [show w2.alloc (.cells #[Value.string ⟨gn.toArray⟩, .bool gt, .int .i64 gi, Value.string ⟨gs.toArray⟩] 30) = w3 from hw3.symm]
      rw [← hw3] at HB2 HX2 HF2
      obtain ⟨P, hP⟩ : ∃ P, P = w2.heap.size := ⟨_, rfl⟩
      rw [← hP] at HF2 ⊢
      have HP : Hid (w.heap.size ≤ P ∧ B ≠ P) := hide (by
        have hB := unhide HBB
        have hX := (unhide HX1).lt
        rw [hP]
        omega)
      clear hw3 hP hge hge2
      obtain ⟨x0, x1, x2, x3, x4, x5, x6⟩ := (unhide HX2).cells
      simp only at x0 x1 x2 x3 x4 x5 x6
      go_upto_region 4 with (go_at_call 46; refine (unhide HHas _ (unhide HB2)).mono ?_; rintro e w4 ⟨rfl, b4⟩; have HB4 := hide ((unhide HB2).trans (b4.mono (unhide HB2).size)); have HX4 := hide ((unhide HX2).below b4 (Nat.le_refl _)); have HF4 := hide ((unhide HF2).below b4 (Nat.le_refl _)); clear b4)
      clear x0 x1 x2 x3 x4 x5 x6
      obtain ⟨x0, x1, x2, x3, x4, x5, x6⟩ := (unhide HX4).cells
      obtain ⟨y0, y1, y2, y3, yf⟩ := (unhide HF4).cells
      simp only at x0 x1 x2 x3 x4 x5 x6 y0 y1 y2 y3
      go_upto_region 5 with fail
      have HB5 : Hid (Below w.heap.size w (w4.setCell ⟨P, 0, none⟩ (sv tn))) := hide ((unhide HB4).setCell (unhide HP).1 _)
      have HX5 : Hid (CBx (w4.setCell ⟨P, 0, none⟩ (sv tn)) B ⟨kd, nm, tn, ⟨fn, ft, fi, fss⟩⟩) := hide ((Below.heap_setCell w4 ⟨P, 0, none⟩ (sv tn) B (unhide HP).2).trans (unhide HX4))
      have HF5 : Hid (FBox (w4.setCell ⟨P, 0, none⟩ (sv tn)) P ⟨tn, gt, gi, gs⟩) := hide (heap_setCell_same w4 P 0 _ _ (sv tn) (unhide HF4))
      obtain ⟨w5, hw5⟩ : ∃ w5, w5 = w4.setCell ⟨P, 0, none⟩ (sv tn) := ⟨_, rfl⟩
      rw [show w4.setCell ⟨P, 0, none⟩ (Value.string ⟨tn.toArray⟩) = w5 from hw5.symm]
      rw [← hw5] at HB5 HX5 HF5
      clear x0 x1 x2 x3 x4 x5 x6 y0 y1 y2 y3 yf hw5
      obtain ⟨x0, x1, x2, x3, x4, x5, x6⟩ := (unhide HX5).cells
      obtain ⟨y0, y1, y2, y3, yf⟩ := (unhide HF5).cells
      simp only at x0 x1 x2 x3 x4 x5 x6 y0 y1 y2 y3
      have HF5' : Hid (FBox w5.drew P ⟨tn, gt, gi, gs⟩) := hide ((unhide HF5).below (Below.refl _ _).drew (Nat.le_refl _))
      go_region_law (first | (go_simp; go_at_call 32; refine (unhide HD _ (unhide HB5).drew).mono ?_; rintro e w6 ⟨v6, rfl, o6, b6⟩; obtain ⟨da, dc, rfl, hfd6⟩ := o6.fdn; have HFd6 := hide hfd6; have HB6 := hide ((unhide HB5).drew.trans (b6.mono (unhide HB5).drew.size)); obtain ⟨z0, z1, z2, z3, zf⟩ := ((unhide HF5').below b6 (Nat.le_refl _)).cells; simp only at z0 z1 z2 z3; clear o6 b6 hfd6) | (go_simp; go_at_call 47; refine (unhide HS _ _ _ (unhide HFd6)).mono ?_; rintro e w7 ⟨v7, rfl, o7, b7⟩; have HO7 := hide (o7.mono (Nat.le_trans hb (unhide HB6).size)); have HB7 := hide ((unhide HB6).trans (b7.mono (unhide HB6).size)); clear o7 b7))
      all_goals
        go_wp2
        go_ret
        rw [unhide HA]
        exact ⟨v7, rfl, unhide HO7, unhide HB7⟩
end Go.Proofs.YtfgjbmpbailebaaDoor
