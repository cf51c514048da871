/-
  DERIVED. The walks of what changes do.
-/
import Derived.Test.YtfgjbmpbailebaaDoorUpE
import Derived.Test.YtfgjbmpbailebaaDoorShR7
import Derived.BigQuiet
import Derived.Deep.RegionLaw
import Derived.Deep.RegionHeld3
namespace Go.Proofs.YtfgjbmpbailebaaDoor
open Go.RowKit Go.Maps
set_option linter.unusedVariables false

/-- A box of a change. -/
def CBx (w : World) (q : Nat) (c : Chg) : Prop := w.heap[q]? = some (.cells (cgv c) 49 (0, 0))
theorem CBx.new (w : World) (c : Chg) : CBx (w.alloc (.cells (cgv c) 49)) w.heap.size c := heap_alloc_new _ _
theorem CBx.lt {w : World} {q : Nat} {c : Chg} (h : CBx w q c) : q < w.heap.size := lt_of_block h
theorem CBx.below {B : Nat} {w w' : World} {q : Nat} {c : Chg} (h : CBx w q c) (hb : Below B w w') (hB : w.heap.size ≤ B) : CBx w' q c := (hb.block q (by have := h.lt; omega)).trans h
theorem CBx.cells {w : World} {q : Nat} {c : Chg} (h : CBx w q c) : w.cell? ⟨q, 0, none⟩ = some (.int .i64 c.kind) ∧ w.cell? ⟨q, 1, none⟩ = some (sv c.name) ∧ w.cell? ⟨q, 2, none⟩ = some (sv c.tn) ∧ w.cell? ⟨q, 3, none⟩ = some (sv c.f.name) ∧ w.cell? ⟨q, 4, none⟩ = some (.bool c.f.text) ∧ w.cell? ⟨q, 5, none⟩ = some (.int .i64 c.f.n) ∧ w.cell? ⟨q, 6, none⟩ = some (sv c.f.s) :=
  ⟨(cell_of_row _ _ _ _ _ _ h).trans rfl, (cell_of_row _ _ _ _ _ _ h).trans rfl, (cell_of_row _ _ _ _ _ _ h).trans rfl, (cell_of_row _ _ _ _ _ _ h).trans rfl, (cell_of_row _ _ _ _ _ _ h).trans rfl, (cell_of_row _ _ _ _ _ _ h).trans rfl, (cell_of_row _ _ _ _ _ _ h).trans rfl⟩

/-- What a change hands back: fields of one's own. -/
def DoPost (w : World) (base : Nat) (R : List Fld) (e : Ending) (w' : World) : Prop := ∃ v', e = .returned v' ∧ FOwn w' base v' R ∧ Below w.heap.size w w'
theorem DoPost.same {w w' : World} {base : Nat} {v : Value} {fs : List Fld} (h : FOwn w base v fs) (b : Below w.heap.size w w') : DoPost w base fs (.returned v) w' := ⟨v, rfl, h.below b (Nat.le_refl _), b⟩

set_option maxHeartbeats 1000000 in
theorem vhas_any (a : Option Addr) (n c : Nat) (fs : List Fld) (nm : List UInt8) (w : World) (hv : FdL w (.slice a n c) fs) :
    Calls Tryd.prog 46 #[.slice a n c, sv nm] w fun e w' => e = .returned (.bool (hasF fs nm)) ∧ Below w.heap.size w w' := by
  have HG := hide (Get_any a n c fs nm w hv)
  obtain ⟨⟨gn, gt, gi, gs⟩, hg⟩ : ∃ g, g = getA fs nm := ⟨_, rfl⟩
  obtain ⟨k, hk⟩ : ∃ k, k = hasF fs nm := ⟨_, rfl⟩
  rw [← hg, ← hk] at HG
  rw [← hk]
  clear hg hk hv
  go_enter Tryd.func46, Tryd.ntmps46
  go_wp2_with (go_at_call 50; refine (unhide HG).mono ?_; rintro e w1 ⟨rfl, b1⟩; have HB := hide (b1.alloc b1.size (.cells (fv ⟨gn, gt, gi, gs⟩) 30)); clear b1)
  go_ret
  exact ⟨rfl, unhide HB⟩

set_option maxHeartbeats 2000000 in
theorem vinteger_any (a : Option Addr) (n c : Nat) (fs : List Fld) (nm : List UInt8) (w : World) (hv : FdL w (.slice a n c) fs) :
    Calls Tryd.prog 51 #[.slice a n c, sv nm] w fun e w' => e = .returned (.tuple #[.int .i64 (getA fs nm).n, .bool (hasF fs nm && !(getA fs nm).text)]) ∧ Below w.heap.size w w' := by
  have HG := hide (Get_any a n c fs nm w hv)
  obtain ⟨⟨gn, gt, gi, gs⟩, hg⟩ : ∃ g, g = getA fs nm := ⟨_, rfl⟩
  rw [← hg] at HG ⊢
  clear hg hv
  cases hk : hasF fs nm with
  | true =>
    rw [hk] at HG
    clear hk
    go_enter Tryd.func51, Tryd.ntmps51
    go_upto_region 2 with (go_at_call 50; refine (unhide HG).mono ?_; rintro e w1 ⟨rfl, b1⟩; have HB := hide (b1.alloc b1.size (.cells (fv ⟨gn, gt, gi, gs⟩) 30)); have HX := hide (FBox.new w1 ⟨gn, gt, gi, gs⟩); clear b1)
    obtain ⟨w2, hw2⟩ : ∃ w2, w2 = w1.alloc (.cells (fv ⟨gn, gt, gi, gs⟩) 30) := ⟨_, rfl⟩
    rw [show w1.alloc (.cells #[Value.string ⟨gn.toArray⟩, .bool gt, .int .i64 gi, Value.string ⟨gs.toArray⟩] 30) = w2 from hw2.symm]
    rw [← hw2] at HB HX
    obtain ⟨P, hP⟩ : ∃ P, P = w1.heap.size := ⟨_, rfl⟩
    rw [← hP] at HX ⊢
    clear hw2 hP HG
    have q1 : ∀ m, (w2.drewN m).cell? ⟨P, 1, none⟩ = some (.bool gt) := fun m => ((unhide HX).below (below_drewN (Below.refl _ _) m) (Nat.le_refl _)).cells.2.1
    have q2 : ∀ m, (w2.drewN m).cell? ⟨P, 2, none⟩ = some (.int .i64 gi) := fun m => ((unhide HX).below (below_drewN (Below.refl _ _) m) (Nat.le_refl _)).cells.2.2.1
    go_quiet (fail)
    go_wp2
    go_ret2
    exact ⟨by simp, below_drewN (unhide HB) _⟩
  | false =>
    rw [hk] at HG
    clear hk
    go_enter Tryd.func51, Tryd.ntmps51
    go_upto_region 2 with (go_at_call 50; refine (unhide HG).mono ?_; rintro e w1 ⟨rfl, b1⟩; have HB := hide (b1.alloc b1.size (.cells (fv ⟨gn, gt, gi, gs⟩) 30)); have HX := hide (FBox.new w1 ⟨gn, gt, gi, gs⟩); clear b1)
    obtain ⟨w2, hw2⟩ : ∃ w2, w2 = w1.alloc (.cells (fv ⟨gn, gt, gi, gs⟩) 30) := ⟨_, rfl⟩
    rw [show w1.alloc (.cells #[Value.string ⟨gn.toArray⟩, .bool gt, .int .i64 gi, Value.string ⟨gs.toArray⟩] 30) = w2 from hw2.symm]
    rw [← hw2] at HB HX
    obtain ⟨P, hP⟩ : ∃ P, P = w1.heap.size := ⟨_, rfl⟩
    rw [← hP] at HX ⊢
    clear hw2 hP HG
    have q1 : ∀ m, (w2.drewN m).cell? ⟨P, 1, none⟩ = some (.bool gt) := fun m => ((unhide HX).below (below_drewN (Below.refl _ _) m) (Nat.le_refl _)).cells.2.1
    have q2 : ∀ m, (w2.drewN m).cell? ⟨P, 2, none⟩ = some (.int .i64 gi) := fun m => ((unhide HX).below (below_drewN (Below.refl _ _) m) (Nat.le_refl _)).cells.2.2.1
    go_quiet (fail)
    go_wp2
    go_ret2
    exact ⟨rfl, below_drewN (unhide HB) _⟩

theorem addC_no {fs : List Fld} {c : Chg} (h : hasF fs c.f.name = true ∨ 16 ≤ fs.length) : addC fs c = fs := by unfold addC; rw [if_pos h]
theorem addC_yes {fs : List Fld} {c : Chg} (h : hasF fs c.f.name = false) (h2 : ¬ 16 ≤ fs.length) : addC fs c = setF fs c.f := by unfold addC; rw [if_neg]; simp [h]; omega

set_option maxHeartbeats 4000000 in
theorem vadd_any (c : Chg) (fs : List Fld) (v : Value) (base : Nat) (w : World) (ho : FOwn w base v fs) (hb : base ≤ w.heap.size) (hlen : (fs.length + 1) * 48 ≤ 140737488355328) :
    Calls Tryd.prog 30 #[v, .agg (cgv c)] w (DoPost w base (addC fs c)) := by
  obtain ⟨a, cp, rfl, hfd⟩ := ho.fdn
  have hcl := fdn_len hfd
  obtain ⟨kd, nm, tn, ⟨fn, ft, fi, fss⟩⟩ := c
  have hb1 : Below w.heap.size w (w.alloc (.cells (cgv ⟨kd, nm, tn, ⟨fn, ft, fi, fss⟩⟩) 49)) := (Below.refl _ _).alloc (Nat.le_refl _) _
  have hx1 := CBx.new w ⟨kd, nm, tn, ⟨fn, ft, fi, fss⟩⟩
  have HHas : Hid (∀ W, Below w.heap.size w W → Calls Tryd.prog 46 #[.slice a fs.length cp, sv fn] W fun e w' => e = .returned (.bool (hasF fs fn)) ∧ Below W.heap.size W w') := hide (fun W hW => vhas_any a fs.length cp fs fn W (hfd.below hW (Nat.le_refl _)).1)
  have HO := hide ho
  obtain ⟨w1, hw1⟩ : ∃ w1, w1 = w.alloc (.cells (cgv ⟨kd, nm, tn, ⟨fn, ft, fi, fss⟩⟩) 49) := ⟨_, rfl⟩
  have HW1 := hide hw1
  rw [← hw1] at hb1 hx1
  obtain ⟨B, hB⟩ : ∃ B, B = w.heap.size := ⟨_, rfl⟩
  rw [← hB] at hx1
  have HX1 := hide hx1
  have HB1 := hide hb1
  obtain ⟨x0, x1, x2, x3, x4, x5, x6⟩ := hx1.cells
  simp only at x0 x1 x2 x3 x4 x5 x6
  have HBB := hide hB
  clear hw1 hx1 hb1 hB ho
  cases hk : hasF fs fn with
  | true =>
    have HA := hide (addC_no (c := ⟨kd, nm, tn, ⟨fn, ft, fi, fss⟩⟩) (.inl hk))
    rw [hk] at HHas
    clear hk hfd
    go_enter Tryd.func30, Tryd.ntmps30
    go_upto_region 1 with fail
    rw [← unhide HW1, ← unhide HBB]
    go_wp2_with (go_at_call 46; refine (unhide HHas _ (unhide HB1)).mono ?_; rintro e w2 ⟨rfl, b2⟩; have HB2 := hide ((unhide HB1).trans (b2.mono (unhide HB1).size)); clear b2)
    go_ret
    rw [unhide HA]
    exact DoPost.same (unhide HO) (unhide HB2)
  | false =>
    rw [hk] at HHas
    by_cases h16 : 16 ≤ fs.length
    · have HA := hide (addC_no (c := ⟨kd, nm, tn, ⟨fn, ft, fi, fss⟩⟩) (.inr h16))
      have h16' : decide ((16 : Int) ≤ fs.length) = true := decide_eq_true (by omega)
      clear hk hfd
      go_enter Tryd.func30, Tryd.ntmps30
      go_upto_region 1 with fail
      rw [← unhide HW1, ← unhide HBB]
      go_wp2_with (go_at_call 46; refine (unhide HHas _ (unhide HB1)).mono ?_; rintro e w2 ⟨rfl, b2⟩; have HB2 := hide ((unhide HB1).trans (b2.mono (unhide HB1).size)); clear b2)
      go_ret
      rw [unhide HA]
      exact DoPost.same (unhide HO) (unhide HB2)
    · have HA := hide (addC_yes (c := ⟨kd, nm, tn, ⟨fn, ft, fi, fss⟩⟩) hk h16)
      have h16' : decide ((16 : Int) ≤ fs.length) = false := decide_eq_false (by omega)
      have HS : Hid (∀ W, Below w.heap.size w W → Calls Tryd.prog 47 #[.slice a fs.length cp, .agg (fv ⟨fn, ft, fi, fss⟩)] W fun e w' => ∃ v, e = .returned v ∧ FOwn w' W.heap.size v (setF fs ⟨fn, ft, fi, fss⟩) ∧ Below W.heap.size W w') := hide (fun W hW => Set_any a cp fs _ W (hfd.below hW (Nat.le_refl _)) hlen)
      clear hk hfd
      go_enter Tryd.func30, Tryd.ntmps30
      go_upto_region 1 with fail
      rw [← unhide HW1, ← unhide HBB]
      go_upto_region 3 with (go_at_call 46; refine (unhide HHas _ (unhide HB1)).mono ?_; rintro e w2 ⟨rfl, b2⟩; have HB2 := hide ((unhide HB1).trans (b2.mono (unhide HB1).size)); have HX2 := hide ((unhide HX1).below b2 (Nat.le_refl _)); clear b2)
      clear x0 x1 x2 x3 x4 x5 x6
      obtain ⟨x0, x1, x2, x3, x4, x5, x6⟩ := (unhide HX2).cells
      simp only at x0 x1 x2 x3 x4 x5 x6
      go_wp2_with (go_at_call 47; refine (unhide HS _ (unhide HB2)).mono ?_; rintro e w3 ⟨v3, rfl, o3, b3⟩; have HO3 := hide o3; have HB3 := hide ((unhide HB2).trans (b3.mono (unhide HB2).size)); clear o3 b3)
      go_ret
      rw [unhide HA]
      exact ⟨v3, rfl, (unhide HO3).mono (Nat.le_trans hb (unhide HB2).size), unhide HB3⟩

set_option maxHeartbeats 2000000 in
theorem vdrop_any (c : Chg) (fs : List Fld) (v : Value) (base : Nat) (w : World) (ho : FOwn w base v fs) (hb : base ≤ w.heap.size) (hlen : (fs.length + 1) * 48 ≤ 140737488355328) :
    Calls Tryd.prog 31 #[v, .agg (cgv c)] w (DoPost w base (dropF fs c.name)) := by
  obtain ⟨a, cp, rfl, hfd⟩ := ho.fdn
  obtain ⟨kd, nm, tn, ⟨fn, ft, fi, fss⟩⟩ := c
  have hb1 : Below w.heap.size w (w.alloc (.cells (cgv ⟨kd, nm, tn, ⟨fn, ft, fi, fss⟩⟩) 49)) := (Below.refl _ _).alloc (Nat.le_refl _) _
  have hx1 := CBx.new w ⟨kd, nm, tn, ⟨fn, ft, fi, fss⟩⟩
  have HS : Hid (∀ W, Below w.heap.size w W → Calls Tryd.prog 32 #[.slice a fs.length cp, sv nm] W fun e w' => ∃ v, e = .returned v ∧ FOwn w' W.heap.size v (dropF fs nm) ∧ Below W.heap.size W w') := hide (fun W hW => Drop_any a cp fs _ W (hfd.below hW (Nat.le_refl _)) (by omega))
  obtain ⟨w1, hw1⟩ : ∃ w1, w1 = w.alloc (.cells (cgv ⟨kd, nm, tn, ⟨fn, ft, fi, fss⟩⟩) 49) := ⟨_, rfl⟩
  have HW1 := hide hw1
  rw [← hw1] at hb1 hx1
  obtain ⟨B, hB⟩ : ∃ B, B = w.heap.size := ⟨_, rfl⟩
  rw [← hB] at hx1
  have HB1 := hide hb1
  obtain ⟨x0, x1, x2, x3, x4, x5, x6⟩ := hx1.cells
  simp only at x0 x1 x2 x3 x4 x5 x6
  have HBB := hide hB
  clear hw1 hx1 hb1 hB ho hfd
  go_enter Tryd.func31, Tryd.ntmps31
  go_upto_region 1 with fail
  rw [← unhide HW1, ← unhide HBB]
  go_wp2_with (go_at_call 32; refine (unhide HS _ (unhide HB1)).mono ?_; rintro e w3 ⟨v3, rfl, o3, b3⟩; have HO3 := hide o3; have HB3 := hide ((unhide HB1).trans (b3.mono (unhide HB1).size)); clear o3 b3)
  go_ret
  exact ⟨v3, rfl, (unhide HO3).mono (Nat.le_trans hb (unhide HB1).size), unhide HB3⟩
end Go.Proofs.YtfgjbmpbailebaaDoor
