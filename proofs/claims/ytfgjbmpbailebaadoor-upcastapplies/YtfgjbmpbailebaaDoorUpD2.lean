/-
  DERIVED. The document's done: what a change does.
-/
import Derived.Test.YtfgjbmpbailebaaDoorUpD1
import Derived.Test.YtfgjbmpbailebaaDoorUpX
import Derived.Test.YtfgjbmpbailebaaDoorShR9
namespace Go.Proofs.YtfgjbmpbailebaaDoor
open Go.RowKit Go.Maps
set_option linter.unusedVariables false

/-- The same as doC: what is not there is left. -/
theorem doC_hasnt {fs : List Fld} {c : Chg} (h1 : c.kind ≠ 1) (h : hasF fs c.name = false) : doC fs c = fs := by
  unfold doC
  rw [if_neg h1]
  split
  · exact drop_same h
  split
  · exact renC_no (.inl h)
  split
  · exact shoC_no (by simp [h])
  split
  · exact scaC_no (by simp [h])
  · rfl
theorem getA_name {fs : List Fld} {nm : List UInt8} (h : hasF fs nm = true) : (getA fs nm).name = nm := by
  unfold hasF at h
  rw [List.any_eq_true] at h
  obtain ⟨f, hf, hp⟩ := h
  unfold getA
  cases hx : fs.find? (fun f => f.name == nm) with
  | none => rw [List.find?_eq_none] at hx; exact absurd hp (hx f hf)
  | some g => have := List.find?_some hx; simpa using this

theorem doC_none' {fs : List Fld} {c : Chg} (h : isC c.kind = false) : doC fs c = fs := by
  unfold isC at h
  simp only [Bool.and_eq_false_iff, decide_eq_false_iff_not] at h
  unfold doC
  rw [if_neg (by omega), if_neg (by omega), if_neg (by omega), if_neg (by omega), if_neg (by omega)]

set_option maxHeartbeats 4000000 in
theorem done_add (c : Chg) (fs : List Fld) (v : Value) (base : Nat) (w : World) (hkd : c.kind = 1) (ho : FOwn w base v fs) (hb : base ≤ w.heap.size) (hlen : (fs.length + 1) * 48 ≤ 140737488355328) :
    Calls Tryd.prog 21 #[v, .agg (cgv c)] w (DoPost w base (doC fs c)) := by
  obtain ⟨a, cp, rfl, hfd⟩ := ho.fdn
  have hcl := fdn_len hfd
  obtain ⟨kd, nm, tn, ⟨fn, ft, fi, fss⟩⟩ := c
  simp only at hkd
  have hb1 : Below w.heap.size w (w.alloc (.cells (cgv ⟨kd, nm, tn, ⟨fn, ft, fi, fss⟩⟩) 49)) := (Below.refl _ _).alloc (Nat.le_refl _) _
  have hx1 := CBx.new w ⟨kd, nm, tn, ⟨fn, ft, fi, fss⟩⟩
  have HG : Hid (∀ k W, Below w.heap.size w W → Calls Tryd.prog 36 #[.slice a fs.length cp, sv k] W fun e w' => e = .returned (.tuple #[.agg (fv (getA fs k)), .bool (hasF fs k)]) ∧ Below W.heap.size W w') := hide (fun k W hW => rGet_any a fs.length cp fs k W (hfd.below hW (Nat.le_refl _)).1)
  have HO := hide ho
  obtain ⟨w1, hw1⟩ : ∃ w1, w1 = w.alloc (.cells (cgv ⟨kd, nm, tn, ⟨fn, ft, fi, fss⟩⟩) 49) := ⟨_, rfl⟩
  have HW1 := hide hw1
  rw [← hw1] at hb1 hx1
  obtain ⟨B, hB⟩ : ∃ B, B = w.heap.size := ⟨_, rfl⟩
  rw [← hB] at hx1
  have HX1 := hide hx1
  have HB1 := hide hb1
  obtain ⟨x0, x1, x2, x3, x4, x5, x6⟩ := hx1.cells
  simp only at x0 x1 x2 x3 x4 x5 x6
  have HBB := hide hB
  subst hkd
  have hdo : doC fs ⟨1, nm, tn, ⟨fn, ft, fi, fss⟩⟩ = addC fs ⟨1, nm, tn, ⟨fn, ft, fi, fss⟩⟩ := rfl
  rw [hdo]
  have HG1 := hide (unhide HG fn w1 hb1)
  clear hw1 hx1 hb1 hB ho hdo HG
  obtain ⟨⟨gn, gt, gi, gs⟩, hg⟩ : ∃ g, g = getA fs fn := ⟨_, rfl⟩
  rw [← hg] at HG1
  clear hg
  cases hk : hasF fs fn with
  | true =>
    have HA := hide (addC_no (c := ⟨1, nm, tn, ⟨fn, ft, fi, fss⟩⟩) (.inl hk))
    rw [hk] at HG1
    rw [unhide HA]
    clear hk hfd
    go_enter Tryd.func21, Tryd.ntmps21
    go_upto_region 1 with fail
    rw [← unhide HW1, ← unhide HBB]
    go_wp2_with (go_at_call 36; refine (unhide HG1).mono ?_; rintro e w2 ⟨rfl, b2⟩; have hb2 := (unhide HB1).trans (b2.mono (unhide HB1).size); have HB2 := hide (hb2.alloc hb2.size (.cells (fv ⟨gn, gt, gi, gs⟩) 30)); clear b2 hb2)
    go_ret
    exact DoPost.same (unhide HO) (unhide HB2)
  | false =>
    rw [hk] at HG1
    by_cases h16 : 16 ≤ fs.length
    · have HA := hide (addC_no (c := ⟨1, nm, tn, ⟨fn, ft, fi, fss⟩⟩) (.inr h16))
      have h16' : decide ((16 : Int) ≤ fs.length) = true := decide_eq_true (by omega)
      rw [unhide HA]
      clear hk hfd
      go_enter Tryd.func21, Tryd.ntmps21
      go_upto_region 1 with fail
      rw [← unhide HW1, ← unhide HBB]
      go_wp2_with (go_at_call 36; refine (unhide HG1).mono ?_; rintro e w2 ⟨rfl, b2⟩; have hb2 := (unhide HB1).trans (b2.mono (unhide HB1).size); have HB2 := hide (hb2.alloc hb2.size (.cells (fv ⟨gn, gt, gi, gs⟩) 30)); clear b2 hb2)
      go_ret
      exact DoPost.same (unhide HO) (unhide HB2)
    · have HA := hide (addC_yes (c := ⟨1, nm, tn, ⟨fn, ft, fi, fss⟩⟩) hk h16)
      have h16' : decide ((16 : Int) ≤ fs.length) = false := decide_eq_false (by omega)
      have HS : Hid (∀ W, Below w.heap.size w W → Calls Tryd.prog 37 #[.slice a fs.length cp, .agg (fv ⟨fn, ft, fi, fss⟩)] W fun e w' => ∃ v, e = .returned v ∧ FOwn w' W.heap.size v (setF fs ⟨fn, ft, fi, fss⟩) ∧ Below W.heap.size W w') := hide (fun W hW => rSet_any a cp fs _ W (hfd.below hW (Nat.le_refl _)) hlen)
      rw [unhide HA]
      clear hk hfd
      go_enter Tryd.func21, Tryd.ntmps21
      go_upto_region 1 with fail
      rw [← unhide HW1, ← unhide HBB]
      go_upto_region 5 with (go_at_call 36; refine (unhide HG1).mono ?_; rintro e w2 ⟨rfl, b2⟩; have hb2 := (unhide HB1).trans (b2.mono (unhide HB1).size); have HB2 := hide (hb2.alloc hb2.size (.cells (fv ⟨gn, gt, gi, gs⟩) 30)); have HX2 := hide (((unhide HX1).below b2 (Nat.le_refl _)).below ((Below.refl _ _).alloc (Nat.le_refl _) (.cells (fv ⟨gn, gt, gi, gs⟩) 30)) (Nat.le_refl _)); clear b2 hb2)
      clear x0 x1 x2 x3 x4 x5 x6
      obtain ⟨x0, x1, x2, x3, x4, x5, x6⟩ := (unhide HX2).cells
      simp only at x0 x1 x2 x3 x4 x5 x6
      go_wp2_with (go_at_call 37; refine (unhide HS _ (unhide HB2)).mono ?_; rintro e w3 ⟨v3, rfl, o3, b3⟩; have HO3 := hide o3; have HB3 := hide ((unhide HB2).trans (b3.mono (unhide HB2).size)); clear o3 b3)
      go_ret
      exact ⟨v3, rfl, (unhide HO3).mono (Nat.le_trans hb (unhide HB2).size), unhide HB3⟩

set_option maxHeartbeats 4000000 in
theorem done_hasnt (c : Chg) (fs : List Fld) (v : Value) (base : Nat) (w : World) (hkd : c.kind ≠ 1) (ho : FOwn w base v fs) (hb : base ≤ w.heap.size) (hlen : (fs.length + 1) * 48 ≤ 140737488355328) (hh : hasF fs c.name = false) :
    Calls Tryd.prog 21 #[v, .agg (cgv c)] w (DoPost w base (doC fs c)) := by
  obtain ⟨a, cp, rfl, hfd⟩ := ho.fdn
  have hcl := fdn_len hfd
  obtain ⟨kd, nm, tn, ⟨fn, ft, fi, fss⟩⟩ := c
  simp only at hkd
  have hb1 : Below w.heap.size w (w.alloc (.cells (cgv ⟨kd, nm, tn, ⟨fn, ft, fi, fss⟩⟩) 49)) := (Below.refl _ _).alloc (Nat.le_refl _) _
  have hx1 := CBx.new w ⟨kd, nm, tn, ⟨fn, ft, fi, fss⟩⟩
  have HG : Hid (∀ k W, Below w.heap.size w W → Calls Tryd.prog 36 #[.slice a fs.length cp, sv k] W fun e w' => e = .returned (.tuple #[.agg (fv (getA fs k)), .bool (hasF fs k)]) ∧ Below W.heap.size W w') := hide (fun k W hW => rGet_any a fs.length cp fs k W (hfd.below hW (Nat.le_refl _)).1)
  have HO := hide ho
  obtain ⟨w1, hw1⟩ : ∃ w1, w1 = w.alloc (.cells (cgv ⟨kd, nm, tn, ⟨fn, ft, fi, fss⟩⟩) 49) := ⟨_, rfl⟩
  have HW1 := hide hw1
  rw [← hw1] at hb1 hx1
  obtain ⟨B, hB⟩ : ∃ B, B = w.heap.size := ⟨_, rfl⟩
  rw [← hB] at hx1
  have HX1 := hide hx1
  have HB1 := hide hb1
  obtain ⟨x0, x1, x2, x3, x4, x5, x6⟩ := hx1.cells
  simp only at x0 x1 x2 x3 x4 x5 x6
  have HBB := hide hB
  have k1 : (kd == 1) = false := by simp [hkd]
  have HG1 := hide (unhide HG nm w1 hb1)
  simp only at hh
  have HA := hide (doC_hasnt (c := ⟨kd, nm, tn, ⟨fn, ft, fi, fss⟩⟩) hkd hh)
  rw [hh] at HG1
  rw [unhide HA]
  clear hw1 hx1 hb1 hB ho HG hkd hh hfd
  obtain ⟨⟨gn, gt, gi, gs⟩, hg⟩ : ∃ g, g = getA fs nm := ⟨_, rfl⟩
  rw [← hg] at HG1
  clear hg
  go_enter Tryd.func21, Tryd.ntmps21
  go_upto_region 1 with fail
  rw [← unhide HW1, ← unhide HBB]
  go_wp2_with (go_at_call 36; refine (unhide HG1).mono ?_; rintro e w2 ⟨rfl, b2⟩; have hb2 := (unhide HB1).trans (b2.mono (unhide HB1).size); have HB2 := hide (hb2.alloc hb2.size (.cells (fv ⟨gn, gt, gi, gs⟩) 30)); clear b2 hb2)
  go_ret
  exact DoPost.same (unhide HO) (unhide HB2)

set_option maxHeartbeats 4000000 in
theorem done_drop (c : Chg) (fs : List Fld) (v : Value) (base : Nat) (w : World) (hkd : c.kind = 2) (ho : FOwn w base v fs) (hb : base ≤ w.heap.size) (hlen : (fs.length + 1) * 48 ≤ 140737488355328) (hh : hasF fs c.name = true) :
    Calls Tryd.prog 21 #[v, .agg (cgv c)] w (DoPost w base (doC fs c)) := by
  obtain ⟨a, cp, rfl, hfd⟩ := ho.fdn
  have hcl := fdn_len hfd
  obtain ⟨kd, nm, tn, ⟨fn, ft, fi, fss⟩⟩ := c
  simp only at hkd
  have hb1 : Below w.heap.size w (w.alloc (.cells (cgv ⟨kd, nm, tn, ⟨fn, ft, fi, fss⟩⟩) 49)) := (Below.refl _ _).alloc (Nat.le_refl _) _
  have hx1 := CBx.new w ⟨kd, nm, tn, ⟨fn, ft, fi, fss⟩⟩
  have HG : Hid (∀ k W, Below w.heap.size w W → Calls Tryd.prog 36 #[.slice a fs.length cp, sv k] W fun e w' => e = .returned (.tuple #[.agg (fv (getA fs k)), .bool (hasF fs k)]) ∧ Below W.heap.size W w') := hide (fun k W hW => rGet_any a fs.length cp fs k W (hfd.below hW (Nat.le_refl _)).1)
  have HO := hide ho
  obtain ⟨w1, hw1⟩ : ∃ w1, w1 = w.alloc (.cells (cgv ⟨kd, nm, tn, ⟨fn, ft, fi, fss⟩⟩) 49) := ⟨_, rfl⟩
  have HW1 := hide hw1
  rw [← hw1] at hb1 hx1
  obtain ⟨B, hB⟩ : ∃ B, B = w.heap.size := ⟨_, rfl⟩
  rw [← hB] at hx1
  have HX1 := hide hx1
  have HB1 := hide hb1
  obtain ⟨x0, x1, x2, x3, x4, x5, x6⟩ := hx1.cells
  simp only at x0 x1 x2 x3 x4 x5 x6
  have HBB := hide hB
  subst hkd
  simp only at hh
  have HG1 := hide (unhide HG nm w1 hb1)
  rw [hh] at HG1
  obtain ⟨⟨gn, gt, gi, gs⟩, hg⟩ : ∃ g, g = getA fs nm := ⟨_, rfl⟩
  have hgn : gn = nm := by have := getA_name hh; rw [← hg] at this; exact this
  subst hgn
  rw [← hg] at HG1
  have hdo : doC fs ⟨2, gn, tn, ⟨fn, ft, fi, fss⟩⟩ = dropF fs gn := rfl
  rw [hdo]
  have HS : Hid (∀ W, Below w.heap.size w W → Calls Tryd.prog 38 #[.slice a fs.length cp, sv gn] W fun e w' => ∃ v, e = .returned v ∧ FOwn w' W.heap.size v (dropF fs gn) ∧ Below W.heap.size W w') := hide (fun W hW => rDrop_any a cp fs _ W (hfd.below hW (Nat.le_refl _)) (by omega))
  clear hdo hg hfd
  clear hw1 hx1 hb1 hB ho HG hh
  go_enter Tryd.func21, Tryd.ntmps21
  go_upto_region 1 with fail
  rw [← unhide HW1, ← unhide HBB]
  go_upto_region 9 with (go_at_call 36; refine (unhide HG1).mono ?_; rintro e w2 ⟨rfl, b2⟩; have hb2 := (unhide HB1).trans (b2.mono (unhide HB1).size); have HB2 := hide (hb2.alloc hb2.size (.cells (fv ⟨gn, gt, gi, gs⟩) 30)); have HX2 := hide (((unhide HX1).below b2 (Nat.le_refl _)).below ((Below.refl _ _).alloc (Nat.le_refl _) (.cells (fv ⟨gn, gt, gi, gs⟩) 30)) (Nat.le_refl _)); have HF2 := hide (FBox.new w2 ⟨gn, gt, gi, gs⟩); have hge := (unhide HB1).size; have hge2 := b2.size; clear b2 hb2)
  clear x0 x1 x2 x3 x4 x5 x6
  obtain ⟨w3, hw3⟩ : ∃ w3, w3 = w2.alloc (.cells (fv ⟨gn, gt, gi, gs⟩) 30) := ⟨_, rfl⟩
  rw [show w2.alloc (.cells #[Value.string ⟨gn.toArray⟩, .bool gt, .int .i64 gi, Value.string ⟨gs.toArray⟩] 30) = w3 from hw3.symm]
  rw [← hw3] at HB2 HX2 HF2
  obtain ⟨P, hP⟩ : ∃ P, P = w2.heap.size := ⟨_, rfl⟩
  rw [← hP] at HF2 ⊢
  have HP : Hid (w.heap.size ≤ P ∧ B ≠ P) := hide (by
    have hB := unhide HBB
    have hX := (unhide HX1).lt
    rw [hP]
    omega)
  clear hw3 hP hge hge2
  obtain ⟨x0, x1, x2, x3, x4, x5, x6⟩ := (unhide HX2).cells
  obtain ⟨y0, y1, y2, y3, yf⟩ := (unhide HF2).cells
  simp only at x0 x1 x2 x3 x4 x5 x6 y0 y1 y2 y3
  go_wp2_with (go_at_call 38; refine (unhide HS _ (unhide HB2)).mono ?_; rintro e w5 ⟨v5, rfl, o5, b5⟩; have HO5 := hide o5; have HB5 := hide ((unhide HB2).trans (b5.mono (unhide HB2).size)); clear o5 b5)
  go_ret
  exact ⟨v5, rfl, (unhide HO5).mono (Nat.le_trans hb (unhide HB2).size), unhide HB5⟩

set_option maxHeartbeats 4000000 in
theorem done_rename (c : Chg) (fs : List Fld) (v : Value) (base : Nat) (w : World) (hkd : c.kind = 3) (ho : FOwn w base v fs) (hb : base ≤ w.heap.size) (hlen : (fs.length + 1) * 48 ≤ 140737488355328) (hh : hasF fs c.name = true) :
    Calls Tryd.prog 21 #[v, .agg (cgv c)] w (DoPost w base (doC fs c)) := by
  obtain ⟨a, cp, rfl, hfd⟩ := ho.fdn
  have hcl := fdn_len hfd
  obtain ⟨kd, nm, tn, ⟨fn, ft, fi, fss⟩⟩ := c
  simp only at hkd
  have hb1 : Below w.heap.size w (w.alloc (.cells (cgv ⟨kd, nm, tn, ⟨fn, ft, fi, fss⟩⟩) 49)) := (Below.refl _ _).alloc (Nat.le_refl _) _
  have hx1 := CBx.new w ⟨kd, nm, tn, ⟨fn, ft, fi, fss⟩⟩
  have HG : Hid (∀ k W, Below w.heap.size w W → Calls Tryd.prog 36 #[.slice a fs.length cp, sv k] W fun e w' => e = .returned (.tuple #[.agg (fv (getA fs k)), .bool (hasF fs k)]) ∧ Below W.heap.size W w') := hide (fun k W hW => rGet_any a fs.length cp fs k W (hfd.below hW (Nat.le_refl _)).1)
  have HO := hide ho
  obtain ⟨w1, hw1⟩ : ∃ w1, w1 = w.alloc (.cells (cgv ⟨kd, nm, tn, ⟨fn, ft, fi, fss⟩⟩) 49) := ⟨_, rfl⟩
  have HW1 := hide hw1
  rw [← hw1] at hb1 hx1
  obtain ⟨B, hB⟩ : ∃ B, B = w.heap.size := ⟨_, rfl⟩
  rw [← hB] at hx1
  have HX1 := hide hx1
  have HB1 := hide hb1
  obtain ⟨x0, x1, x2, x3, x4, x5, x6⟩ := hx1.cells
  simp only at x0 x1 x2 x3 x4 x5 x6
  have HBB := hide hB
  subst hkd
  simp only at hh
  have HG1 := hide (unhide HG nm w1 hb1)
  rw [hh] at HG1
  obtain ⟨⟨gn, gt, gi, gs⟩, hg⟩ : ∃ g, g = getA fs nm := ⟨_, rfl⟩
  have hgn : gn = nm := by have := getA_name hh; rw [← hg] at this; exact this
  subst hgn
  have hdo : doC fs ⟨3, gn, tn, ⟨fn, ft, fi, fss⟩⟩ = renC fs ⟨3, gn, tn, ⟨fn, ft, fi, fss⟩⟩ := rfl
  rw [hdo]
  rw [← hg] at HG1
  have HG3 : Hid (∀ W, Below w.heap.size w W → Calls Tryd.prog 36 #[.slice a fs.length cp, sv tn] W fun e w' => e = .returned (.tuple #[.agg (fv (getA fs tn)), .bool (hasF fs tn)]) ∧ Below W.heap.size W w') := hide (unhide HG tn)
  obtain ⟨⟨qn, qt, qi, qs⟩, hq⟩ : ∃ q, q = getA fs tn := ⟨_, rfl⟩
  rw [← hq] at HG3
  clear hdo hq
  cases hk2 : hasF fs tn with
  | true =>
    have HA := hide (renC_no (c := ⟨3, gn, tn, ⟨fn, ft, fi, fss⟩⟩) (.inr hk2))
    rw [hk2] at HG3
    rw [unhide HA]
    clear hw1 hx1 hb1 hB ho HG hh hk2 hfd hg
    go_enter Tryd.func21, Tryd.ntmps21
    go_upto_region 1 with fail
    rw [← unhide HW1, ← unhide HBB]
    go_upto_region 9 with (go_at_call 36; refine (unhide HG1).mono ?_; rintro e w2 ⟨rfl, b2⟩; have hb2 := (unhide HB1).trans (b2.mono (unhide HB1).size); have HB2 := hide (hb2.alloc hb2.size (.cells (fv ⟨gn, gt, gi, gs⟩) 30)); have HX2 := hide (((unhide HX1).below b2 (Nat.le_refl _)).below ((Below.refl _ _).alloc (Nat.le_refl _) (.cells (fv ⟨gn, gt, gi, gs⟩) 30)) (Nat.le_refl _)); have HF2 := hide (FBox.new w2 ⟨gn, gt, gi, gs⟩); have hge := (unhide HB1).size; have hge2 := b2.size; clear b2 hb2)
    clear x0 x1 x2 x3 x4 x5 x6
    obtain ⟨w3, hw3⟩ : ∃ w3, w3 = w2.alloc (.cells (fv ⟨gn, gt, gi, gs⟩) 30) := ⟨_, rfl⟩
    rw [show w2.alloc (.cells #[Value.string ⟨gn.toArray⟩, .bool gt, .int .i64 gi, Value.string ⟨gs.toArray⟩] 30) = w3 from hw3.symm]
    rw [← hw3] at HB2 HX2 HF2
    obtain ⟨P, hP⟩ : ∃ P, P = w2.heap.size := ⟨_, rfl⟩
    rw [← hP] at HF2 ⊢
    have HP : Hid (w.heap.size ≤ P ∧ B ≠ P) := hide (by
      have hB := unhide HBB
      have hX := (unhide HX1).lt
      rw [hP]
      omega)
    clear hw3 hP hge hge2
    obtain ⟨x0, x1, x2, x3, x4, x5, x6⟩ := (unhide HX2).cells
    obtain ⟨y0, y1, y2, y3, yf⟩ := (unhide HF2).cells
    simp only at x0 x1 x2 x3 x4 x5 x6 y0 y1 y2 y3
    go_wp2_with (go_at_call 36; refine (unhide HG3 _ (unhide HB2)).mono ?_; rintro e w4 ⟨rfl, b4⟩; have hb4 := (unhide HB2).trans (b4.mono (unhide HB2).size); have HB4 := hide (hb4.alloc hb4.size (.cells (fv ⟨qn, qt, qi, qs⟩) 30)); have hal := ((Below.refl w4.heap.size w4).alloc (Nat.le_refl _) (.cells (fv ⟨qn, qt, qi, qs⟩) 30)); have HX4 := hide (((unhide HX2).below b4 (Nat.le_refl _)).below hal (Nat.le_refl _)); have HF4 := hide (((unhide HF2).below b4 (Nat.le_refl _)).below hal (Nat.le_refl _)); clear b4 hb4 hal)
    go_ret
    exact DoPost.same (unhide HO) (unhide HB4)
  | false =>
    have HA := hide (renC_yes (c := ⟨3, gn, tn, ⟨fn, ft, fi, fss⟩⟩) hh hk2)
    simp only at HA
    rw [← hg] at HA
    rw [hk2] at HG3
    have HD : Hid (∀ W, Below w.heap.size w W → Calls Tryd.prog 38 #[.slice a fs.length cp, sv gn] W fun e w' => ∃ v, e = .returned v ∧ FOwn w' W.heap.size v (dropF fs gn) ∧ Below W.heap.size W w') := hide (fun W hW => rDrop_any a cp fs _ W (hfd.below hW (Nat.le_refl _)) (by omega))
    have hdl : ((dropF fs gn).length + 1) * 48 ≤ 140737488355328 := by have := (drop_len fs gn).1 hh; omega
    obtain ⟨D, hD⟩ : ∃ D, D = dropF fs gn := ⟨_, rfl⟩
    rw [← hD] at HD hdl HA
    have HS : Hid (∀ W a2 c2, FdN W a2 c2 D → Calls Tryd.prog 37 #[.slice a2 D.length c2, .agg (fv ⟨tn, gt, gi, gs⟩)] W fun e w' => ∃ v, e = .returned v ∧ FOwn w' W.heap.size v (setF D ⟨tn, gt, gi, gs⟩) ∧ Below W.heap.size W w') := hide (fun W a2 c2 hW => rSet_any a2 c2 D _ W hW hdl)
    rw [unhide HA]
    clear hw1 hx1 hb1 hB ho HG hh hk2 hfd hg hD
    go_enter Tryd.func21, Tryd.ntmps21
    go_upto_region 1 with fail
    rw [← unhide HW1, ← unhide HBB]
    go_upto_region 9 with (go_at_call 36; refine (unhide HG1).mono ?_; rintro e w2 ⟨rfl, b2⟩; have hb2 := (unhide HB1).trans (b2.mono (unhide HB1).size); have HB2 := hide (hb2.alloc hb2.size (.cells (fv ⟨gn, gt, gi, gs⟩) 30)); have HX2 := hide (((unhide HX1).below b2 (Nat.le_refl _)).below ((Below.refl _ _).alloc (Nat.le_refl _) (.cells (fv ⟨gn, gt, gi, gs⟩) 30)) (Nat.le_refl _)); have HF2 := hide (FBox.new w2 ⟨gn, gt, gi, gs⟩); have hge := (unhide HB1).size; have hge2 := b2.size; clear b2 hb2)
    clear x0 x1 x2 x3 x4 x5 x6
    obtain ⟨w3, hw3⟩ : ∃ w3, w3 = w2.alloc (.cells (fv ⟨gn, gt, gi, gs⟩) 30) := ⟨_, rfl⟩
    rw [show w2.alloc (.cells #[Value.string ⟨gn.toArray⟩, .bool gt, .int .i64 gi, Value.string ⟨gs.toArray⟩] 30) = w3 from hw3.symm]
    rw [← hw3] at HB2 HX2 HF2
    obtain ⟨P, hP⟩ : ∃ P, P = w2.heap.size := ⟨_, rfl⟩
    rw [← hP] at HF2 ⊢
    have HP : Hid (w.heap.size ≤ P ∧ B ≠ P) := hide (by
      have hB := unhide HBB
      have hX := (unhide HX1).lt
      rw [hP]
      omega)
    clear hw3 hP hge hge2
    obtain ⟨x0, x1, x2, x3, x4, x5, x6⟩ := (unhide HX2).cells
    obtain ⟨y0, y1, y2, y3, yf⟩ := (unhide HF2).cells
    simp only at x0 x1 x2 x3 x4 x5 x6 y0 y1 y2 y3
    go_upto_region 16 with (go_at_call 36; refine (unhide HG3 _ (unhide HB2)).mono ?_; rintro e w4 ⟨rfl, b4⟩; have hb4 := (unhide HB2).trans (b4.mono (unhide HB2).size); have HB4 := hide (hb4.alloc hb4.size (.cells (fv ⟨qn, qt, qi, qs⟩) 30)); have hal := ((Below.refl w4.heap.size w4).alloc (Nat.le_refl _) (.cells (fv ⟨qn, qt, qi, qs⟩) 30)); have HX4 := hide (((unhide HX2).below b4 (Nat.le_refl _)).below hal (Nat.le_refl _)); have HF4 := hide (((unhide HF2).below b4 (Nat.le_refl _)).below hal (Nat.le_refl _)); clear b4 hb4 hal)
    clear x0 x1 x2 x3 x4 x5 x6 y0 y1 y2 y3 yf
    obtain ⟨w5, hw5⟩ : ∃ w5, w5 = w4.alloc (.cells (fv ⟨qn, qt, qi, qs⟩) 30) := ⟨_, rfl⟩
    rw [show w4.alloc (.cells #[Value.string ⟨qn.toArray⟩, .bool qt, .int .i64 qi, Value.string ⟨qs.toArray⟩] 30) = w5 from hw5.symm]
    rw [← hw5] at HB4 HX4 HF4
    clear hw5
    obtain ⟨x0, x1, x2, x3, x4, x5, x6⟩ := (unhide HX4).cells
    obtain ⟨y0, y1, y2, y3, yf⟩ := (unhide HF4).cells
    simp only at x0 x1 x2 x3 x4 x5 x6 y0 y1 y2 y3
    go_upto_region 17 with fail
    have HB5 : Hid (Below w.heap.size w (w5.setCell ⟨P, 0, none⟩ (sv tn))) := hide ((unhide HB4).setCell (unhide HP).1 _)
    have HX5 : Hid (CBx (w5.setCell ⟨P, 0, none⟩ (sv tn)) B ⟨3, gn, tn, ⟨fn, ft, fi, fss⟩⟩) := hide ((Below.heap_setCell w5 ⟨P, 0, none⟩ (sv tn) B (unhide HP).2).trans (unhide HX4))
    have HF5 : Hid (FBox (w5.setCell ⟨P, 0, none⟩ (sv tn)) P ⟨tn, gt, gi, gs⟩) := hide (heap_setCell_same w5 P 0 _ _ (sv tn) (unhide HF4))
    obtain ⟨w6, hw6⟩ : ∃ w6, w6 = w5.setCell ⟨P, 0, none⟩ (sv tn) := ⟨_, rfl⟩
    rw [show w5.setCell ⟨P, 0, none⟩ (Value.string ⟨tn.toArray⟩) = w6 from hw6.symm]
    rw [← hw6] at HB5 HX5 HF5
    clear x0 x1 x2 x3 x4 x5 x6 y0 y1 y2 y3 yf hw6
    obtain ⟨x0, x1, x2, x3, x4, x5, x6⟩ := (unhide HX5).cells
    obtain ⟨y0, y1, y2, y3, yf⟩ := (unhide HF5).cells
    simp only at x0 x1 x2 x3 x4 x5 x6 y0 y1 y2 y3
    have HF5' : Hid (FBox w6.drew P ⟨tn, gt, gi, gs⟩) := hide ((unhide HF5).below (Below.refl _ _).drew (Nat.le_refl _))
    go_region_law (first | (go_simp; go_at_call 38; refine (unhide HD _ (unhide HB5).drew).mono ?_; rintro e w7 ⟨v7, rfl, o7, b7⟩; obtain ⟨da, dc, rfl, hfd7⟩ := o7.fdn; have HFd7 := hide hfd7; have HB7 := hide ((unhide HB5).drew.trans (b7.mono (unhide HB5).drew.size)); obtain ⟨z0, z1, z2, z3, zf⟩ := ((unhide HF5').below b7 (Nat.le_refl _)).cells; simp only at z0 z1 z2 z3; clear o7 b7 hfd7) | (go_simp; go_at_call 37; refine (unhide HS _ _ _ (unhide HFd7)).mono ?_; rintro e w8 ⟨v8, rfl, o8, b8⟩; have HO8 := hide (o8.mono (Nat.le_trans hb (unhide HB7).size)); have HB8 := hide ((unhide HB7).trans (b8.mono (unhide HB7).size)); clear o8 b8))
    all_goals
      go_wp2
      go_ret
      exact ⟨v8, rfl, unhide HO8, unhide HB8⟩

set_option maxHeartbeats 4000000 in
theorem done_show (c : Chg) (fs : List Fld) (v : Value) (base : Nat) (w : World) (hkd : c.kind = 4) (ho : FOwn w base v fs) (hb : base ≤ w.heap.size) (hlen : (fs.length + 1) * 48 ≤ 140737488355328) (hh : hasF fs c.name = true) (hfit : ∀ f ∈ fs, fits f) (hva : Vars w) :
    Calls Tryd.prog 21 #[v, .agg (cgv c)] w (DoPost w base (doC fs c)) := by
  obtain ⟨a, cp, rfl, hfd⟩ := ho.fdn
  have hcl := fdn_len hfd
  obtain ⟨kd, nm, tn, ⟨fn, ft, fi, fss⟩⟩ := c
  simp only at hkd
  have hb1 : Below w.heap.size w (w.alloc (.cells (cgv ⟨kd, nm, tn, ⟨fn, ft, fi, fss⟩⟩) 49)) := (Below.refl _ _).alloc (Nat.le_refl _) _
  have hx1 := CBx.new w ⟨kd, nm, tn, ⟨fn, ft, fi, fss⟩⟩
  have HG : Hid (∀ k W, Below w.heap.size w W → Calls Tryd.prog 36 #[.slice a fs.length cp, sv k] W fun e w' => e = .returned (.tuple #[.agg (fv (getA fs k)), .bool (hasF fs k)]) ∧ Below W.heap.size W w') := hide (fun k W hW => rGet_any a fs.length cp fs k W (hfd.below hW (Nat.le_refl _)).1)
  have HO := hide ho
  obtain ⟨w1, hw1⟩ : ∃ w1, w1 = w.alloc (.cells (cgv ⟨kd, nm, tn, ⟨fn, ft, fi, fss⟩⟩) 49) := ⟨_, rfl⟩
  have HW1 := hide hw1
  rw [← hw1] at hb1 hx1
  obtain ⟨B, hB⟩ : ∃ B, B = w.heap.size := ⟨_, rfl⟩
  rw [← hB] at hx1
  have HX1 := hide hx1
  have HB1 := hide hb1
  obtain ⟨x0, x1, x2, x3, x4, x5, x6⟩ := hx1.cells
  simp only at x0 x1 x2 x3 x4 x5 x6
  have HBB := hide hB
  subst hkd
  simp only at hh
  have HG1 := hide (unhide HG nm w1 hb1)
  rw [hh] at HG1
  obtain ⟨⟨gn, gt, gi, gs⟩, hg⟩ : ∃ g, g = getA fs nm := ⟨_, rfl⟩
  have hgn : gn = nm := by have := getA_name hh; rw [← hg] at this; exact this
  subst hgn
  have hdo : doC fs ⟨4, gn, tn, ⟨fn, ft, fi, fss⟩⟩ = shoC fs ⟨4, gn, tn, ⟨fn, ft, fi, fss⟩⟩ := rfl
  rw [hdo]
  have hgf := getA_fits hfit gn
  rw [← hg] at hgf
  cases gt with
  | true =>
    have HA := hide (shoC_no (fs := fs) (c := ⟨4, gn, tn, ⟨fn, ft, fi, fss⟩⟩) (by simp only; rw [← hg]; simp))
    rw [← hg] at HG1
    rw [unhide HA]
    clear hw1 hx1 hb1 hB ho HG hh hfd hg hdo hgf hva hfit
    go_enter Tryd.func21, Tryd.ntmps21
    go_upto_region 1 with fail
    rw [← unhide HW1, ← unhide HBB]
    go_upto_region 9 with (go_at_call 36; refine (unhide HG1).mono ?_; rintro e w2 ⟨rfl, b2⟩; have hb2 := (unhide HB1).trans (b2.mono (unhide HB1).size); have HB2 := hide (hb2.alloc hb2.size (.cells (fv ⟨gn, true, gi, gs⟩) 30)); have HX2 := hide (((unhide HX1).below b2 (Nat.le_refl _)).below ((Below.refl _ _).alloc (Nat.le_refl _) (.cells (fv ⟨gn, true, gi, gs⟩) 30)) (Nat.le_refl _)); have HF2 := hide (FBox.new w2 ⟨gn, true, gi, gs⟩); have hge := (unhide HB1).size; have hge2 := b2.size; clear b2 hb2)
    clear x0 x1 x2 x3 x4 x5 x6
    obtain ⟨w3, hw3⟩ : ∃ w3, w3 = w2.alloc (.cells (fv ⟨gn, true, gi, gs⟩) 30) := ⟨_, rfl⟩
    rw [show w2.alloc (.cells #[Value.string ⟨gn.toArray⟩, .bool true, .int .i64 gi, Value.string ⟨gs.toArray⟩] 30) = w3 from hw3.symm]
    rw [← hw3] at HB2 HX2 HF2
    obtain ⟨P, hP⟩ : ∃ P, P = w2.heap.size := ⟨_, rfl⟩
    rw [← hP] at HF2 ⊢
    have HP : Hid (w.heap.size ≤ P ∧ B ≠ P) := hide (by
      have hB := unhide HBB
      have hX := (unhide HX1).lt
      rw [hP]
      omega)
    clear hw3 hP hge hge2
    obtain ⟨x0, x1, x2, x3, x4, x5, x6⟩ := (unhide HX2).cells
    obtain ⟨y0, y1, y2, y3, yf⟩ := (unhide HF2).cells
    simp only at x0 x1 x2 x3 x4 x5 x6 y0 y1 y2 y3
    go_wp2_with fail
    go_ret
    exact DoPost.same (unhide HO) (unhide HB2)
  | false =>
    have HA := hide (shoC_yes (fs := fs) (c := ⟨4, gn, tn, ⟨fn, ft, fi, fss⟩⟩) (by simp only; rw [← hg, hh]; rfl))
    simp only at HA
    rw [← hg] at HA HG1
    simp only at HA
    have HVa := hide hva
    have HIt : Hid (∀ W, Below w.heap.size w W → Calls Tryd.prog 39 #[.int .i64 gi] W fun e w' => e = .returned (sv (Lib.itoa gi)) ∧ Below W.heap.size W w') := hide (fun W hW => Itoa_go gi hgf.2.2.1 hgf.2.2.2 W ((unhide HVa).below hW (Nat.le_refl _)))
    obtain ⟨t, ht⟩ : ∃ t, t = Lib.itoa gi := ⟨_, rfl⟩
    rw [← ht] at HIt HA
    have HS : Hid (∀ W, Below w.heap.size w W → Calls Tryd.prog 37 #[.slice a fs.length cp, .agg (fv ⟨gn, true, 0, t⟩)] W fun e w' => ∃ v, e = .returned v ∧ FOwn w' W.heap.size v (setF fs ⟨gn, true, 0, t⟩) ∧ Below W.heap.size W w') := hide (fun W hW => rSet_any a cp fs _ W (hfd.below hW (Nat.le_refl _)) hlen)
    rw [unhide HA]
    clear hw1 hx1 hb1 hB ho HG hh hfd hg hdo hgf hva hfit ht
    go_enter Tryd.func21, Tryd.ntmps21
    go_upto_region 1 with fail
    rw [← unhide HW1, ← unhide HBB]
    go_upto_region 9 with (go_at_call 36; refine (unhide HG1).mono ?_; rintro e w2 ⟨rfl, b2⟩; have hb2 := (unhide HB1).trans (b2.mono (unhide HB1).size); have HB2 := hide (hb2.alloc hb2.size (.cells (fv ⟨gn, false, gi, gs⟩) 30)); have HX2 := hide (((unhide HX1).below b2 (Nat.le_refl _)).below ((Below.refl _ _).alloc (Nat.le_refl _) (.cells (fv ⟨gn, false, gi, gs⟩) 30)) (Nat.le_refl _)); have HF2 := hide (FBox.new w2 ⟨gn, false, gi, gs⟩); have hge := (unhide HB1).size; have hge2 := b2.size; clear b2 hb2)
    clear x0 x1 x2 x3 x4 x5 x6
    obtain ⟨w3, hw3⟩ : ∃ w3, w3 = w2.alloc (.cells (fv ⟨gn, false, gi, gs⟩) 30) := ⟨_, rfl⟩
    rw [show w2.alloc (.cells #[Value.string ⟨gn.toArray⟩, .bool false, .int .i64 gi, Value.string ⟨gs.toArray⟩] 30) = w3 from hw3.symm]
    rw [← hw3] at HB2 HX2 HF2
    obtain ⟨P, hP⟩ : ∃ P, P = w2.heap.size := ⟨_, rfl⟩
    rw [← hP] at HF2 ⊢
    have HP : Hid (w.heap.size ≤ P ∧ B ≠ P) := hide (by
      have hB := unhide HBB
      have hX := (unhide HX1).lt
      rw [hP]
      omega)
    clear hw3 hP hge hge2
    obtain ⟨x0, x1, x2, x3, x4, x5, x6⟩ := (unhide HX2).cells
    obtain ⟨y0, y1, y2, y3, yf⟩ := (unhide HF2).cells
    simp only at x0 x1 x2 x3 x4 x5 x6 y0 y1 y2 y3
    go_upto_region 21 with fail
    have HF2' := hide ((unhide HF2).below (Below.refl _ _).drew (Nat.le_refl _))
    go_region_law (first | (go_simp; go_at_call 39; refine (unhide HIt _ (unhide HB2).drew).mono ?_; rintro e w6 ⟨rfl, b6⟩; have HB6 := hide ((unhide HB2).drew.trans (b6.mono (unhide HB2).drew.size)); obtain ⟨z0, z1, z2, z3, zf⟩ := ((unhide HF2').below b6 (Nat.le_refl _)).cells; simp only at z0 z1 z2 z3; clear b6) | (go_simp; go_at_call 37; refine (unhide HS _ (unhide HB6)).mono ?_; rintro e w7 ⟨v7, rfl, o7, b7⟩; have HO7 := hide (o7.mono (Nat.le_trans hb (unhide HB6).size)); have HB7 := hide ((unhide HB6).trans (b7.mono (unhide HB6).size)); clear o7 b7))
    all_goals
      go_wp2
      go_ret
      exact ⟨v7, rfl, unhide HO7, unhide HB7⟩

set_option maxHeartbeats 4000000 in
theorem done_scale (c : Chg) (fs : List Fld) (v : Value) (base : Nat) (w : World) (hkd : c.kind = 5) (ho : FOwn w base v fs) (hb : base ≤ w.heap.size) (hlen : (fs.length + 1) * 48 ≤ 140737488355328) (hh : hasF fs c.name = true) :
    Calls Tryd.prog 21 #[v, .agg (cgv c)] w (DoPost w base (doC fs c)) := by
  obtain ⟨a, cp, rfl, hfd⟩ := ho.fdn
  have hcl := fdn_len hfd
  obtain ⟨kd, nm, tn, ⟨fn, ft, fi, fss⟩⟩ := c
  simp only at hkd
  have hb1 : Below w.heap.size w (w.alloc (.cells (cgv ⟨kd, nm, tn, ⟨fn, ft, fi, fss⟩⟩) 49)) := (Below.refl _ _).alloc (Nat.le_refl _) _
  have hx1 := CBx.new w ⟨kd, nm, tn, ⟨fn, ft, fi, fss⟩⟩
  have HG : Hid (∀ k W, Below w.heap.size w W → Calls Tryd.prog 36 #[.slice a fs.length cp, sv k] W fun e w' => e = .returned (.tuple #[.agg (fv (getA fs k)), .bool (hasF fs k)]) ∧ Below W.heap.size W w') := hide (fun k W hW => rGet_any a fs.length cp fs k W (hfd.below hW (Nat.le_refl _)).1)
  have HO := hide ho
  obtain ⟨w1, hw1⟩ : ∃ w1, w1 = w.alloc (.cells (cgv ⟨kd, nm, tn, ⟨fn, ft, fi, fss⟩⟩) 49) := ⟨_, rfl⟩
  have HW1 := hide hw1
  rw [← hw1] at hb1 hx1
  obtain ⟨B, hB⟩ : ∃ B, B = w.heap.size := ⟨_, rfl⟩
  rw [← hB] at hx1
  have HX1 := hide hx1
  have HB1 := hide hb1
  obtain ⟨x0, x1, x2, x3, x4, x5, x6⟩ := hx1.cells
  simp only at x0 x1 x2 x3 x4 x5 x6
  have HBB := hide hB
  subst hkd
  simp only at hh
  have HG1 := hide (unhide HG nm w1 hb1)
  rw [hh] at HG1
  obtain ⟨⟨gn, gt, gi, gs⟩, hg⟩ : ∃ g, g = getA fs nm := ⟨_, rfl⟩
  have hgn : gn = nm := by have := getA_name hh; rw [← hg] at this; exact this
  subst hgn
  have hdo : doC fs ⟨5, gn, tn, ⟨fn, ft, fi, fss⟩⟩ = scaC fs ⟨5, gn, tn, ⟨fn, ft, fi, fss⟩⟩ := rfl
  rw [hdo]
  have HT : Hid (∀ W, Calls Tryd.prog 40 #[.int .i64 gi, .int .i64 fi] W fun e w' => e = .returned (timV (timesZ gi fi)) ∧ W = w') := hide (rvscaled_any gi fi)
  cases gt with
  | true =>
    have HA := hide (scaC_no (fs := fs) (c := ⟨5, gn, tn, ⟨fn, ft, fi, fss⟩⟩) (by simp only; rw [← hg]; simp))
    rw [← hg] at HG1
    rw [unhide HA]
    obtain ⟨r, hr⟩ : ∃ r, r = timesZ gi fi := ⟨_, rfl⟩
    rw [← hr] at HT
    obtain ⟨rz, hrz⟩ : ∃ rz, rz = r.getD 0 := ⟨_, rfl⟩
    obtain ⟨rb, hrb⟩ : ∃ rb, rb = r.isSome := ⟨_, rfl⟩
    unfold timV at HT
    rw [← hrz, ← hrb] at HT
    clear hw1 hx1 hb1 hB ho HG hh hfd hg hdo hr hrz hrb
    go_enter Tryd.func21, Tryd.ntmps21
    go_upto_region 1 with fail
    rw [← unhide HW1, ← unhide HBB]
    go_upto_region 9 with (go_at_call 36; refine (unhide HG1).mono ?_; rintro e w2 ⟨rfl, b2⟩; have hb2 := (unhide HB1).trans (b2.mono (unhide HB1).size); have HB2 := hide (hb2.alloc hb2.size (.cells (fv ⟨gn, true, gi, gs⟩) 30)); have HX2 := hide (((unhide HX1).below b2 (Nat.le_refl _)).below ((Below.refl _ _).alloc (Nat.le_refl _) (.cells (fv ⟨gn, true, gi, gs⟩) 30)) (Nat.le_refl _)); have HF2 := hide (FBox.new w2 ⟨gn, true, gi, gs⟩); have hge := (unhide HB1).size; have hge2 := b2.size; clear b2 hb2)
    clear x0 x1 x2 x3 x4 x5 x6
    obtain ⟨w3, hw3⟩ : ∃ w3, w3 = w2.alloc (.cells (fv ⟨gn, true, gi, gs⟩) 30) := ⟨_, rfl⟩
    rw [show w2.alloc (.cells #[Value.string ⟨gn.toArray⟩, .bool true, .int .i64 gi, Value.string ⟨gs.toArray⟩] 30) = w3 from hw3.symm]
    rw [← hw3] at HB2 HX2 HF2
    obtain ⟨P, hP⟩ : ∃ P, P = w2.heap.size := ⟨_, rfl⟩
    rw [← hP] at HF2 ⊢
    have HP : Hid (w.heap.size ≤ P ∧ B ≠ P) := hide (by
      have hB := unhide HBB
      have hX := (unhide HX1).lt
      rw [hP]
      omega)
    clear hw3 hP hge hge2
    obtain ⟨x0, x1, x2, x3, x4, x5, x6⟩ := (unhide HX2).cells
    obtain ⟨y0, y1, y2, y3, yf⟩ := (unhide HF2).cells
    simp only at x0 x1 x2 x3 x4 x5 x6 y0 y1 y2 y3
    go_wp2_with (go_at_call 40; refine (unhide HT _).mono ?_; rintro e w' ⟨rfl, rfl⟩)
    go_ret
    exact DoPost.same (unhide HO) (unhide HB2)
  | false =>
    cases ht : timesZ gi fi with
    | none =>
      have HA := hide (scaC_out (fs := fs) (c := ⟨5, gn, tn, ⟨fn, ft, fi, fss⟩⟩) (by simp only; rw [← hg]; exact ht))
      rw [← hg] at HG1
      rw [ht] at HT
      rw [unhide HA]
      clear hw1 hx1 hb1 hB ho HG hh hfd hg hdo ht
      go_enter Tryd.func21, Tryd.ntmps21
      go_upto_region 1 with fail
      rw [← unhide HW1, ← unhide HBB]
      go_upto_region 9 with (go_at_call 36; refine (unhide HG1).mono ?_; rintro e w2 ⟨rfl, b2⟩; have hb2 := (unhide HB1).trans (b2.mono (unhide HB1).size); have HB2 := hide (hb2.alloc hb2.size (.cells (fv ⟨gn, false, gi, gs⟩) 30)); have HX2 := hide (((unhide HX1).below b2 (Nat.le_refl _)).below ((Below.refl _ _).alloc (Nat.le_refl _) (.cells (fv ⟨gn, false, gi, gs⟩) 30)) (Nat.le_refl _)); have HF2 := hide (FBox.new w2 ⟨gn, false, gi, gs⟩); have hge := (unhide HB1).size; have hge2 := b2.size; clear b2 hb2)
      clear x0 x1 x2 x3 x4 x5 x6
      obtain ⟨w3, hw3⟩ : ∃ w3, w3 = w2.alloc (.cells (fv ⟨gn, false, gi, gs⟩) 30) := ⟨_, rfl⟩
      rw [show w2.alloc (.cells #[Value.string ⟨gn.toArray⟩, .bool false, .int .i64 gi, Value.string ⟨gs.toArray⟩] 30) = w3 from hw3.symm]
      rw [← hw3] at HB2 HX2 HF2
      obtain ⟨P, hP⟩ : ∃ P, P = w2.heap.size := ⟨_, rfl⟩
      rw [← hP] at HF2 ⊢
      have HP : Hid (w.heap.size ≤ P ∧ B ≠ P) := hide (by
        have hB := unhide HBB
        have hX := (unhide HX1).lt
        rw [hP]
        omega)
      clear hw3 hP hge hge2
      obtain ⟨x0, x1, x2, x3, x4, x5, x6⟩ := (unhide HX2).cells
      obtain ⟨y0, y1, y2, y3, yf⟩ := (unhide HF2).cells
      simp only at x0 x1 x2 x3 x4 x5 x6 y0 y1 y2 y3
      go_wp2_with (go_at_call 40; refine (unhide HT _).mono ?_; rintro e w' ⟨rfl, rfl⟩)
      go_ret
      exact DoPost.same (unhide HO) (unhide HB2)
    | some p =>
      have HA := hide (scaC_yes (fs := fs) (c := ⟨5, gn, tn, ⟨fn, ft, fi, fss⟩⟩) (p := p) (by simp only; rw [← hg, hh]; rfl) (by simp only; rw [← hg]; exact ht))
      simp only at HA
      rw [← hg] at HG1
      rw [ht] at HT
      have HS : Hid (∀ W, Below w.heap.size w W → Calls Tryd.prog 37 #[.slice a fs.length cp, .agg (fv ⟨gn, false, p, []⟩)] W fun e w' => ∃ v, e = .returned v ∧ FOwn w' W.heap.size v (setF fs ⟨gn, false, p, []⟩) ∧ Below W.heap.size W w') := hide (fun W hW => rSet_any a cp fs _ W (hfd.below hW (Nat.le_refl _)) hlen)
      rw [unhide HA]
      clear hw1 hx1 hb1 hB ho HG hh hfd hg hdo ht
      go_enter Tryd.func21, Tryd.ntmps21
      go_upto_region 1 with fail
      rw [← unhide HW1, ← unhide HBB]
      go_upto_region 9 with (go_at_call 36; refine (unhide HG1).mono ?_; rintro e w2 ⟨rfl, b2⟩; have hb2 := (unhide HB1).trans (b2.mono (unhide HB1).size); have HB2 := hide (hb2.alloc hb2.size (.cells (fv ⟨gn, false, gi, gs⟩) 30)); have HX2 := hide (((unhide HX1).below b2 (Nat.le_refl _)).below ((Below.refl _ _).alloc (Nat.le_refl _) (.cells (fv ⟨gn, false, gi, gs⟩) 30)) (Nat.le_refl _)); have HF2 := hide (FBox.new w2 ⟨gn, false, gi, gs⟩); have hge := (unhide HB1).size; have hge2 := b2.size; clear b2 hb2)
      clear x0 x1 x2 x3 x4 x5 x6
      obtain ⟨w3, hw3⟩ : ∃ w3, w3 = w2.alloc (.cells (fv ⟨gn, false, gi, gs⟩) 30) := ⟨_, rfl⟩
      rw [show w2.alloc (.cells #[Value.string ⟨gn.toArray⟩, .bool false, .int .i64 gi, Value.string ⟨gs.toArray⟩] 30) = w3 from hw3.symm]
      rw [← hw3] at HB2 HX2 HF2
      obtain ⟨P, hP⟩ : ∃ P, P = w2.heap.size := ⟨_, rfl⟩
      rw [← hP] at HF2 ⊢
      have HP : Hid (w.heap.size ≤ P ∧ B ≠ P) := hide (by
        have hB := unhide HBB
        have hX := (unhide HX1).lt
        rw [hP]
        omega)
      clear hw3 hP hge hge2
      obtain ⟨x0, x1, x2, x3, x4, x5, x6⟩ := (unhide HX2).cells
      obtain ⟨y0, y1, y2, y3, yf⟩ := (unhide HF2).cells
      simp only at x0 x1 x2 x3 x4 x5 x6 y0 y1 y2 y3
      go_wp2_with (first | (go_at_call 40; refine (unhide HT _).mono ?_; rintro e w' ⟨rfl, rfl⟩) | (go_at_call 37; refine (unhide HS _ (unhide HB2)).mono ?_; rintro e w7 ⟨v7, rfl, o7, b7⟩; have HO7 := hide (o7.mono (Nat.le_trans hb (unhide HB2).size)); have HB7 := hide ((unhide HB2).trans (b7.mono (unhide HB2).size)); clear o7 b7))
      go_ret
      exact ⟨v7, rfl, unhide HO7, unhide HB7⟩

set_option maxHeartbeats 4000000 in
theorem done_none (c : Chg) (fs : List Fld) (v : Value) (base : Nat) (w : World) (hkd : isC c.kind = false) (ho : FOwn w base v fs) (hb : base ≤ w.heap.size) (hlen : (fs.length + 1) * 48 ≤ 140737488355328) (hh : hasF fs c.name = true) :
    Calls Tryd.prog 21 #[v, .agg (cgv c)] w (DoPost w base (doC fs c)) := by
  obtain ⟨a, cp, rfl, hfd⟩ := ho.fdn
  have hcl := fdn_len hfd
  obtain ⟨kd, nm, tn, ⟨fn, ft, fi, fss⟩⟩ := c
  simp only at hkd
  have hb1 : Below w.heap.size w (w.alloc (.cells (cgv ⟨kd, nm, tn, ⟨fn, ft, fi, fss⟩⟩) 49)) := (Below.refl _ _).alloc (Nat.le_refl _) _
  have hx1 := CBx.new w ⟨kd, nm, tn, ⟨fn, ft, fi, fss⟩⟩
  have HG : Hid (∀ k W, Below w.heap.size w W → Calls Tryd.prog 36 #[.slice a fs.length cp, sv k] W fun e w' => e = .returned (.tuple #[.agg (fv (getA fs k)), .bool (hasF fs k)]) ∧ Below W.heap.size W w') := hide (fun k W hW => rGet_any a fs.length cp fs k W (hfd.below hW (Nat.le_refl _)).1)
  have HO := hide ho
  obtain ⟨w1, hw1⟩ : ∃ w1, w1 = w.alloc (.cells (cgv ⟨kd, nm, tn, ⟨fn, ft, fi, fss⟩⟩) 49) := ⟨_, rfl⟩
  have HW1 := hide hw1
  rw [← hw1] at hb1 hx1
  obtain ⟨B, hB⟩ : ∃ B, B = w.heap.size := ⟨_, rfl⟩
  rw [← hB] at hx1
  have HX1 := hide hx1
  have HB1 := hide hb1
  obtain ⟨x0, x1, x2, x3, x4, x5, x6⟩ := hx1.cells
  simp only at x0 x1 x2 x3 x4 x5 x6
  have HBB := hide hB
  simp only at hh
  have HG1 := hide (unhide HG nm w1 hb1)
  rw [hh] at HG1
  have HA := hide (doC_none' (fs := fs) (c := ⟨kd, nm, tn, ⟨fn, ft, fi, fss⟩⟩) hkd)
  rw [unhide HA]
  obtain ⟨⟨gn, gt, gi, gs⟩, hg⟩ : ∃ g, g = getA fs nm := ⟨_, rfl⟩
  rw [← hg] at HG1
  unfold isC at hkd
  simp only [Bool.and_eq_false_iff, decide_eq_false_iff_not] at hkd
  have k1 : (kd == 1) = false := by simp; omega
  have k2 : (kd == 2) = false := by simp; omega
  have k3 : (kd == 3) = false := by simp; omega
  have k4 : (kd == 4) = false := by simp; omega
  have k5 : (kd == 5) = false := by simp; omega
  clear hw1 hx1 hb1 hB ho HG hh hfd hg hkd
  go_enter Tryd.func21, Tryd.ntmps21
  go_upto_region 1 with fail
  rw [← unhide HW1, ← unhide HBB]
  go_upto_region 9 with (go_at_call 36; refine (unhide HG1).mono ?_; rintro e w2 ⟨rfl, b2⟩; have hb2 := (unhide HB1).trans (b2.mono (unhide HB1).size); have HB2 := hide (hb2.alloc hb2.size (.cells (fv ⟨gn, gt, gi, gs⟩) 30)); have HX2 := hide (((unhide HX1).below b2 (Nat.le_refl _)).below ((Below.refl _ _).alloc (Nat.le_refl _) (.cells (fv ⟨gn, gt, gi, gs⟩) 30)) (Nat.le_refl _)); have HF2 := hide (FBox.new w2 ⟨gn, gt, gi, gs⟩); have hge := (unhide HB1).size; have hge2 := b2.size; clear b2 hb2)
  clear x0 x1 x2 x3 x4 x5 x6
  obtain ⟨w3, hw3⟩ : ∃ w3, w3 = w2.alloc (.cells (fv ⟨gn, gt, gi, gs⟩) 30) := ⟨_, rfl⟩
  rw [show w2.alloc (.cells #[Value.string ⟨gn.toArray⟩, .bool gt, .int .i64 gi, Value.string ⟨gs.toArray⟩] 30) = w3 from hw3.symm]
  rw [← hw3] at HB2 HX2 HF2
  obtain ⟨P, hP⟩ : ∃ P, P = w2.heap.size := ⟨_, rfl⟩
  rw [← hP] at HF2 ⊢
  have HP : Hid (w.heap.size ≤ P ∧ B ≠ P) := hide (by
    have hB := unhide HBB
    have hX := (unhide HX1).lt
    rw [hP]
    omega)
  clear hw3 hP hge hge2
  obtain ⟨x0, x1, x2, x3, x4, x5, x6⟩ := (unhide HX2).cells
  obtain ⟨y0, y1, y2, y3, yf⟩ := (unhide HF2).cells
  simp only at x0 x1 x2 x3 x4 x5 x6 y0 y1 y2 y3
  go_wp2_with fail
  go_ret
  exact DoPost.same (unhide HO) (unhide HB2)

/-- The document's done. -/
theorem rvdone_any (c : Chg) (fs : List Fld) (v : Value) (base : Nat) (w : World) (ho : FOwn w base v fs) (hb : base ≤ w.heap.size) (hlen : (fs.length + 1) * 48 ≤ 140737488355328) (hfit : ∀ f ∈ fs, fits f) (hva : Vars w) :
    Calls Tryd.prog 21 #[v, .agg (cgv c)] w (DoPost w base (doC fs c)) := by
  by_cases h1 : c.kind = 1
  · exact done_add c fs v base w h1 ho hb hlen
  cases hh : hasF fs c.name with
  | false => exact done_hasnt c fs v base w h1 ho hb hlen hh
  | true =>
    by_cases h2 : c.kind = 2
    · exact done_drop c fs v base w h2 ho hb hlen hh
    by_cases h3 : c.kind = 3
    · exact done_rename c fs v base w h3 ho hb hlen hh
    by_cases h4 : c.kind = 4
    · exact done_show c fs v base w h4 ho hb hlen hh hfit hva
    by_cases h5 : c.kind = 5
    · exact done_scale c fs v base w h5 ho hb hlen hh
    · refine done_none c fs v base w ?_ ho hb hlen hh
      unfold isC
      rw [Bool.and_eq_false_iff, decide_eq_false_iff_not, decide_eq_false_iff_not]
      omega
end Go.Proofs.YtfgjbmpbailebaaDoor
