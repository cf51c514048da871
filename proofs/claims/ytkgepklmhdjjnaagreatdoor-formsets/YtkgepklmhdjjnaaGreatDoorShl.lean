/-
  DERIVED. The closure of Read; eachPart.
-/
import Derived.Test.YtkgepklmhdjjnaaGreatDoorShk
namespace Go.Proofs.YtkgepklmhdjjnaaGreatDoor
open Go.RowKit Go.Maps
set_option linter.unusedVariables false

theorem readP_name {p : List UInt8} {f : Fld} (h : readP p = .ok f) : nameB f.name = true := by
  unfold readP at h
  split at h
  · cases h
  · split at h
    · rename_i hn
      unfold namedF at h
      split at h
      · cases h
      · cases h; exact hn
    · cases h

def StepPost (w0 : World) (C m : Nat) (S : List Fld) (r : Except Int (List Fld)) (e : Ending) (w' : World) : Prop :=
  e = .returned (.int .i64 (errS r)) ∧ RdSt w0 w' C m (restS S r)

theorem readP_err {p : List UInt8} {e : Int} (h : readP p = .error e) : e ≠ 0 := by
  unfold readP at h
  split at h
  · cases h; decide
  · split at h
    · unfold namedF at h
      split at h
      · cases h; decide
      · cases h
    · cases h; decide

set_option maxHeartbeats 4000000 in
theorem ReadC_any (w0 w : World) (C m : Nat) (S : List Fld) (p : List UInt8) (h : RdSt w0 w C m S) (hva : Vars w0) (hp : p.length ≤ 140737488355328) (hS : S.length ≤ 16) :
    Calls Tryz.prog 37 #[sv p, .pointer (some ⟨C, 0, none⟩)] w (StepPost w0 C m S (readStep S p)) := by
  have c0 := h.at
  have l0 := h.sn.len 3
  have HR := hide (readField_any p w hp (hva.below h.bel (Nat.le_refl _)))
  have HH := hide h
  clear h hva
  by_cases h16 : S.length = 16
  · have HA : Hid (readStep S p = .error 120) := hide (by simp [readStep, h16])
    have h16' : ((S.length : Int) == 16) = true := by simp; omega
    go_enter Tryz.func37, Tryz.ntmps37
    go_wp2_with fail
    go_ret
    rw [unhide HA]
    exact ⟨rfl, unhide HH⟩
  · have h16' : ((S.length : Int) == 16) = false := by simp; omega
    cases hr : readP p with
    | error e =>
      have HA : Hid (readStep S p = .error e) := hide (by simp [readStep, h16, hr])
      have he : (e != 0) = true := by simp [readP_err hr]
      rw [hr] at HR
      clear hr
      go_enter Tryz.func37, Tryz.ntmps37
      go_wp2_with (go_at_call 38; refine (unhide HR).mono ?_; rintro e w1 ⟨⟨an, ak, ai, az⟩, rfl, -, b1⟩; simp only [errN]; have HH1 := hide (((unhide HH).grown b1).grown ((Below.refl _ _).alloc (Nat.le_refl _) (.cells (fv ⟨an, ak, ai, az⟩) 33))); clear b1)
      go_ret
      rw [unhide HA]
      exact ⟨rfl, unhide HH1⟩
    | ok f =>
      obtain ⟨fn, ft, fi, fss⟩ := f
      have hnl := (nameB_len (readP_name hr)).2
      simp only at hnl
      have hml : fn.length ≤ maxLen := by unfold maxLen; omega
      rw [hr] at HR
      cases ht : S.any (fun g => g.name == fn) with
      | true =>
        have HA : Hid (readStep S p = .error 124) := hide (by simp only [readStep, h16, if_false, hr, ht, if_true])
        have HT := hide ht
        clear hr ht
        go_enter Tryz.func37, Tryz.ntmps37
        go_upto_region 6 with (go_at_call 38; refine (unhide HR).mono ?_; rintro e w1 ⟨f, rfl, hf, b1⟩; obtain rfl := hf _ rfl; simp only [errN]; have HH1 := hide (((unhide HH).grown b1).grown ((Below.refl _ _).alloc (Nat.le_refl _) (.cells (fv ⟨fn, ft, fi, fss⟩) 33))); have HG1 := hide (FBox.new w1 ⟨fn, ft, fi, fss⟩); clear b1 hf)
        obtain ⟨w2, hw2⟩ : ∃ w2, w2 = w1.alloc (.cells (fv ⟨fn, ft, fi, fss⟩) 33) := ⟨_, rfl⟩
        rw [show w1.alloc (.cells #[Value.string ⟨fn.toArray⟩, .bool ft, .int .i64 fi, Value.string ⟨fss.toArray⟩] 33) = w2 from hw2.symm]
        rw [← hw2] at HH1 HG1
        have c1 := (unhide HH1).at
        have lk := (unhide HH1).sn.look fn hml
        rw [unhide HT] at lk
        obtain ⟨d0, d1, d2, d3, df⟩ := (unhide HG1).cells
        simp only at d0 d1 d2 d3
        obtain ⟨⟨an, ak, ai, az⟩, hg⟩ : ∃ g, g = (getF S fn).getD fld0 := ⟨_, rfl⟩
        rw [← hg] at lk
        have HH2 := hide ((unhide HH1).grown ((Below.refl _ _).alloc (Nat.le_refl _) (.cells (fv ⟨an, ak, ai, az⟩) 33)))
        clear hw2 hg c0 l0
        go_wp2_with fail
        go_ret
        rw [unhide HA]
        exact ⟨rfl, unhide HH2⟩
      | false =>
        have HA : Hid (readStep S p = .ok (S ++ [⟨fn, ft, fi, fss⟩])) := hide (by simp [readStep, h16, hr, ht])
        have HT := hide ht
        clear hr ht
        go_enter Tryz.func37, Tryz.ntmps37
        go_upto_region 6 with (go_at_call 38; refine (unhide HR).mono ?_; rintro e w1 ⟨f, rfl, hf, b1⟩; obtain rfl := hf _ rfl; simp only [errN]; have HH1 := hide (((unhide HH).grown b1).grown ((Below.refl _ _).alloc (Nat.le_refl _) (.cells (fv ⟨fn, ft, fi, fss⟩) 33))); have HG1 := hide (FBox.new w1 ⟨fn, ft, fi, fss⟩); clear b1 hf)
        obtain ⟨w2, hw2⟩ : ∃ w2, w2 = w1.alloc (.cells (fv ⟨fn, ft, fi, fss⟩) 33) := ⟨_, rfl⟩
        rw [show w1.alloc (.cells #[Value.string ⟨fn.toArray⟩, .bool ft, .int .i64 fi, Value.string ⟨fss.toArray⟩] 33) = w2 from hw2.symm]
        rw [← hw2] at HH1 HG1
        obtain ⟨q, hq⟩ : ∃ q, q = w1.heap.size := ⟨_, rfl⟩
        rw [← hq] at HG1 ⊢
        have c1 := (unhide HH1).at
        have lk := (unhide HH1).sn.look fn hml
        rw [unhide HT] at lk
        obtain ⟨d0, d1, d2, d3, df⟩ := (unhide HG1).cells
        simp only at d0 d1 d2 d3
        obtain ⟨⟨an, ak, ai, az⟩, hg⟩ : ∃ g, g = (getF S fn).getD fld0 := ⟨_, rfl⟩
        rw [← hg] at lk
        clear hw2 hg c0 l0 hq
        go_upto_region 9 with fail
        have hb3 := (Below.refl w2.heap.size w2).alloc (Nat.le_refl _) (.cells (fv ⟨an, ak, ai, az⟩) 33)
        have hh3 := (unhide HH1).grown hb3
        have hg3 := (unhide HG1).below hb3 (Nat.le_refl _)
        obtain ⟨w3, hw3⟩ : ∃ w3, w3 = w2.alloc (.cells (fv ⟨an, ak, ai, az⟩) 33) := ⟨_, rfl⟩
        rw [show w2.alloc (.cells #[Value.string ⟨an.toArray⟩, .bool ak, .int .i64 ai, Value.string ⟨az.toArray⟩] 33) = w3 from hw3.symm]
        rw [← hw3] at hh3 hg3
        clear c1 lk d0 d1 d2 d3 df hw3 hb3
        have c1 := hh3.at
        obtain ⟨d0, d1, d2, d3, df⟩ := hg3.cells
        simp only at d0 d1 d2 d3
        obtain ⟨w4, hrun, hs4, hg4⟩ := hh3.sn.put ⟨fn, ft, fi, fss⟩ hml (unhide HT) (by omega)
        have HH4 := hide (hh3.put hs4 hg4)
        clear hh3 hg3 hs4 hg4
        go_wp2_with fail
        go_ret
        rw [unhide HA]
        exact ⟨rfl, unhide HH4⟩
end Go.Proofs.YtkgepklmhdjjnaaGreatDoor
