/-
  DERIVED. What changes keep, plain.
-/
import Derived.Test.YtfgjbmpbailebaaDoorUpE
import Derived.Test.YtfgjbmpbailebaaDoorShR7
namespace Go.Proofs.YtfgjbmpbailebaaDoor
open Go.RowKit
set_option linter.unusedVariables false

theorem set_len_has {r : List Fld} {f : Fld} (h : hasF r f.name = true) : (setF r f).length = r.length := by rw [set_has h]; simp
theorem set_len_le {r : List Fld} {f : Fld} {L : Nat} (h : r.length + 1 ≤ L) : (setF r f).length ≤ L := Nat.le_trans (set_len r f) h
theorem doC_len {fs : List Fld} {c : Chg} {L : Nat} (h : fs.length ≤ L) (h16 : 16 ≤ L) : (doC fs c).length ≤ L := by
  unfold doC
  split
  · unfold addC
    split
    · exact h
    · rename_i hn; exact set_len_le (by have := (not_or.1 hn).2; omega)
  split
  · cases hh : hasF fs c.name with
    | true => have := (drop_len fs c.name).1 hh; omega
    | false => have := (drop_len fs c.name).2 hh; omega
  split
  · unfold renC
    split
    · exact h
    · rename_i hn
      have h1 : hasF fs c.name = true := by
        cases hh : hasF fs c.name with
        | true => rfl
        | false => exact absurd (Or.inl hh) hn
      have := (drop_len fs c.name).1 h1
      exact set_len_le (by omega)
  split
  · unfold shoC
    split
    · rename_i hn; rw [set_len_has (f := ⟨c.name, true, 0, Lib.itoa (getA fs c.name).n⟩) hn.1]; exact h
    · exact h
  split
  · unfold scaC
    split
    · rename_i hn
      split
      · rename_i p _; rw [set_len_has (f := ⟨c.name, false, p, []⟩) hn.1]; exact h
      · exact h
    · exact h
  · exact h

theorem set_fits {fs : List Fld} {f : Fld} (h : ∀ g ∈ fs, fits g) (hf : fits f) : ∀ g ∈ setF fs f, fits g := fun g hg => by
  rcases set_sub hg with h' | rfl
  · exact h g h'
  · exact hf
theorem drop_sub {fs : List Fld} {nm : List UInt8} {g : Fld} (h : g ∈ dropF fs nm) : g ∈ fs := by
  unfold dropF at h
  rcases List.mem_append.1 h with h | h
  · exact List.mem_of_mem_take h
  · exact List.mem_of_mem_drop h
theorem getA_fits' {fs : List Fld} (h : ∀ f ∈ fs, fits f) (nm : List UInt8) : fits (getA fs nm) := by
  unfold getA
  cases hf : fs.find? (fun f => f.name == nm) with
  | none => exact ⟨by simp [fld0], by simp [fld0], by simp [fld0], by simp [fld0]⟩
  | some g => exact h g (List.mem_of_find?_eq_some hf)
theorem timesZ_range {a b p : Int} (h : timesZ a b = some p) : -1000000000000000 ≤ p ∧ p ≤ 1000000000000000 := by
  unfold timesZ at h
  split at h
  · rename_i hc
    cases h
    exact ⟨hc.2.2.2.2.1, hc.2.2.2.2.2⟩
  · cases h
theorem doC_fits {fs : List Fld} {c : Chg} (hc : fitC c) (h : ∀ f ∈ fs, fits f) : ∀ f ∈ doC fs c, fits f := by
  unfold doC
  split
  · unfold addC
    split
    · exact h
    · exact set_fits h hc.f
  split
  · exact fun f hf => h f (drop_sub hf)
  split
  · unfold renC
    split
    · exact h
    · have hg := getA_fits' h c.name
      exact set_fits (fun f hf => h f (drop_sub hf)) ⟨by have := hc.2.1; simp only; omega, hg.2.1, hg.2.2⟩
  split
  · unfold shoC
    split
    · have hg := getA_fits' h c.name
      have hl := Lib.itoa_length_le _ hg.2.2.1 hg.2.2.2
      exact set_fits h ⟨by have := hc.1; simp only; omega, by simp only; omega, by simp, by simp⟩
    · exact h
  split
  · unfold scaC
    split
    · split
      · rename_i p hp
        have := timesZ_range hp
        exact set_fits h ⟨by have := hc.1; simp only; omega, by simp, by simp only; omega, by simp only; omega⟩
      · exact h
    · exact h
  · exact h

/-! ### Records stay records -/
theorem drop_check {r : List Fld} (hr : checkF r = 0) (nm : List UInt8) : checkF (dropF r nm) = 0 := by
  obtain ⟨h16, hm, hri⟩ := check_ok hr
  have hl : (dropF r nm).length ≤ r.length := by
    cases hh : hasF r nm with
    | true => have := (drop_len r nm).1 hh; omega
    | false => have := (drop_len r nm).2 hh; omega
  have hs : Rising (dropF r nm) := by
    unfold dropF Rising
    have e := List.take_append_drop (atF r nm) r
    have hle := (atF_le r nm).1
    refine List.pairwise_append.2 ⟨hri.sublist (List.take_sublist _ _), hri.sublist (List.drop_sublist _ _), fun a ha b hb => ?_⟩
    have h2 := (around hri nm).1 a ha
    have h3 := (around hri nm).2 b hb
    exact List.lt_trans h2 h3
  unfold checkF
  rw [if_neg (by omega)]
  refine chkL_of hs (fun f hf => ?_) (fun f hf => hm f (drop_sub hf))
  have hn : nameB f.name = true := by
    have := hm f (drop_sub hf)
    unfold mayF at this
    split at this
    · assumption
    · cases this
  exact nil_lt (nameB_len hn).1
theorem may_parts {f : Fld} (h : mayF f = 0) : nameB f.name = true ∧ valB f = true := by
  unfold mayF at h
  split at h
  · rename_i h1
    split at h
    · rename_i h2; exact ⟨h1, h2⟩
    · cases h
  · cases h
theorem chgE_ok {c : Chg} (h : chgE c = 0) : namesC c ≠ [] ∧ (namesC c).all nameB = true ∧ (c.kind = 1 → mayF c.f = 0) := by
  unfold chgE at h
  split at h
  · omega
  · rename_i h1
    split at h
    · omega
    · rename_i h2
      split at h
      · omega
      · rename_i h3
        refine ⟨h1, by simpa using h2, fun hk => ?_⟩
        by_cases e : mayF c.f = 0
        · exact e
        · exact absurd ⟨hk, e⟩ h3
theorem doC_check {fs : List Fld} {c : Chg} (hc : chgE c = 0) (hf : ∀ f ∈ fs, fits f) (h : checkF fs = 0) : checkF (doC fs c) = 0 := by
  obtain ⟨h16, hm, hri⟩ := check_ok h
  obtain ⟨hn, ha, h1⟩ := chgE_ok hc
  unfold doC
  split
  · rename_i k1
    unfold addC
    split
    · exact h
    · rename_i hx; exact set_check h (h1 k1) (by have := set_len fs c.f; have := (not_or.1 hx).2; omega)
  rename_i k1
  split
  · exact drop_check h c.name
  rename_i k2
  split
  · rename_i k3
    unfold renC
    split
    · exact h
    · rename_i hx
      have hh : hasF fs c.name = true := by
        cases hh : hasF fs c.name with
        | true => rfl
        | false => exact absurd (Or.inl hh) hx
      have hl := (drop_len fs c.name).1 hh
      have hg := hm _ (List.mem_of_getElem? (at_get hh).2)
      have hto : nameB c.tn = true := by
        simp only [namesC, k3] at ha
        simp at ha
        exact ha.2
      refine set_check (drop_check h c.name) ?_ ?_
      · exact mayF_ok hto (by have := (may_parts hg).2; unfold valB at this ⊢; exact this)
      · have := set_len (dropF fs c.name) ⟨c.tn, (getA fs c.name).text, (getA fs c.name).n, (getA fs c.name).s⟩
        omega
  rename_i k3
  have hnm : (c.kind = 4 ∨ c.kind = 5) → nameB c.name = true := fun hk => by
    have : namesC c = [c.name] := by unfold namesC; rw [if_neg k1, if_neg k3, if_pos (by omega)]
    rw [this] at ha
    simpa using ha
  split
  · rename_i k4
    unfold shoC
    split
    · rename_i hx
      have hg := getA_fits' hf c.name
      have hl := Lib.itoa_length_le _ hg.2.2.1 hg.2.2.2
      refine set_check h (mayF_ok (hnm (.inl k4)) ?_) (by rw [set_len_has (f := ⟨c.name, true, 0, Lib.itoa (getA fs c.name).n⟩) hx.1]; exact h16)
      unfold valB
      simp only [if_true]
      simp
      omega
    · exact h
  rename_i k4
  split
  · rename_i k5
    unfold scaC
    split
    · rename_i hx
      split
      · rename_i p hp
        refine set_check h (mayF_ok (hnm (.inr k5)) rfl) (by rw [set_len_has (f := ⟨c.name, false, p, []⟩) hx.1]; exact h16)
      · exact h
    · exact h
  · exact h

theorem chsE_ok : ∀ {l : List Chg}, chsE l = 0 → ∀ c ∈ l, chgE c = 0
  | [], _, c, hc => by simp at hc
  | d :: r, h, c, hc => by
    unfold chsE at h
    split at h
    · rename_i hx; exact absurd h hx
    · rename_i hx
      have hd : chgE d = 0 := by omega
      rcases List.mem_cons.1 hc with rfl | hc
      · exact hd
      · exact chsE_ok h c hc

theorem fold_keeps {P : List Fld → Prop} : ∀ (l : List Chg) (fs : List Fld), (∀ c ∈ l, ∀ g, P g → P (doC g c)) → P fs → P (l.foldl doC fs)
  | [], fs, _, h => h
  | c :: r, fs, hp, h => fold_keeps r (doC fs c) (fun d hd => hp d (by simp [hd])) (hp c (by simp) fs h)
theorem take_snocC {cs : List Chg} {k : Nat} {c : Chg} (h : cs[k]? = some c) (fs : List Fld) : (cs.take (k + 1)).foldl doC fs = doC ((cs.take k).foldl doC fs) c := by
  rw [List.take_add_one, h]
  simp
end Go.Proofs.YtfgjbmpbailebaaDoor
