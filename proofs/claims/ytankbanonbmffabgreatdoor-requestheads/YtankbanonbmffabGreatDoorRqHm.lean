/-
  DERIVED. Requests, plain: a header's name is found in small letters, its value without layout at its ends.
-/
import Derived.Test.YtankbanonbmffabGreatDoorRqX
namespace Go.Proofs.YtankbanonbmffabGreatDoor
set_option linter.unusedVariables false

def hdOne : List UInt8 := [71, 69, 84, 32, 47, 32, 72, 84, 84, 80, 47, 49, 46, 49]
def hdTwo : List UInt8 := [72, 111, 115, 116, 58, 32, 104]
/-- The text that the law puts together. -/
def hdText (raw value : List UInt8) : List UInt8 := hdOne ++ 13 :: 10 :: (hdTwo ++ 13 :: 10 :: ((raw ++ 58 :: ([32, 9, 32] ++ value ++ [32, 9])) ++ 13 :: 10 :: [13, 10]))

def vis (c : UInt8) : Prop := 33 ≤ c.toNat ∧ c.toNat ≠ 127
theorem lay_of {c : UInt8} (h : vis c) : (fun x => qLayS.contains x) c = false := by
  have h1 : c ≠ 32 := fun e => by rw [e] at h; exact absurd h.1 (by decide)
  have h2 : c ≠ 9 := fun e => by rw [e] at h; exact absurd h.1 (by decide)
  simp [qLayS, h1, h2]
theorem bare_mid {v : List UInt8} (h : ∀ c ∈ v, vis c) : qBare ([32, 9, 32] ++ v ++ [32, 9]) = v := by
  cases v with
  | nil => rfl
  | cons c r =>
    unfold qBare Lib.trimS Lib.trimLeftS Lib.trimRightS
    have hrev : ([32, 9, 32] ++ (c :: r) ++ [32, 9] : List UInt8).reverse = 9 :: 32 :: ((c :: r).reverse ++ [32, 9, 32]) := by simp
    rw [hrev]
    obtain ⟨d, t, hd⟩ : ∃ d t, (c :: r).reverse = d :: t := by
      cases he : (c :: r).reverse with
      | nil => simp at he
      | cons d t => exact ⟨d, t, rfl⟩
    have hdm : vis d := h d (List.mem_reverse.1 (by rw [hd]; simp))
    have e1 : (9 :: 32 :: ((c :: r).reverse ++ [32, 9, 32]) : List UInt8).dropWhile (fun x => qLayS.contains x) = (c :: r).reverse ++ [32, 9, 32] := by
      rw [List.dropWhile_cons_of_pos (by decide), List.dropWhile_cons_of_pos (by decide), hd, List.cons_append, List.dropWhile_cons_of_neg (by have := lay_of hdm; simp only at this; rw [this]; simp)]
    rw [e1]
    have e2 : ((c :: r).reverse ++ [32, 9, 32] : List UInt8).reverse = 32 :: 9 :: 32 :: (c :: r) := by simp
    rw [e2, List.dropWhile_cons_of_pos (by decide), List.dropWhile_cons_of_pos (by decide), List.dropWhile_cons_of_pos (by decide), List.dropWhile_cons_of_neg (by have := lay_of (h c (by simp)); simp only at this; rw [this]; simp)]
theorem val_vis {c : UInt8} (h : vis c) : qVal c = true := by
  unfold vis at h
  unfold qVal
  simp
  omega
/-- What the law's loop leaves of the name. -/
structure HdInv (name raw : List UInt8) (k : Nat) : Prop where
  len : raw.length = name.length
  old : ∀ j, j < k → ∃ c, name[j]? = some c ∧ 97 ≤ c.toNat ∧ c.toNat ≤ 122 ∧ (raw[j]? = some c ∨ raw[j]? = some (c - 32))
  new : ∀ j, k ≤ j → raw[j]? = name[j]?
theorem HdInv.start (name : List UInt8) : HdInv name name 0 := ⟨rfl, fun j h => by omega, fun _ _ => rfl⟩
theorem HdInv.same {name raw : List UInt8} {k : Nat} (h : HdInv name raw k) {c : UInt8} (hc : name[k]? = some c) (h1 : 97 ≤ c.toNat) (h2 : c.toNat ≤ 122) : HdInv name raw (k + 1) :=
  ⟨h.len, fun j hj => by
    by_cases e : j = k
    · subst e; exact ⟨c, hc, h1, h2, .inl ((h.new j (Nat.le_refl _)).trans hc)⟩
    · exact h.old j (by omega), fun j hj => h.new j (by omega)⟩
theorem HdInv.put {name raw : List UInt8} {k : Nat} (h : HdInv name raw k) {c : UInt8} (hc : name[k]? = some c) (h1 : 97 ≤ c.toNat) (h2 : c.toNat ≤ 122) : HdInv name (raw.set k (c - 32)) (k + 1) := by
  have hk : k < name.length := (List.getElem?_eq_some_iff.1 hc).1
  refine ⟨by rw [List.length_set]; exact h.len, fun j hj => ?_, fun j hj => ?_⟩
  · by_cases e : j = k
    · subst e; exact ⟨c, hc, h1, h2, .inr (by rw [List.getElem?_set_self (by rw [h.len]; exact hk)])⟩
    · obtain ⟨d, a1, a2, a3, a4⟩ := h.old j (by omega)
      refine ⟨d, a1, a2, a3, ?_⟩
      rw [List.getElem?_set_ne (by omega)]
      exact a4
  · rw [List.getElem?_set_ne (by omega)]
    exact h.new j (by omega)
theorem sub32 {c : UInt8} (h1 : 97 ≤ c.toNat) : (c - 32).toNat = c.toNat - 32 := by
  rw [UInt8.toNat_sub]; have : (32 : UInt8).toNat = 32 := rfl; have := c.toNat_lt; omega
/-- Each letter of it. -/
theorem HdInv.at {name raw : List UInt8} (h : HdInv name raw name.length) {j : Nat} {d : UInt8} (hd : raw[j]? = some d) : ∃ c, name[j]? = some c ∧ 97 ≤ c.toNat ∧ c.toNat ≤ 122 ∧ (d = c ∨ d = c - 32) := by
  have hj : j < name.length := by rw [← h.len]; exact (List.getElem?_eq_some_iff.1 hd).1
  obtain ⟨c, a1, a2, a3, a4⟩ := h.old j hj
  refine ⟨c, a1, a2, a3, ?_⟩
  rcases a4 with a4 | a4
  · exact .inl (Option.some.inj (hd.symm.trans a4))
  · exact .inr (Option.some.inj (hd.symm.trans a4))
theorem HdInv.letters {name raw : List UInt8} (h : HdInv name raw name.length) {d : UInt8} (hd : d ∈ raw) : (65 ≤ d.toNat ∧ d.toNat ≤ 90) ∨ (97 ≤ d.toNat ∧ d.toNat ≤ 122) := by
  obtain ⟨j, hj⟩ := List.getElem?_of_mem hd
  obtain ⟨c, _, h1, h2, rfl | rfl⟩ := h.at hj
  · exact .inr ⟨h1, h2⟩
  · rw [sub32 h1]; exact .inl ⟨by omega, by omega⟩
theorem HdInv.small {name raw : List UInt8} (h : HdInv name raw name.length) : qSmall raw = name := by
  apply List.ext_getElem?
  intro j
  unfold qSmall
  rw [List.getElem?_map]
  cases hd : raw[j]? with
  | none =>
    have : name.length ≤ j := by rw [← h.len]; exact List.getElem?_eq_none_iff.1 hd
    rw [List.getElem?_eq_none_iff.2 this]; rfl
  | some d =>
    obtain ⟨c, e, h1, h2, rfl | rfl⟩ := h.at hd
    · rw [e]
      have : capB d = false := by unfold capB; simp; omega
      simp [qSm_not this]
    · rw [e]
      have hc : capB (c - 32) = true := by unfold capB; simp [sub32 h1]; omega
      have := (qSm_cap hc).2.1
      rw [sub32 h1] at this
      have e2 : qSm (c - 32) = c := UInt8.toNat_inj.1 (by omega)
      simp [e2]
theorem head_tok {d : UInt8} (h : (65 ≤ d.toNat ∧ d.toNat ≤ 90) ∨ (97 ≤ d.toNat ∧ d.toNat ≤ 122)) : qTok d = true ∧ d ≠ 58 ∧ d.toNat ≠ 13 ∧ d.toNat ≠ 10 := by
  refine ⟨?_, fun e => by rw [e] at h; revert h; decide, by omega, by omega⟩
  unfold qTok qLetter smallB capB
  simp
  omega

theorem heads_parse {name raw value : List UInt8} (h : HdInv name raw name.length) (h0 : name ≠ []) (h40 : name.length ≤ 40) (h150 : value.length ≤ 150) (hv : ∀ c ∈ value, vis c) (hh : name ≠ qhost) (hc : name ≠ qconn) :
    ∃ n, qParse (hdText raw value) = .ok ⟨qGET, [47], [], [(qhost, [104]), (name, value)], [], false⟩ n := by
  have hlen := h.len
  have l1 : qLine 0 (hdText raw value) = .ok hdOne 16 := qLine_line _ hdOne 0 (by decide) (by decide)
  have f1 : qFirst hdOne = .ok (qGET, [47], []) := by kernel_rfl
  have l2 : qLine 0 ((hdText raw value).drop 16) = .ok hdTwo 9 := qLine_line _ hdTwo 0 (by decide) (by decide)
  have e2 : qHeader hdTwo = some (qhost, [104]) := by kernel_rfl
  have l3 : qLine 0 (((hdText raw value).drop 16).drop 9) = .ok (raw ++ 58 :: ([32, 9, 32] ++ value ++ [32, 9])) ((raw ++ 58 :: ([32, 9, 32] ++ value ++ [32, 9])).length + 2) := by
    refine qLine_line [13, 10] _ 0 (fun c hc => ?_) (by simp; omega)
    simp only [List.mem_append, List.mem_cons, List.not_mem_nil, or_false] at hc
    rcases hc with hc | rfl | ((rfl | rfl | rfl) | hc) | rfl | rfl
    · exact (head_tok (h.letters hc)).2.2
    · decide
    · decide
    · decide
    · decide
    · have := hv c hc; unfold vis at this; omega
    · decide
    · decide
  have e3 : qHeader (raw ++ 58 :: ([32, 9, 32] ++ value ++ [32, 9])) = some (name, value) := by
    unfold qHeader
    rw [qCut_app _ (fun x hx => (head_tok (h.letters hx)).2.1)]
    have t1 : qToken raw = true := by
      unfold qToken
      rw [Bool.and_eq_true]
      refine ⟨?_, List.all_eq_true.2 fun x hx => (head_tok (h.letters hx)).1⟩
      cases raw with
      | nil => exact absurd (List.length_eq_zero_iff.1 hlen.symm) h0
      | cons _ _ => rfl
    have t2 : ([32, 9, 32] ++ value ++ [32, 9] : List UInt8).all qVal = true := by
      rw [List.all_append, List.all_append]
      have : value.all qVal = true := List.all_eq_true.2 fun x hx => val_vis (hv x hx)
      rw [this]; decide
    simp only
    rw [t1, t2, h.small, bare_mid hv]; rfl
  have hd : (((hdText raw value).drop 16).drop 9).drop ((raw ++ 58 :: ([32, 9, 32] ++ value ++ [32, 9])).length + 2) = [13, 10] := by
    show ((raw ++ 58 :: ([32, 9, 32] ++ value ++ [32, 9])) ++ 13 :: 10 :: [13, 10]).drop _ = _
    rw [List.drop_append]
    simp
  have e4 : qHeaders 17 [] ((hdText raw value).drop 16) = .ok [(qhost, [104]), (name, value)] (9 + ((raw ++ 58 :: ([32, 9, 32] ++ value ++ [32, 9])).length + 2 + 2)) := by
    rw [qHeaders_succ, then_ok l2]
    rw [if_neg (by decide), if_pos (by simp), e2]
    simp only
    rw [qHeaders_succ, then_ok l3, if_neg (by simp), if_pos (by simp), e3]
    simp only
    rw [hd]
    have : qHeaders 15 ([] ++ [(qhost, [104])] ++ [(name, value)]) [13, 10] = .ok [(qhost, [104]), (name, value)] 2 := by
      rw [qHeaders_succ, then_ok (show qLine 0 [13, 10] = .ok [] 2 by kernel_rfl)]
      rfl
    rw [this]
    rfl
  have hne : ∀ m : List UInt8, (∃ c ∈ m, c.toNat < 97) → name ≠ m := by
    rintro m ⟨c, hcm, hlt⟩ e
    subst e
    obtain ⟨j, hj⟩ := List.getElem?_of_mem hcm
    obtain ⟨d, a1, a2, _, _⟩ := h.old j (List.getElem?_eq_some_iff.1 hj).1
    rw [hj] at a1
    cases a1
    omega
  have n1 : name ≠ qte := hne _ ⟨45, by decide, by decide⟩
  have n2 : name ≠ qcl := hne _ ⟨45, by decide, by decide⟩
  have g1 : qGet [(qhost, [104]), (name, value)] qhost = ([104], 1) := by
    simp [qGet, List.filter, beq_eq_false_iff_ne.2 hh]
  have g2 : (qGet [(qhost, [104]), (name, value)] qte).2 = 0 := by
    simp [qGet, List.filter, beq_eq_false_iff_ne.2 n1, show (qhost == qte) = false from rfl]
  have g3 : (qGet [(qhost, [104]), (name, value)] qcl).2 = 0 := by
    simp [qGet, List.filter, beq_eq_false_iff_ne.2 n2, show (qhost == qcl) = false from rfl]
  have e5 : qHead [(qhost, [104]), (name, value)] = .ok (some 0) := by
    unfold qHead
    rw [g1, g2, g3]; rfl
  have e6 : qCloses [(qhost, [104]), (name, value)] = false := by
    simp [qCloses, beq_eq_false_iff_ne.2 hc, show (qhost == qconn) = false from rfl]
  have := parse_ok (n3 := 0) (b := []) l1 f1 e4 e5 (by simp [qBody, qTake])
  rw [e6] at this
  exact ⟨_, this⟩
theorem heads_get {name value : List UInt8} (hh : name ≠ qhost) : qGet [(qhost, [104]), (name, value)] name = (value, 1) := by
  have : (qhost == name) = false := beq_eq_false_iff_ne.2 (fun e => hh e.symm)
  simp [qGet, List.filter, this]
end Go.Proofs.YtankbanonbmffabGreatDoor
