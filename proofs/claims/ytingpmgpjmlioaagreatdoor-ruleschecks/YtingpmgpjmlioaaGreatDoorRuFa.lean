/-
  DERIVED. Set, Get and Drop of records, in plain words (P12.5).
-/
import Derived.Test.YtingpmgpjmlioaaGreatDoorShst
import Derived.Test.YtingpmgpjmlioaaGreatDoorShbm
import Derived.Test.YtingpmgpjmlioaaGreatDoorRuEr
import Derived.Test.YtingpmgpjmlioaaGreatDoorRuEi
import Derived.Test.YtingpmgpjmlioaaGreatDoorShe
namespace Go.Proofs.YtingpmgpjmlioaaGreatDoor
open Go.RowKit
set_option linter.unusedVariables false

theorem getA_getF (r : List Fld) (k : List UInt8) : getA r k = (getF r k).getD fld0 := rfl
theorem get_mem {L : List Fld} (h : Rising L) {g : Fld} (hg : g ∈ L) : getA L g.name = g ∧ hasF L g.name = true := by
  refine ⟨by rw [getA_getF, getF_once (rising_once h) hg]; rfl, ?_⟩
  unfold hasF
  rw [List.any_eq_true]
  exact ⟨g, hg, by simp⟩

theorem rising_lt {r : List Fld} (h : Rising r) {i j : Nat} {a b : Fld} (hij : i < j) (ha : r[i]? = some a) (hb : r[j]? = some b) : a.name < b.name := by
  obtain ⟨h1, e1⟩ := List.getElem?_eq_some_iff.1 ha
  obtain ⟨h2, e2⟩ := List.getElem?_eq_some_iff.1 hb
  rw [← e1, ← e2]
  exact List.pairwise_iff_getElem.1 h i j h1 h2 hij

/-- Around the place of a name. -/
theorem around {r : List Fld} (h : Rising r) (nm : List UInt8) : (∀ g ∈ r.take (atF r nm), g.name < nm) ∧ (∀ g ∈ r.drop (behF r nm), nm < g.name) := by
  cases hh : hasF r nm with
  | true =>
    obtain ⟨hl, hg⟩ := at_get hh
    have hn : (getA r nm).name = nm := by
      unfold hasF at hh
      rw [List.any_eq_true] at hh
      obtain ⟨f, hf, e⟩ := hh
      have := (get_mem h hf).1
      rw [beq_iff_eq.1 e] at this
      rw [this]; exact beq_iff_eq.1 e
    refine ⟨fun g hgm => ?_, fun g hgm => ?_⟩
    · obtain ⟨i, hi⟩ := List.mem_iff_getElem?.1 hgm
      have hil := (List.getElem?_eq_some_iff.1 hi).1
      rw [List.length_take] at hil
      rw [List.getElem?_take_of_lt (by omega)] at hi
      have := rising_lt h (show i < atF r nm by omega) hi hg
      rwa [hn] at this
    · obtain ⟨i, hi⟩ := List.mem_iff_getElem?.1 hgm
      rw [List.getElem?_drop] at hi
      have hb : behF r nm = atF r nm + 1 := by unfold behF; rw [hh]; rfl
      rw [hb] at hi
      have := rising_lt h (show atF r nm < atF r nm + 1 + i by omega) hg hi
      rwa [hn] at this
  | false =>
    have hno : ∀ f ∈ r, f.name ≠ nm := fun f hf e => by
      unfold hasF at hh
      rw [List.any_eq_false] at hh
      have := hh f hf
      simp [e] at this
    have hb : behF r nm = atF r nm := by unfold behF; rw [hh]; rfl
    have ha : atF r nm = r.findIdx (fun f => decide (nm < f.name)) := by
      have h1 : r.findIdx? (fun f => f.name == nm) = none := by
        rw [List.findIdx?_eq_none_iff]; intro f hf; simpa using hno f hf
      unfold atF; rw [h1]
    refine ⟨fun g hgm => ?_, fun g hgm => ?_⟩
    · obtain ⟨i, hi⟩ := List.mem_iff_getElem?.1 hgm
      have hil := (List.getElem?_eq_some_iff.1 hi).1
      rw [List.length_take] at hil
      rw [List.getElem?_take_of_lt (by omega)] at hi
      obtain ⟨hil2, e⟩ := List.getElem?_eq_some_iff.1 hi
      have hlt : i < r.findIdx (fun f => decide (nm < f.name)) := by rw [← ha]; omega
      have hnot := List.not_of_lt_findIdx hlt
      rw [e] at hnot
      have hnot' : ¬ nm < g.name := by simpa using hnot
      exact le_lt (List.not_lt.1 hnot') (hno g (List.mem_of_getElem? hi))
    · obtain ⟨i, hi⟩ := List.mem_iff_getElem?.1 hgm
      rw [List.getElem?_drop, hb, ha] at hi
      have hl : r.findIdx (fun f => decide (nm < f.name)) < r.length := by
        have := (List.getElem?_eq_some_iff.1 hi).1; omega
      have hq : nm < (r[r.findIdx (fun f => decide (nm < f.name))]).name := by
        have := List.findIdx_getElem (xs := r) (p := fun f => decide (nm < f.name)) (w := hl)
        simpa using this
      by_cases h0 : i = 0
      · subst h0
        obtain ⟨h1, e⟩ := List.getElem?_eq_some_iff.1 hi
        simp only [Nat.add_zero] at e
        rw [← e]; exact hq
      · exact List.lt_trans hq (rising_lt h (show r.findIdx (fun f => decide (nm < f.name)) < r.findIdx (fun f => decide (nm < f.name)) + i by omega) (List.getElem?_eq_getElem hl) hi)

theorem set_rising {r : List Fld} (h : Rising r) (f : Fld) : Rising (setF r f) := by
  obtain ⟨h1, h2⟩ := around h f.name
  unfold setF Rising
  refine List.pairwise_append.2 ⟨List.pairwise_append.2 ⟨h.sublist (List.take_sublist _ _), List.pairwise_singleton _ _, fun a ha b hb => by rw [List.mem_singleton.1 hb]; exact h1 a ha⟩, h.sublist (List.drop_sublist _ _), fun a ha b hb => ?_⟩
  rcases List.mem_append.1 ha with ha | ha
  · exact List.lt_trans (h1 a ha) (h2 b hb)
  · rw [List.mem_singleton.1 ha]; exact h2 b hb

theorem set_mem {r : List Fld} (h : Rising r) (f : Fld) {g : Fld} (hg : g ∈ r) (hne : g.name ≠ f.name) : g ∈ setF r f := by
  obtain ⟨h1, h2⟩ := around h f.name
  unfold setF
  obtain ⟨i, hi⟩ := List.mem_iff_getElem?.1 hg
  have hil := (List.getElem?_eq_some_iff.1 hi).1
  by_cases ha : i < atF r f.name
  · exact List.mem_append_left _ (List.mem_append_left _ (List.mem_iff_getElem?.2 ⟨i, by rw [List.getElem?_take_of_lt ha]; exact hi⟩))
  · by_cases hb : behF r f.name ≤ i
    · refine List.mem_append_right _ (List.mem_iff_getElem?.2 ⟨i - behF r f.name, ?_⟩)
      rw [List.getElem?_drop, show behF r f.name + (i - behF r f.name) = i by omega]; exact hi
    · cases hh : hasF r f.name with
      | false => unfold behF at hb; rw [hh] at hb; simp at hb; omega
      | true =>
        obtain ⟨_, hgt⟩ := at_get hh
        have he : i = atF r f.name := by unfold behF at hb; rw [hh] at hb; simp at hb; omega
        rw [he, hgt] at hi
        have hn : (getA r f.name).name = f.name := by
          unfold hasF at hh
          rw [List.any_eq_true] at hh
          obtain ⟨x, hx, e⟩ := hh
          have := (get_mem h hx).1
          rw [beq_iff_eq.1 e] at this
          rw [this]; exact beq_iff_eq.1 e
        cases hi
        exact absurd hn hne
theorem set_self (r : List Fld) (f : Fld) : f ∈ setF r f := by unfold setF; simp
theorem set_sub {r : List Fld} {f g : Fld} (h : g ∈ setF r f) : g ∈ r ∨ g = f := by
  unfold setF at h
  rcases List.mem_append.1 h with h | h
  · rcases List.mem_append.1 h with h | h
    · exact .inl (List.mem_of_mem_take h)
    · exact .inr (List.mem_singleton.1 h)
  · exact .inl (List.mem_of_mem_drop h)

/-- Set of a field that may be: a record, or one field too many. -/
theorem set_check {r : List Fld} {f : Fld} (hr : checkF r = 0) (hf : mayF f = 0) (hl : (setF r f).length ≤ 16) : checkF (setF r f) = 0 := by
  obtain ⟨h1, h2, h3⟩ := check_ok hr
  have hm : ∀ g ∈ setF r f, mayF g = 0 := fun g hg => by
    rcases set_sub hg with h | rfl
    · exact h2 g h
    · exact hf
  unfold checkF
  rw [if_neg (by omega)]
  exact chkL_of (set_rising h3 f) (fun g hg => nil_lt (nameB_len (may_ok (hm g hg)).1).1) hm

theorem set_len (r : List Fld) (f : Fld) : (setF r f).length ≤ r.length + 1 := by
  have := atF_le r f.name
  unfold setF; simp; omega

theorem drop_no {L : List Fld} (h : Rising L) (nm : List UInt8) : hasF (dropF L nm) nm = false := by
  obtain ⟨h1, h2⟩ := around h nm
  unfold hasF dropF
  rw [List.any_eq_false]
  intro g hg
  rcases List.mem_append.1 hg with hg | hg
  · have := h1 g hg
    simp only [beq_iff_eq]
    rintro e; rw [e] at this; exact List.lt_irrefl _ this
  · have := h2 g hg
    simp only [beq_iff_eq]
    rintro e; rw [e] at this; exact List.lt_irrefl _ this
theorem drop_len (L : List Fld) (nm : List UInt8) : (hasF L nm = true → (dropF L nm).length + 1 = L.length) ∧ (hasF L nm = false → (dropF L nm).length = L.length) := by
  have hle := atF_le L nm
  refine ⟨fun h => ?_, fun h => ?_⟩
  · have hb : behF L nm = atF L nm + 1 := by unfold behF; rw [h]; rfl
    unfold dropF; simp; omega
  · have hb : behF L nm = atF L nm := by unfold behF; rw [h]; rfl
    unfold dropF; simp; omega
end Go.Proofs.YtingpmgpjmlioaaGreatDoor

namespace Go.Proofs.YtingpmgpjmlioaaGreatDoor
open Go.RowKit
set_option linter.unusedVariables false

mutual
/-- Everywhere in an expression. -/
def allX (p : Ex → Bool) : Ex → Bool
  | .mk k n s args => p (.mk k n s args) && allXL p args
def allXL (p : Ex → Bool) : List Ex → Bool
  | [] => true
  | y :: r => allX p y && allXL p r
end
theorem allX_eq (p : Ex → Bool) (x : Ex) : allX p x = (p x && allXL p x.args) := by cases x; rw [allX]; rfl
theorem allXL_iff (p : Ex → Bool) : ∀ l : List Ex, allXL p l = true ↔ ∀ y ∈ l, allX p y = true
  | [] => by rw [allXL]; simp
  | y :: r => by rw [allXL, Bool.and_eq_true, allXL_iff p r]; simp
theorem allX_bfs {p : Ex → Bool} {e : Ex} (h : allX p e = true) : ∀ i, ∀ y ∈ bfsN e i, allX p y = true
  | 0 => fun y hy => by
    have : y = e := by simpa [bfsN] using hy
    rw [this]; exact h
  | i + 1 => fun y hy => by
    have ih := allX_bfs h i
    cases hx : (bfsN e i)[i]? with
    | none => rw [bfsN, hx] at hy; exact ih y hy
    | some x =>
      rw [bfs_some hx] at hy
      rcases List.mem_append.1 hy with hy | hy
      · exact ih y hy
      · have hh := ih x (List.mem_of_getElem? hx)
        rw [allX_eq, Bool.and_eq_true] at hh
        exact (allXL_iff p _).1 hh.2 y (List.mem_of_mem_take hy)
theorem nodes_all {e : Ex} (p : Ex → Bool) (hl : (nodesX e).length ≤ 64) : (nodesX e).all p = true ↔ allX p e = true := by
  constructor
  · intro h
    have key : ∀ n, ∀ x, SizeOf.sizeOf x ≤ n → x ∈ nodesX e → allX p x = true := by
      intro n
      induction n with
      | zero => intro x hx _; cases x; simp only [Ex.mk.sizeOf_spec] at hx; omega
      | succ n ih =>
        intro x hx hm
        obtain ⟨i, hi⟩ := List.mem_iff_getElem?.1 hm
        rw [allX_eq, Bool.and_eq_true]
        refine ⟨List.all_eq_true.1 h x hm, (allXL_iff p _).2 fun y hy => ih y ?_ (bfs_args hl hi y hy)⟩
        have := args_lt hy
        omega
    refine key _ e (Nat.le_refl _) ?_
    obtain ⟨t, ht⟩ := bfs_mono e 0 65
    unfold nodesX
    rw [Nat.zero_add] at ht
    rw [ht]
    simp [bfsN]
  · intro h
    refine List.all_eq_true.2 fun y hy => ?_
    have := allX_bfs h 65 y hy
    rw [allX_eq, Bool.and_eq_true] at this
    exact this.1

/-- Numbers are of this machine. -/
def numB (x : Ex) : Bool := decide (-9223372036854775808 ≤ x.n ∧ x.n ≤ 9223372036854775807)
theorem ExAt.num {w : World} {x : Ex} {a : Option Addr} {c : Nat} (h : ExAt w x a c) : allX numB x = true := by
  induction h with
  | mk x a c b off A C h1 h2 h3 hk hn hs hc hr ih =>
    rw [allX_eq, Bool.and_eq_true]
    refine ⟨by unfold numB; rw [decide_eq_true_eq]; exact hn, (allXL_iff _ _).2 fun y hy => ?_⟩
    obtain ⟨i, hi, rfl⟩ := List.mem_iff_getElem.1 hy
    exact ih i hi

/-- A value as it may be. -/
def okW (f : Fld) : Prop := (f.text = true → f.n = 0 ∧ f.s.length ≤ 200) ∧ (f.text = false → f.s = []) ∧ I64 f.n
theorem okW.val {f : Fld} (h : okW f) (nm : List UInt8) : valB ⟨nm, f.text, f.n, f.s⟩ = true := by
  unfold valB
  simp only
  cases ht : f.text with
  | true =>
    obtain ⟨h1, h2⟩ := h.1 ht
    simp [h1, h2]
  | false => simp [h.2.1 ht]
theorem okW.small {f : Fld} (h : okW f) (nm : List UInt8) : Go.Proofs.YtingpmgpjmlioaaGreatDoor.small ⟨nm, f.text, f.n, f.s⟩ := by
  refine ⟨?_, h.2.2⟩
  show f.s.length ≤ _
  cases ht : f.text with
  | true => have := (h.1 ht).2; omega
  | false => rw [h.2.1 ht]; simp
theorem okW_of {f : Fld} (h : mayF f = 0) (hs : small f) : okW f := by
  obtain ⟨_, hv⟩ := may_ok h
  unfold valB at hv
  refine ⟨fun ht => ?_, fun ht => ?_, hs.2⟩
  · rw [if_pos ht] at hv; simpa using hv
  · rw [if_neg (by simp [ht])] at hv; simpa using hv

theorem evalX_okW {S : Sc} (hst : S.stream.length ≤ 200) (hS : ∀ f ∈ S.state, okW f) (hG : ∀ f ∈ S.given, okW f) : ∀ (n : Nat) (x : Ex), SizeOf.sizeOf x ≤ n → allX shortX x = true → allX numB x = true → ∀ f, evalX S x = .ok f → okW f := by
  intro n
  induction n with
  | zero => intro x hx; cases x; simp only [Ex.mk.sizeOf_spec] at hx; omega
  | succ n ih =>
    intro x hx hsh hnu f he
    rw [allX_eq, Bool.and_eq_true] at hsh hnu
    have hL : ∀ (l : List Ex), (∀ y ∈ l, y ∈ x.args) → ∀ fs, evalL S l = .ok fs → ∀ g ∈ fs, okW g := by
      intro l
      induction l with
      | nil => intro _ fs h g hg; rw [evalL] at h; cases h; cases hg
      | cons y r ihr =>
        intro hm fs h g hg
        rw [evalL_cons] at h
        have hy := hm y (by simp)
        cases hv : evalX S y with
        | error e2 => rw [hv] at h; cases h
        | ok u =>
          rw [hv] at h
          simp only at h
          cases hl : evalL S r with
          | error e2 => rw [hl] at h; cases h
          | ok us =>
            rw [hl] at h
            simp only at h
            cases h
            rcases List.mem_cons.1 hg with rfl | hg
            · exact ih y (by have := args_lt hy; omega) ((allXL_iff _ _).1 hsh.2 y hy) ((allXL_iff _ _).1 hnu.2 y hy) _ hv
            · exact ihr (fun z hz => hm z (by simp [hz])) us hl g hg
    rw [evalX_eq] at he
    cases hl : evalL S x.args with
    | error e2 => rw [hl] at he; cases he
    | ok fs =>
      rw [hl] at he
      simp only at he
      have hfs := hL x.args (fun y hy => hy) fs hl
      have hxn : I64 x.n := by have := hnu.1; unfold numB at this; rw [decide_eq_true_eq] at this; exact this
      have hxs : x.kind = 2 → x.s.length ≤ 200 := fun h => by
        have := hsh.1
        unfold shortX at this
        rw [h] at this
        simp at this
        omega
      unfold opX at he
      split at he
      · cases he; exact ⟨fun h => by simp at h, fun _ => rfl, hxn⟩
      · split at he
        · rename_i h2
          cases he
          exact ⟨fun _ => ⟨rfl, hxs h2⟩, fun h => by simp at h, zero64⟩
        · split at he
          · obtain ⟨L, hLe⟩ : ∃ L, L = (if x.kind = 3 then S.state else S.given) := ⟨_, rfl⟩
            have hLo : ∀ f ∈ L, okW f := by
              rw [hLe]
              by_cases h3 : x.kind = 3
              · rw [if_pos h3]; exact hS
              · rw [if_neg h3]; exact hG
            rw [← hLe] at he
            cases hh : hasF L x.s with
            | true =>
              rw [hh, if_pos rfl] at he
              cases he
              have hw : okW (getA L x.s) := hLo _ (List.mem_of_getElem? (at_get hh).2)
              exact hw
            | false => rw [hh, if_neg (by simp)] at he; cases he
          · split at he
            · cases he
              exact ⟨fun _ => ⟨rfl, hst⟩, fun h => by simp at h, zero64⟩
            · split at he
              · cases he
              · rename_i a r
                have ha := hfs a (by simp)
                split at he
                · split at he
                  · rename_i ht
                    cases he
                    refine ⟨fun h => by simp at h, fun _ => rfl, ?_, ?_⟩
                    · show _ ≤ (a.s.length : Int); omega
                    · have := (ha.1 ht).2; show (a.s.length : Int) ≤ _; omega
                  · cases he
                · split at he
                  · split at he
                    · cases he
                    · cases he
                      exact ⟨fun _ => ⟨rfl, by have := itoa_short ha.2.2; show (Lib.itoa a.n).length ≤ 200; omega⟩, fun h => by simp at h, zero64⟩
                  · split at he
                    · cases he
                    · rename_i b r2
                      split at he
                      · split at he
                        · split at he
                          · cases he
                          · rename_i hle
                            cases he
                            exact ⟨fun _ => ⟨rfl, by show (a.s ++ b.s).length ≤ 200; rw [List.length_append]; omega⟩, fun h => by simp at h, zero64⟩
                        · cases he
                      · split at he
                        · cases he
                        · split at he
                          · rename_i hin
                            cases he
                            have := inB_iff.1 hin
                            exact ⟨fun h => by simp at h, fun _ => rfl, by show _ ≤ opZ _ _ _; omega, by show opZ _ _ _ ≤ _; omega⟩
                          · cases he

/-- An expression that Check takes and that lies in memory has values as they may be. -/
theorem evalE_okW {st : List UInt8} {l m : List Fld} {x : Ex} {f : Fld} (hst : st.length ≤ 200) (hl : ∀ f ∈ l, okW f) (hm : ∀ f ∈ m, okW f) (hb : badFormX x = false) (hn : allX numB x = true) (h : evalE st l m x = .ok f) : okW f := by
  unfold badFormX at hb
  rw [Bool.or_eq_false_iff] at hb
  have hf : formX x = true := by simpa using hb.1
  have hlen : (nodesX x).length ≤ 64 := by unfold formX at hf; simp at hf; exact hf.2
  have hs : allX shortX x = true := by
    rw [← nodes_all shortX hlen, List.all_eq_true]
    intro y hy
    have := List.any_eq_false.1 hb.2 y hy
    unfold shortX
    simp only [Bool.not_eq_true] at this
    rw [this]; rfl
  unfold evalE evalA at h
  rw [hf, if_pos rfl] at h
  exact evalX_okW hst hl hm _ x (Nat.le_refl _) hs hn f h

/-- A record, its texts and numbers of this machine. -/
def RecW (l : List Fld) : Prop := checkF l = 0 ∧ ∀ f ∈ l, small f
theorem RecW.ok {l : List Fld} (h : RecW l) : ∀ f ∈ l, okW f := fun f hf => okW_of ((check_ok h.1).2.1 f hf) (h.2 f hf)
theorem RecW.len {l : List Fld} (h : RecW l) : l.length ≤ 16 := (check_ok h.1).1
theorem RecW.fits {l : List Fld} (h : RecW l) : ∀ f ∈ l, Go.Proofs.YtingpmgpjmlioaaGreatDoor.fits f := fun f hf => by
  have h1 := nameB_len (may_ok ((check_ok h.1).2.1 f hf)).1
  have h2 := h.2 f hf
  exact ⟨by omega, by have := h2.1; omega, h2.2.1, h2.2.2⟩
theorem RecW.nil : RecW [] := ⟨rfl, fun f hf => by cases hf⟩
theorem RecW.sub {l r : List Fld} (h : RecW l) (hs : r.Sublist l) : RecW r := by
  obtain ⟨h1, h2, h3⟩ := check_ok h.1
  refine ⟨?_, fun f hf => h.2 f (hs.subset hf)⟩
  unfold checkF
  rw [if_neg (by have := hs.length_le; omega)]
  have h3' : Rising r := List.Pairwise.sublist hs h3
  exact chkL_of h3' (fun f hf => nil_lt (nameB_len (may_ok (h2 f (hs.subset hf))).1).1) (fun f hf => h2 f (hs.subset hf))
theorem drop_sub (L : List Fld) (nm : List UInt8) : (dropF L nm).Sublist L := by
  unfold dropF
  have h1 : L.take (atF L nm) ++ L.drop (behF L nm) = L.take (atF L nm) ++ (L.drop (atF L nm)).drop (behF L nm - atF L nm) := by
    rw [List.drop_drop]
    congr 2
    have : atF L nm ≤ behF L nm := by unfold behF; split <;> omega
    omega
  rw [h1]
  conv => rhs; rw [← List.take_append_drop (atF L nm) L]
  exact List.Sublist.append (List.Sublist.refl _) (List.drop_sublist _ _)
theorem RecW.set {l : List Fld} {nm : List UInt8} {f : Fld} (h : RecW l) (hn : nameB nm = true) (hf : okW f) (hl : (setF l ⟨nm, f.text, f.n, f.s⟩).length ≤ 16) : RecW (setF l ⟨nm, f.text, f.n, f.s⟩) := by
  refine ⟨set_check h.1 (mayF_ok hn (hf.val nm)) hl, fun g hg => ?_⟩
  rcases set_sub hg with hg | rfl
  · exact h.2 g hg
  · exact hf.small nm

/-- What Check says of an Assign. -/
def goodA (a : As) : Prop := nameB a.nm = true ∧ badFormX a.e = false ∧ allX numB a.e = true
theorem setR_rec {st : List UInt8} {l m cur : List Fld} {a : As} (hst : st.length ≤ 200) (hl : RecW l) (hm : RecW m) (hc : RecW cur) (ha : goodA a) : RecW (setR st l m cur a) := by
  unfold setR
  cases h : evalE st l m a.e with
  | error e => exact hc
  | ok f =>
    simp only
    have hf := evalE_okW hst hl.ok hm.ok ha.2.1 ha.2.2 h
    split
    · rename_i h16
      exact hc.set ha.1 hf h16
    · exact hc
theorem sets_recG {step : List Fld → As → List Fld} (hs : ∀ cur a, RecW cur → goodA a → RecW (step cur a)) (zs : List As) : ∀ (cur : List Fld), RecW cur → (∀ a ∈ zs, goodA a) → RecW (zs.foldl step cur) := by
  induction zs with
  | nil => intro cur hc _; exact hc
  | cons a r ih => intro cur hc ha; exact ih _ (hs _ _ hc (ha a (by simp))) (fun b hb => ha b (by simp [hb]))
theorem sets_rec {st : List UInt8} {l m : List Fld} (hst : st.length ≤ 200) (hl : RecW l) (hm : RecW m) (zs : List As) (cur : List Fld) (hc : RecW cur) (ha : ∀ a ∈ zs, goodA a) : RecW (zs.foldl (setR st l m) cur) :=
  sets_recG (fun cur a h1 h2 => setR_rec hst hl hm h1 h2) zs cur hc ha
theorem drops_rec : ∀ (ds : List (List UInt8)) (cur : List Fld), RecW cur → RecW (ds.foldl dropF cur)
  | [], cur, hc => hc
  | d :: r, cur, hc => drops_rec r _ (hc.sub (drop_sub cur d))
/-- Fold keeps records. -/
theorem fold_rec {vs : List Evo} {st : List UInt8} {l m : List Fld} {t : List UInt8} (hst : st.length ≤ 200) (hl : RecW l) (hm : RecW m) (hg : ∀ v ∈ vs, ∀ a ∈ v.sets, goodA a) : RecW (foldR vs st l t m) := by
  unfold foldR
  cases h : vs.find? (fun v => v.type == t) with
  | none => exact hl
  | some v => exact drops_rec _ _ (sets_rec hst hl hm _ _ hl (hg v (List.mem_of_find?_eq_some h)))

theorem setsG_recG {ev : Ex → Except Int Fld} (hev : ∀ a, goodA a → ∀ f, ev a.e = .ok f → okW f) (zs : List As) : ∀ (acc fs : List Fld), acc.length + zs.length ≤ 16 → RecW acc → (∀ a ∈ zs, goodA a) → setsG ev acc zs = .ok fs → RecW fs := by
  induction zs with
  | nil => intro acc fs _ hc _ h; rw [setsG] at h; cases h; exact hc
  | cons a r ih =>
    intro acc fs hn hc ha h
    cases hv : ev a.e with
    | error e => rw [setsG_bad hv] at h; cases h
    | ok f =>
      rw [setsG_ok hv] at h
      have hga := ha a (by simp)
      have hle := set_len acc ⟨a.nm, f.text, f.n, f.s⟩
      simp only [List.length_cons] at hn
      exact ih _ fs (by omega) (hc.set hga.1 (hev a hga f hv) (by omega)) (fun b hb => ha b (by simp [hb])) h
theorem setsG_rec {st : List UInt8} {l m : List Fld} (hst : st.length ≤ 200) (hl : RecW l) (hm : RecW m) (zs : List As) (acc fs : List Fld) (hn : acc.length + zs.length ≤ 16) (hc : RecW acc) (ha : ∀ a ∈ zs, goodA a) (h : setsG (evalE st l m) acc zs = .ok fs) : RecW fs :=
  setsG_recG (fun a hg f hf => evalE_okW hst hl.ok hm.ok hg.2.1 hg.2.2 hf) zs acc fs hn hc ha h
theorem eventsG_mem {mv : Em → Except Int EvM} : ∀ (l : List Em) (vs : List EvM), eventsG mv l = .ok vs → vs.length = l.length ∧ ∀ v ∈ vs, ∃ m ∈ l, mv m = .ok v
  | [], vs, h => by rw [eventsG] at h; cases h; exact ⟨rfl, fun v hv => by cases hv⟩
  | m :: r, vs, h => by
    rw [eventsG] at h
    cases hm : mv m with
    | error e => rw [hm] at h; cases h
    | ok v =>
      rw [hm] at h
      simp only at h
      cases hr : eventsG mv r with
      | error e => rw [hr] at h; cases h
      | ok us =>
        rw [hr] at h
        simp only at h
        cases h
        obtain ⟨h1, h2⟩ := eventsG_mem r us hr
        refine ⟨by simp [h1], fun u hu => ?_⟩
        rcases List.mem_cons.1 hu with rfl | hu
        · exact ⟨m, by simp, hm⟩
        · obtain ⟨x, hx, e⟩ := h2 u hu
          exact ⟨x, by simp [hx], e⟩
theorem decideG_mem {al : List Cd → Except Int Bool} {out : Cs → Except Int Dc} : ∀ (l : List Cs) (d : Dc), decideG al out l = .ok d → d = ⟨true, noCaseT, []⟩ ∨ ∃ c ∈ l, out c = .ok d
  | [], d, h => by rw [decideG] at h; cases h; exact .inl rfl
  | c :: r, d, h => by
    rw [decideG] at h
    cases ha : al c.whn with
    | error e => rw [ha] at h; cases h
    | ok b =>
      rw [ha] at h
      cases b with
      | true => exact .inr ⟨c, by simp, h⟩
      | false =>
        rcases decideG_mem r d h with e | ⟨x, hx, e⟩
        · exact .inl e
        · exact .inr ⟨x, by simp [hx], e⟩
/-- What Check says of a Case's emits. -/
def goodC (c : Cs) : Prop := c.emits.length ≤ 16 ∧ ∀ m ∈ c.emits, nameB m.type = true ∧ m.sets.length ≤ 16 ∧ ∀ a ∈ m.sets, goodA a
/-- A decision's events are records. -/
theorem dec_rec {st : List UInt8} {l m : List Fld} {hs : List Ha} {cmd : List UInt8} {d : Dc} (hst : st.length ≤ 200) (hl : RecW l) (hm : RecW m) (hg : ∀ h ∈ hs, ∀ c ∈ h.cases, goodC c) (h : decE st l m hs cmd = .ok d) : (d.refused = true ∧ d.events = []) ∨ (d.refused = false ∧ 0 < d.events.length ∧ d.events.length ≤ 16 ∧ ∀ e ∈ d.events, nameB e.type = true ∧ RecW e.fields) := by
  cases hf : hs.find? (fun x => x.cmd == cmd) with
  | none =>
    unfold decE decR handR at h
    rw [hf] at h
    cases h
  | some x =>
    obtain ⟨hp, k, hk, rfl, hmin⟩ := List.find?_eq_some_iff_getElem.1 hf
    rw [dec_some (k := k) (x := hs[k]) (fun j hj u hu => by
      obtain ⟨hjl, rfl⟩ := List.getElem?_eq_some_iff.1 hu
      simpa using hmin j hj) (List.getElem?_eq_getElem hk) (by simpa using hp)] at h
    split at h
    · rcases decideG_mem _ _ h with rfl | ⟨c, hc, ho⟩
      · exact .inl ⟨rfl, rfl⟩
      · have hgc := hg _ (List.getElem_mem hk) c hc
        unfold outG at ho
        split at ho
        · cases ho; exact .inl ⟨rfl, rfl⟩
        · rename_i hne
          cases hE : eventsG (madeP st l m) c.emits with
          | error e => rw [hE] at ho; cases ho
          | ok vs =>
            rw [hE] at ho
            cases ho
            obtain ⟨h1, h2⟩ := eventsG_mem _ _ hE
            refine .inr ⟨rfl, ?_, ?_, fun e he => ?_⟩
            · show 0 < vs.length
              rw [h1]
              exact List.length_pos_iff.2 hne
            · show vs.length ≤ 16
              rw [h1]; exact hgc.1
            · obtain ⟨x, hx, hmv⟩ := h2 e he
              obtain ⟨g1, g2, g3⟩ := hgc.2 x hx
              unfold madeP at hmv
              cases hsg : setsG (evalE st l m) [] x.sets with
              | error e => rw [hsg] at hmv; cases hmv
              | ok fs =>
                rw [hsg] at hmv
                cases hmv
                exact ⟨g1, setsG_rec hst hl hm x.sets [] fs (by simpa using g2) RecW.nil g3 hsg⟩
    · cases h

/-- What Check takes. -/
theorem check_good {hs : List Ha} {vs : List Evo} (h : checkT hs vs = 0) (hn1 : ∀ x ∈ hs, ∀ c ∈ x.cases, ∀ m ∈ c.emits, ∀ a ∈ m.sets, allX numB a.e = true) (hn2 : ∀ v ∈ vs, ∀ a ∈ v.sets, allX numB a.e = true) : (∀ h ∈ hs, ∀ c ∈ h.cases, goodC c) ∧ ∀ v ∈ vs, ∀ a ∈ v.sets, goodA a := by
  unfold checkT at h
  cases h1 : tooManyR hs vs with
  | true => rw [h1] at h; simp at h
  | false =>
    cases h2 : misnamedR hs vs with
    | true => rw [h1, h2] at h; simp at h
    | false =>
      cases h3 : misformedR hs vs with
      | true => rw [h1, h2, h3] at h; simp at h
      | false =>
        unfold tooManyR at h1
        unfold misnamedR at h2
        unfold misformedR at h3
        simp only [Bool.or_eq_false_iff, List.any_eq_false] at h1 h2 h3
        obtain ⟨⟨⟨⟨⟨⟨_, _⟩, _⟩, m4⟩, m5⟩, m6⟩, m7⟩ := h1
        obtain ⟨⟨⟨⟨⟨_, _⟩, _⟩, n4⟩, n5⟩, n6⟩ := h2
        obtain ⟨⟨_, _⟩, f3⟩ := h3
        have hbf : ∀ a ∈ setsP hs vs, badFormX a.e = false := fun a ha => by
          have := f3 a.e (by unfold exprsP; exact List.mem_append_right _ (List.mem_map_of_mem ha))
          simpa using this
        refine ⟨fun x hx c hc => ?_, fun v hv a ha => ?_⟩
        · have hcP : c ∈ casesP hs := List.mem_flatMap.2 ⟨x, hx, hc⟩
          refine ⟨?_, fun m hm => ?_⟩
          · have := m4 c hcP
            simp at this
            omega
          · have hmP : m ∈ emitsP hs := List.mem_flatMap.2 ⟨c, hcP, hm⟩
            have q1 := m5 m hmP
            have q2 := n4 m hmP
            simp at q1 q2
            refine ⟨q2.1, by omega, fun a ha => ⟨?_, hbf a (by unfold setsP; exact List.mem_append_left _ (List.mem_flatMap.2 ⟨m, hmP, ha⟩)), hn1 x hx c hc m hm a ha⟩⟩
            have := q2.2
            unfold apartT at this
            simp at this
            exact this.1 a ha
        · have q := n5 v hv
          simp at q
          exact ⟨q.1 a ha, hbf a (by unfold setsP; exact List.mem_append_right _ (List.mem_flatMap.2 ⟨v, hv, ha⟩)), hn2 v hv a ha⟩
end Go.Proofs.YtingpmgpjmlioaaGreatDoor

namespace Go.Proofs.YtingpmgpjmlioaaGreatDoor
open Go.RowKit
set_option linter.unusedVariables false

theorem small_no {c : UInt8} (h : smallB c = false) : (c.toNat : Int) < 97 ∨ (¬ (c.toNat : Int) < 97 ∧ (122 : Int) < c.toNat) := by
  unfold smallB at h; simp at h; omega
theorem small_yes {c : UInt8} (h : smallB c = true) : ¬ (c.toNat : Int) < 97 ∧ ¬ (122 : Int) < c.toNat := by
  unfold smallB at h; simp at h; omega
theorem digit_no {c : UInt8} (h : digitB c = false) : (c.toNat : Int) < 48 ∨ (¬ (c.toNat : Int) < 48 ∧ (57 : Int) < c.toNat) := by
  unfold digitB at h; simp at h; omega
theorem digit_yes {c : UInt8} (h : digitB c = true) : ¬ (c.toNat : Int) < 48 ∧ ¬ (57 : Int) < c.toNat := by
  unfold digitB at h; simp at h; omega
theorem cap_no {c : UInt8} (h : capB c = false) : (c.toNat : Int) < 65 ∨ (¬ (c.toNat : Int) < 65 ∧ (90 : Int) < c.toNat) := by
  unfold capB at h; simp at h; omega
theorem cap_yes {c : UInt8} (h : capB c = true) : ¬ (c.toNat : Int) < 65 ∧ ¬ (90 : Int) < c.toNat := by
  unfold capB at h; simp at h; omega

set_option maxHeartbeats 4000000 in
theorem rName_any (s : List UInt8) (w : World) (hs : s.length ≤ 9223372036854775807) :
    Calls Tryz.prog 12 #[sv s] w fun e w' => e = .returned (.bool (nameB s)) ∧ w = w' := by
  rcases s with _ | ⟨c, r⟩
  · go_enter Tryz.func12, Tryz.ntmps12
    go_wp2_with fail
    go_ret
    exact ⟨rfl, rfl⟩
  · obtain ⟨s, hse⟩ : ∃ s, s = c :: r := ⟨_, rfl⟩
    have hh : nameB s = (smallB c && decide (s.length ≤ 32) && s.all nchB) := by subst hse; rfl
    have h0 := byte_at (s := s) (k := 0) (c := c) (by rw [hse]; rfl)
    rw [← hse] at hs ⊢
    have hpos : ¬ (s.length : Int) < 1 := by rw [hse]; simp; omega
    have hpos0 : 0 < s.length := by rw [hse]; simp
    have hcl := c.toNat_lt
    clear hse
    rw [hh]
    clear hh
    by_cases h32 : s.length ≤ 32
    · have h32' : ¬ (32 : Int) < s.length := by omega
      cases hsm : smallB c with
      | false =>
        rcases small_no hsm with hq | ⟨hq, hq'⟩
        all_goals
          clear hsm
          go_enter Tryz.func12, Tryz.ntmps12
          go_wp2_with fail
          go_ret
          exact ⟨rfl, rfl⟩
      | true =>
        rw [decide_eq_true h32, Bool.true_and, Bool.true_and]
        obtain ⟨hq, hq'⟩ := small_yes hsm
        clear hsm
        go_enter Tryz.func12, Tryz.ntmps12
        go_wp2_with fail
        clear hq hq' h0
        go_loopw [3, 4] (fun i _ wr => ∃ k : Nat, k ≤ s.length ∧ i = .int .i64 k ∧ Hid ((s.take k).all nchB = true) ∧ Hid (wr = w)) (fun i _ _ => s.length - (intOf i).toNat)
        case atStart => exact ⟨0, by omega, rfl, hide rfl, hide rfl⟩
        case round =>
          obtain ⟨k, hk, rfl, HA, HW⟩ := hrel
          by_cases hlt : k < s.length
          · obtain ⟨d, hd⟩ : ∃ d, s[k]? = some d := ⟨_, List.getElem?_eq_getElem hlt⟩
            have HD := hide hd
            have hB := byte_at hd
            have hdl := d.toNat_lt
            clear hd
            cases h1 : smallB d with
            | true =>
              have HA' := hide (all_take_succ (unhide HD) (nch_small h1) (unhide HA))
              obtain ⟨g1, g2⟩ := small_yes h1
              clear h1
              go_wp2_with fail
              go_roundw
              case rel => exact ⟨k + 1, by omega, by go_num, HA', HW⟩
              case measure => simp [intOf]; omega
            | false =>
              cases h2 : digitB d with
              | true =>
                have HA' := hide (all_take_succ (unhide HD) (nch_digit h2) (unhide HA))
                obtain ⟨g1, g2⟩ := digit_yes h2
                have g3 : (d.toNat : Int) < 97 := by omega
                clear h1 h2
                go_wp2_with fail
                go_roundw
                case rel => exact ⟨k + 1, by omega, by go_num, HA', HW⟩
                case measure => simp [intOf]; omega
              | false =>
                by_cases h3 : d.toNat = 95
                · have HA' := hide (all_take_succ (unhide HD) (nch_mark h3) (unhide HA))
                  have hq : ((d.toNat : Int) != 95) = false := by simp; omega
                  have g1 : (d.toNat : Int) < 97 := by omega
                  have g2 : ¬ (d.toNat : Int) < 48 := by omega
                  have g3 : (57 : Int) < d.toNat := by omega
                  clear h1 h2 h3
                  go_wp2_with fail
                  go_roundw
                  case rel => exact ⟨k + 1, by omega, by go_num, HA', HW⟩
                  case measure => simp [intOf]; omega
                · have HF := hide (all_false (unhide HD) (nch_no h1 h2 h3))
                  have hq : ((d.toNat : Int) != 95) = true := by simp; omega
                  have g1 := small_no h1
                  have g2 := digit_no h2
                  clear h1 h2 h3
                  rcases g1 with g1 | ⟨g1, g1'⟩ <;> rcases g2 with g2 | ⟨g2, g2'⟩
                  all_goals first | (exfalso; omega) | skip
                  all_goals
                    go_wp2_with fail
                    go_ret
                    rw [unhide HF]
                    exact ⟨rfl, (unhide HW).symm⟩
          · have HF : Hid (s.all nchB = true) := hide (by have := unhide HA; rwa [List.take_of_length_le (by omega)] at this)
            go_wp2_with fail
            go_ret
            rw [unhide HF]
            exact ⟨rfl, (unhide HW).symm⟩
    · rw [decide_eq_false h32, Bool.and_false, Bool.false_and]
      have h32' : (32 : Int) < s.length := by omega
      go_enter Tryz.func12, Tryz.ntmps12
      go_wp2_with fail
      go_ret
      exact ⟨rfl, rfl⟩

theorem plain_split (c : UInt8) : plainB c = true ↔ (smallB c = true ∨ capB c = true ∨ digitB c = true ∨ markB c = true) := by
  unfold plainB
  simp only [Bool.or_eq_true]
  exact ⟨fun h => by rcases h with ((h | h) | h) | h <;> simp [h], fun h => by rcases h with h | h | h | h <;> simp [h]⟩

end Go.Proofs.YtingpmgpjmlioaaGreatDoor
