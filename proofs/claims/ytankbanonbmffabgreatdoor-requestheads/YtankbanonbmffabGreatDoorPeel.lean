/-
  DERIVED. A region that draws its order and whose last operation waits for all others: it is the region without that one, and that one behind it. So a condition that the last operation breaks may be held through the others.
-/
import Derived.Test.YtankbanonbmffabGreatDoorProg
import Derived.Deep.RegionHeld3
namespace Go.Proofs.YtankbanonbmffabGreatDoor
open Go

/-- What is asked behind the others: that the last one goes well. -/
def peelQ (P : Program) (L : Oper) (Q : Exit → Act → World → Prop) : Exit → Act → World → Prop
  | .normal, a, w => L.wp P a w (fun a' w' => Q .normal a' w') Q
  | .exit i, a, w => Q (.exit i) a w
  | .goto l, a, w => Q (.goto l) a w
  | .ret, a, w => Q .ret a w
  | .panic c, a, w => Q (.panic c) a w
  | .outgrown, a, w => Q .outgrown a w

theorem peel_upon {P : Program} {L o : Oper} {Q : Exit → Act → World → Prop} {a : Act} {w : World} {K K' : Act → World → Prop} (hK : ∀ a w, K a w → K' a w) (h : o.wp P a w K (peelQ P L Q)) : o.wp P a w K' Q := by
  unfold Oper.wp at *
  generalize (execOp a.eval o).run P w = r at *
  cases r with
  | ok n w' =>
    cases n <;> simp only [Oper.upon] at h ⊢
    case value u => exact hK _ _ h
    case skip => exact hK _ _ h
    case defer d => exact hK _ _ h
    case enter f args =>
      refine Calls.mono h fun e w'' he => ?_
      cases e with
      | returned u => exact hK _ _ he
      | panicked c => exact he
      | outgrown => obtain ⟨a, w, h⟩ := he; exact ⟨a, w, h⟩
    case row row args => exact Rows.mono h fun u w'' he => hK _ _ he
  | halt x w' =>
    cases x <;> simp only [Oper.upon] at h ⊢
    case panic u => exact h

/-- No guard, no operation that waits for itself or for a later one; each is waited for by the last one, or by another one. -/
def peels (md : Region.Mode) (ops : Array Oper) (L : Oper) : Bool :=
  L.guard.isNone && (List.range ops.size).all (fun j => match ops[j]? with
    | none => false
    | some o => o.guard.isNone && o.after.all (fun e => decide (e.on < j)) && (L.after.any (fun e => Region.binds md e && e.on == j) || (List.range ops.size).any (fun k => (match ops[k]? with | none => false | some o2 => o2.after.any (fun e2 => Region.binds md e2 && e2.on == j))))) && L.after.all (fun e => decide (e.on < ops.size))

theorem getD_push_lt {l : Array Bool} {b d : Bool} {j : Nat} (h : j < l.size) : (l.push b).getD j d = l.getD j d := by
  simp [Array.getElem?_push, Nat.ne_of_lt h]

theorem least_false {l : Array Bool} : ∀ n, n ≤ l.size → (∃ j, j < n ∧ l.getD j true = false) → ∃ j, j < n ∧ l.getD j true = false ∧ ∀ i, i < j → l.getD i false = true
  | 0, _, h => by obtain ⟨j, hj, _⟩ := h; omega
  | n + 1, hn, h => by
    by_cases hx : ∃ j, j < n ∧ l.getD j true = false
    · obtain ⟨j, h1, h2, h3⟩ := least_false n (by omega) hx
      exact ⟨j, by omega, h2, h3⟩
    · obtain ⟨j, hj, hf⟩ := h
      obtain rfl : j = n := by
        rcases Nat.lt_or_ge j n with h' | h'
        · exact absurd ⟨j, h', hf⟩ hx
        · omega
      refine ⟨j, hj, hf, fun i hi => ?_⟩
      cases hg : l.getD i true with
      | false => exact absurd ⟨i, hi, hg⟩ hx
      | true =>
        have : i < l.size := by omega
        simp [this] at hg ⊢
        exact hg

theorem peel_any {P : Program} {md : Region.Mode} {ops : Array Oper} {L : Oper} {Q : Exit → Act → World → Prop} (hp : peels md ops L = true) :
    ∀ (fuel : Nat) (l : Array Bool) (a : Act) (w : World), l.size = ops.size → (∀ i o, ops[i]? = some o → l.getD i false = true → ∀ e ∈ o.after, Region.binds md e = true → l.getD e.on false = true) → wpAny P md ops (peelQ P L Q) fuel l a w → wpAny P md (ops.push L) Q (fuel + 1) (l.push false) a w := by
  unfold peels at hp
  simp only [Bool.and_eq_true, Option.isNone_iff_eq_none, List.all_eq_true, List.mem_range, Array.all_eq_true_iff_forall_mem, decide_eq_true_eq] at hp
  obtain ⟨⟨hLg, hall⟩, hLa⟩ := hp
  have hops : ∀ j o, ops[j]? = some o → o.guard = none ∧ (∀ e ∈ o.after, e.on < j) ∧ ((∃ e ∈ L.after, Region.binds md e = true ∧ e.on = j) ∨ ∃ (k : Nat) (o2 : Oper), ops[k]? = some o2 ∧ ∃ e2 ∈ o2.after, Region.binds md e2 = true ∧ e2.on = j) := fun j o ho => by
    have hj : j < ops.size := (Array.getElem?_eq_some_iff.1 ho).1
    have h := hall j hj
    rw [ho] at h
    simp only [Bool.and_eq_true, Option.isNone_iff_eq_none, Array.all_eq_true_iff_forall_mem, decide_eq_true_eq, Bool.or_eq_true, Array.any_eq_true, beq_iff_eq] at h
    refine ⟨h.1.1, h.1.2, ?_⟩
    rcases h.2 with ⟨i, hi, h2, h3⟩ | h3
    · exact .inl ⟨L.after[i], Array.getElem_mem hi, h2, h3⟩
    · obtain ⟨k0, _, h3⟩ := List.any_eq_true.1 h3
      refine .inr ⟨k0, ?_⟩
      cases ho2 : ops[k0]? with
      | none => rw [ho2] at h3; cases h3
      | some o2 =>
        rw [ho2] at h3
        simp only [Array.any_eq_true, Bool.and_eq_true, beq_iff_eq] at h3
        obtain ⟨k, hk, h4, h5⟩ := h3
        exact ⟨o2, rfl, o2.after[k], Array.getElem_mem hk, h4, h5⟩
  have hpu : ∀ j, j < ops.size → (ops.push L)[j]? = ops[j]? := fun j hj => by simp [Array.getElem?_push, Nat.ne_of_lt hj]
  have hpn : (ops.push L)[ops.size]? = some L := by simp
  -- nothing may come up: all have
  have done : ∀ l : Array Bool, l.size = ops.size → Region.ready md ops l = [] → ∀ j, j < ops.size → l.getD j false = true := fun l hl hr j hj => by
    cases hg : l.getD j true with
    | true => have : j < l.size := by omega
              simp [this] at hg ⊢; exact hg
    | false =>
      obtain ⟨i, h1, h2, h3⟩ := least_false (l := l) ops.size (by omega) ⟨j, hj, hg⟩
      have hi : ops[i]? = some ops[i] := Array.getElem?_eq_getElem h1
      have : i ∈ Region.ready md ops l := mem_ready.2 ⟨h2, _, hi, fun e he _ => h3 _ ((hops i _ hi).2.1 e he)⟩
      rw [hr] at this; cases this
  have back : ∀ (l : Array Bool) i, l.size = ops.size → i < ops.size → i ∈ Region.ready md (ops.push L) (l.push false) → i ∈ Region.ready md ops l := fun l i hl hi h => by
    obtain ⟨h0, o, ho, ha⟩ := mem_ready.1 h
    rw [hpu i hi] at ho
    rw [getD_push_lt (by omega)] at h0
    refine mem_ready.2 ⟨h0, o, ho, fun e he hb => ?_⟩
    have := ha e he hb
    have hlt := (hops i o ho).2.1 e he
    rwa [getD_push_lt (by omega)] at this
  -- where all have, the last one may
  have last : ∀ l : Array Bool, l.size = ops.size → (∀ j, j < ops.size → l.getD j false = true) → ops.size ∈ Region.ready md (ops.push L) (l.push false) := fun l hl h =>
    mem_ready.2 ⟨by simp [← hl], L, hpn, fun e he _ => by
      have := hLa e he
      rw [getD_push_lt (by omega)]; exact h _ this⟩
  have lastQ : ∀ (fuel : Nat) (l : Array Bool) (a : Act) (w : World), l.size = ops.size → (∀ j, j < ops.size → l.getD j false = true) → peelQ P L Q .normal a w → wpOp P (ops.push L) Q ops.size (wpAny P md (ops.push L) Q fuel ((l.push false).setIfInBounds ops.size true)) a w := fun fuel l a w hl h hq => by
    unfold wpOp
    rw [hpn]
    have hw : Region.wanted L (yielded (ops.push L) a.tmps) = true := by simp [Region.wanted, hLg]
    simp only [hw, if_true]
    refine .inl (Oper.wp_mono (fun a' w' h' => ?_) hq)
    have hr : Region.ready md (ops.push L) ((l.push false).setIfInBounds ops.size true) = [] := by
      refine List.eq_nil_iff_forall_not_mem.2 fun i hi => ?_
      obtain ⟨h0, o, ho, _⟩ := mem_ready.1 hi
      have hi' : i < (ops.push L).size := (Array.getElem?_eq_some_iff.1 ho).1
      rw [Array.size_push] at hi'
      by_cases e : i = ops.size
      · subst e
        simp [hl] at h0
      · have h1 := h i (by omega)
        rw [getD_set_ne true (fun h => e h.symm), getD_push_lt (by omega)] at h0
        have : i < l.size := by omega
        simp [this] at h0 h1
        rw [h1] at h0; cases h0
    cases fuel with
    | zero => exact ⟨hr, h'⟩
    | succ f => exact ⟨fun _ => h', by rw [hr]; simp⟩
  intro fuel
  induction fuel with
  | zero =>
    intro l a w hl hcl h
    obtain ⟨hr, hq⟩ := h
    have hd := done l hl hr
    refine ⟨fun h0 => ?_, fun i hi => ?_⟩
    · have := last l hl hd; rw [h0] at this; cases this
    · by_cases e : i < ops.size
      · have := back l i hl e hi; rw [hr] at this; cases this
      · obtain ⟨_, o, ho, _⟩ := mem_ready.1 hi
        have hi' : i < (ops.push L).size := (Array.getElem?_eq_some_iff.1 ho).1
        rw [Array.size_push] at hi'
        obtain rfl : i = ops.size := by omega
        exact lastQ 0 l a w hl hd hq
  | succ fuel ih =>
    intro l a w hl hcl h
    obtain ⟨hq, hi0⟩ := h
    refine ⟨fun h0 => ?_, fun i hi => ?_⟩
    · by_cases hr : Region.ready md ops l = []
      · have := last l hl (done l hl hr); rw [h0] at this; cases this
      · obtain ⟨i, hi⟩ := List.exists_mem_of_ne_nil _ hr
        obtain ⟨g0, o, ho, ha⟩ := mem_ready.1 hi
        have hil : i < ops.size := (Array.getElem?_eq_some_iff.1 ho).1
        have : i ∈ Region.ready md (ops.push L) (l.push false) := mem_ready.2 ⟨by rw [getD_push_lt (by omega)]; exact g0, o, by rw [hpu i hil]; exact ho, fun e he hb => by
          have hlt := (hops i o ho).2.1 e he
          rw [getD_push_lt (by omega)]; exact ha e he hb⟩
        rw [h0] at this; cases this
    · by_cases e : i < ops.size
      · have hi1 := back l i hl e hi
        have h1 := hi0 i hi1
        obtain ⟨_, o, ho, _⟩ := mem_ready.1 hi1
        have hg := (hops i o ho).1
        unfold wpOp at h1 ⊢
        rw [hpu i e]
        simp only [ho] at h1 ⊢
        have hw1 : Region.wanted o (yielded ops a.tmps) = true := by simp [Region.wanted, hg]
        have hw2 : Region.wanted o (yielded (ops.push L) a.tmps) = true := by simp [Region.wanted, hg]
        simp only [hw1, hw2, if_true] at h1 ⊢
        have step : ∀ a' w', wpAny P md ops (peelQ P L Q) fuel (l.setIfInBounds i true) a' w' → wpAny P md (ops.push L) Q (fuel + 1) ((l.push false).setIfInBounds i true) a' w' := fun a' w' h' => by
          have hcl2 : ∀ k o, ops[k]? = some o → (l.setIfInBounds i true).getD k false = true → ∀ e ∈ o.after, Region.binds md e = true → (l.setIfInBounds i true).getD e.on false = true := fun k o2 hk hl2 e2 he hb => by
            by_cases hik : i = k
            · subst hik
              obtain ⟨_, o3, ho3, ha⟩ := mem_ready.1 hi1
              rw [hk] at ho3; cases ho3
              exact getD_set_true (ha e2 he hb)
            · rw [getD_set_ne false hik] at hl2
              exact getD_set_true (hcl k o2 hk hl2 e2 he hb)
          have := ih (l.setIfInBounds i true) a' w' (by simpa using hl) hcl2 h'
          have e2 : (l.push false).setIfInBounds i true = (l.setIfInBounds i true).push false := by
            apply Array.ext_getElem?
            intro k
            rw [Array.getElem?_setIfInBounds, Array.getElem?_push, Array.getElem?_push, Array.getElem?_setIfInBounds, Array.size_push, Array.size_setIfInBounds]
            by_cases hk : i = k
            · subst hk
              have g1 : i < l.size := by omega
              have g2 : ¬ i = l.size := by omega
              have g3 : i < l.size + 1 := by omega
              simp [g1, g2, g3]
            · simp [hk]
          rw [e2]; exact this
        rcases h1 with h1 | ⟨hk, ⟨a2, w2, h2⟩⟩
        · exact .inl (peel_upon step h1)
        · exact .inr ⟨hk, ⟨a2, w2, h2⟩⟩
      · obtain ⟨_, o, ho, ha⟩ := mem_ready.1 hi
        have hi' : i < (ops.push L).size := (Array.getElem?_eq_some_iff.1 ho).1
        rw [Array.size_push] at hi'
        obtain rfl : i = ops.size := by omega
        rw [hpn] at ho
        cases ho
        have hd0 : ∀ m j, j < ops.size → ops.size - j ≤ m → l.getD j false = true := fun m => by
          induction m with
          | zero => intro j hj hm; omega
          | succ m ihm =>
            intro j hj hm
            rcases (hops j _ (Array.getElem?_eq_getElem hj)).2.2 with ⟨e, he, hb, hj'⟩ | ⟨k, o2, ho2, e2, he2, hb2, hj'⟩
            · have := ha e he hb
              rw [hj', getD_push_lt (by omega)] at this
              exact this
            · have hk := (hops k o2 ho2).2.1 e2 he2
              have hks : k < ops.size := (Array.getElem?_eq_some_iff.1 ho2).1
              have := ihm k hks (by omega)
              have := hcl _ o2 ho2 this e2 he2 hb2
              rw [hj'] at this
              exact this
        have hd : ∀ j, j < ops.size → l.getD j false = true := fun j hj => hd0 _ j hj (Nat.le_refl _)
        have hr : Region.ready md ops l = [] := by
          refine List.eq_nil_iff_forall_not_mem.2 fun i hi => ?_
          obtain ⟨h0, o, ho, _⟩ := mem_ready.1 hi
          have hi' : i < ops.size := (Array.getElem?_eq_some_iff.1 ho).1
          have h1 := hd i hi'
          have : i < l.size := by omega
          simp [this] at h0 h1
          rw [h1] at h0; cases h0
        exact lastQ (fuel + 1) l a w hl hd (hq hr)

/-- The region, its last operation apart. -/
theorem wp_region_peel {P : Program} {full : Array Oper} {L : Oper} {Q : Exit → Act → World → Prop} {id n : Nat} {a : Act} {w : World} (hm : P.follows .mixedOrders = true) (hn : full.size = n + 1) (hL : full[n]? = some L) (hp : peels .any full.pop L = true) {S : World → Prop} (hS : S w.drew)
    (h : S w.drew → wpAnyH P .any full.pop (peelQ P L Q) S n (Array.replicate n false) a w.drew) : (Code.region id full true).wp P Q a w := by
  have hz : full.pop.size = n := by simp [hn]
  have hf : full = full.pop.push L := by
    have h1 : n < full.size := by omega
    have h2 : full[n] = L := by rw [Array.getElem?_eq_getElem h1] at hL; exact Option.some.inj hL
    have h3 : full.back = full[full.size - 1] := rfl
    refine Array.ext (by simp; omega) fun k hk1 hk2 => ?_
    by_cases e : k = n
    · subst e; rw [h2, Array.getElem_push]; simp [hz]
    · have : k < full.pop.size := by omega
      rw [Array.getElem_push, dif_pos this]; simp
  refine wp_region_any hm ?_
  have := peel_any hp n (Array.replicate n false) a w.drew (by simp [hz]) (fun i o _ h => by by_cases hi : i < n <;> simp [hi] at h) (wpAny_of_held _ _ _ _ (h hS))
  rw [← hf] at this
  rw [hn]
  have e : Array.replicate (n + 1) false = (Array.replicate n false).push false := by simp [Array.replicate_succ]
  rw [e]
  exact this
end Go.Proofs.YtankbanonbmffabGreatDoor
