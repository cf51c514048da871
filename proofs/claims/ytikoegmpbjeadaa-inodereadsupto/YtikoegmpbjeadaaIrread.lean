/-
  DERIVED. The document's Cursor.Number and Read.
-/
import Derived.Test.YtikoegmpbjeadaaIref3
import Derived.Test.YtikoegmpbjeadaaIref4
import Derived.Test.YtikoegmpbjeadaaIruint
import Derived.Test.YtikoegmpbjeadaaIbmath
namespace Go.Proofs.Ytikoegmpbjeadaa
open Go.RowKit
set_option linter.unusedVariables false

/-- A cursor that was laid since w0, over bytes that lay there then. -/
structure CuAt (w0 w : World) (b : Nat) (v : Value) (bad : Bool) (l : List UInt8) : Prop where
  blk : w.heap[b]? = some (.cells #[v, .bool bad] 73 (0, 0))
  sl : Sl w0 v l
  new : w0.heap.size ≤ b
  grown : w0.grownBy w none
theorem CuAt.bytes {w0 w : World} {b : Nat} {v : Value} {bad : Bool} {l : List UInt8} (h : CuAt w0 w b v bad l) : w.cell? ⟨b, 0, none⟩ = some v := (cell_of_row _ _ _ _ _ _ h.blk).trans rfl
theorem CuAt.flag {w0 w : World} {b : Nat} {v : Value} {bad : Bool} {l : List UInt8} (h : CuAt w0 w b v bad l) : w.cell? ⟨b, 1, none⟩ = some (.bool bad) := (cell_of_row _ _ _ _ _ _ h.blk).trans rfl
theorem CuAt.frozen {w0 w : World} {b : Nat} {v : Value} {bad : Bool} {l : List UInt8} (h : CuAt w0 w b v bad l) (i : Nat) : w.frozen? ⟨b, i, none⟩ = false := by simp [World.frozen?, h.blk]
theorem CuAt.lt {w0 w : World} {b : Nat} {v : Value} {bad : Bool} {l : List UInt8} (h : CuAt w0 w b v bad l) : b < w.heap.size := lt_of_block h.blk
theorem CuAt.kept {w0 w w' : World} {b : Nat} {v : Value} {bad : Bool} {l : List UInt8} (h : CuAt w0 w b v bad l) (hg : w.grownBy w' none) : CuAt w0 w' b v bad l := ⟨(hg.block b h.lt (by simp)).trans h.blk, h.sl, h.new, h.grown.trans hg⟩

def NumR (w0 w : World) (b : Nat) (v : Value) (bad : Bool) (l : List UInt8) (e : Ending) (w' : World) : Prop :=
  w.grownBy w' (some b) ∧ (((rd l).2.2 = 0 ∧ (rd l).1 ≤ 32768 ∧ e = .returned (.int .i64 ((rd l).1 : Int)) ∧ ∃ v', CuAt w0 w' b v' bad (l.drop (rd l).2.1)) ∨ (¬ ((rd l).2.2 = 0 ∧ (rd l).1 ≤ 32768) ∧ ∃ z : Nat, z ≤ 32768 ∧ e = .returned (.int .i64 (z : Int)) ∧ CuAt w0 w' b v true l))

set_option maxRecDepth 20000 in
set_option maxHeartbeats 4000000 in
theorem rNumber_any (w0 w : World) (b : Nat) (v : Value) (bad : Bool) (l : List UInt8) (h : CuAt w0 w b v bad l) :
    Calls Try.prog 36 #[.pointer (some ⟨b, 0, none⟩), .int .u64 32768] w (NumR w0 w b v bad l) := by
  have HC := hide h
  have c0 := h.bytes
  clear h
  have hrf := rd_facts l
  go_enter Try.func36, Try.ntmps36
  go_wp2_with fail
  refine (rUint_any v l w ((unhide HC).sl.kept (unhide HC).grown)).mono ?_
  rintro e w1 ⟨rfl, b1⟩
  have C1 := hide ((unhide HC).kept (grown_of_below b1))
  have G1 := hide (grown_of_below b1)
  have d0 := (unhide C1).bytes
  have d1 := (unhide C1).flag
  have fz := (unhide C1).frozen
  have HP : Hid (NumR w0 w b v bad l = fun e w' => w.grownBy w' (some b) ∧ (((rd l).2.2 = 0 ∧ (rd l).1 ≤ 32768 ∧ e = .returned (.int .i64 ((rd l).1 : Int)) ∧ ∃ v', CuAt w0 w' b v' bad (l.drop (rd l).2.1)) ∨ (¬ ((rd l).2.2 = 0 ∧ (rd l).1 ≤ 32768) ∧ ∃ z : Nat, z ≤ 32768 ∧ e = .returned (.int .i64 (z : Int)) ∧ CuAt w0 w' b v true l))) := hide rfl
  clear b1 c0
  obtain ⟨⟨N, K, E⟩, hrd⟩ : ∃ t, t = rd l := ⟨_, rfl⟩
  rw [← hrd] at hrf HP ⊢
  simp only at hrf HP ⊢
  clear hrd
  by_cases hok : E = 0 ∧ N ≤ 32768
  · obtain ⟨hE, hN32⟩ := hok
    subst hE
    have hKl : K ≤ l.length := by omega
    have hk0 : ¬ K = 0 := by omega
    have hNI : (N : Int) ≤ 32768 := by omega
    have hwr : IntKind.i64.wrap (N : Int) = (N : Int) := by rw [IntKind.wrap_i64]; omega
    obtain ⟨ao, cap, hv, hr1, hr2, hr4⟩ := (unhide HC).sl
    clear hr4
    unfold maxLen at hr2
    have HSd : Hid (∀ (A : Option Addr) (m c2 : Nat), m = l.length - K → c2 = cap - K → (A = ao.map (fun x => x.add K) ∨ c2 = 0) → Sl w0 (.slice A m c2) (l.drop K)) := hide (by
      rintro A m c2 rfl rfl hA
      obtain ⟨ao', cap', e, h1, h2, h4⟩ := (unhide HC).sl
      rw [hv] at e
      injection e with e1 e2 e3
      subst e1 e3
      refine ⟨A, cap - K, by rw [List.length_drop], by rw [List.length_drop]; omega, by omega, fun hne => ?_⟩
      obtain ⟨b', off, rfl, hb, hcc⟩ := h4 (by omega)
      rcases hA with rfl | h0
      · refine ⟨b', off + K, by simp [addr_add], hb, fun i hi => ?_⟩
        rw [List.length_drop] at hi
        rw [List.getElem_drop, Nat.add_assoc]
        exact hcc (K + i) (by omega)
      · omega)
    have fin : ∀ v', Sl w0 v' (l.drop K) → NumR w0 w b v bad l (.returned (.int .i64 (N : Int))) (w1.setCell ⟨b, 0, none⟩ v') := fun v' hs => by
      rw [unhide HP]
      refine ⟨((unhide G1).but _).trans (setCell_grown _ _ _ _), .inl ⟨rfl, hN32, rfl, v', ⟨?_, hs, (unhide HC).new, own_step (unhide C1).grown (unhide HC).new (setCell_grown _ _ _ _)⟩⟩⟩
      rw [heap_setCell_same w1 b 0 _ _ v' (unhide C1).blk]
      rfl
    have FIN := hide fin
    clear fin
    subst hv
    obtain ⟨n, hn⟩ : ∃ n, n = l.length := ⟨_, rfl⟩
    rw [← hn] at hKl hr1 HSd d0 ⊢
    clear hn hrf
    have hKI : (K : Int) ≤ (n : Int) := by omega
    have hnI : (n : Int) ≤ (cap : Int) := by omega
    have hcapI : (cap : Int) ≤ 9223372036854775807 := by omega
    by_cases hkc : cap = K
    · obtain rfl : n = K := by omega
      subst hkc
      clear hKI hnI hk0
      go_wp2
      go_ret
      exact unhide FIN _ (unhide HSd _ _ _ (by omega) (by omega) (.inr rfl))
    · go_wp2
      go_ret
      exact unhide FIN _ (unhide HSd _ _ _ rfl rfl (.inl rfl))
  · have hfin : NumR w0 w b v bad l (.returned (.int .i64 0)) (w1.setCell ⟨b, 1, none⟩ (.bool true)) := by
      rw [unhide HP]
      refine ⟨((unhide G1).but _).trans (setCell_grown _ _ _ _), .inr ⟨hok, 0, by omega, rfl, ⟨?_, (unhide HC).sl, (unhide HC).new, own_step (unhide C1).grown (unhide HC).new (setCell_grown _ _ _ _)⟩⟩⟩
      rw [heap_setCell_same w1 b 1 _ _ _ (unhide C1).blk]
      rfl
    have FIN := hide hfin
    have hN64 := hrf.1
    clear hfin
    by_cases hE : E = 0
    · have hN32 : (32768 : Int) < (N : Int) := by omega
      subst hE
      clear hok hrf
      go_wp2
      go_ret
      exact unhide FIN
    · have hE' : ¬ (E : Int) = 0 := by omega
      clear hok hrf
      go_wp2
      go_ret
      exact unhide FIN

/-- What is read is laid so. -/
theorem nums_canon : ∀ (k : Nat) (l : List UInt8) (xs : List Nat) (r : List UInt8), nums k l = some (xs, r) → l = layNs xs ++ r
  | 0, l, xs, r, h => by
    simp [nums] at h
    obtain ⟨rfl, rfl⟩ := h
    rfl
  | k + 1, l, xs, r, h => by
    unfold nums at h
    by_cases hc : (rd l).2.2 = 0 ∧ (rd l).1 ≤ 32768
    · rw [if_pos hc] at h
      obtain ⟨p, hp, e⟩ := Option.map_eq_some_iff.1 h
      obtain ⟨ys, r2⟩ := p
      simp only [Prod.mk.injEq] at e
      obtain ⟨rfl, rfl⟩ := e
      have ih := nums_canon k _ ys r2 hp
      have h1 : rd l = ((rd l).1, (rd l).2.1, 0) := by rw [← hc.1]
      have h2 := rd_canon h1
      have e2 : layNs ((rd l).1 :: ys) = lay (rd l).1 ++ layNs ys := by simp [layNs]
      rw [e2, ← h2, List.append_assoc, ← ih, List.take_append_drop]
    · rw [if_neg hc] at h
      cases h
theorem layNs_append (xs ys : List Nat) : layNs (xs ++ ys) = layNs xs ++ layNs ys := by simp [layNs]
theorem flat_pairs : ∀ (n : Nat) (xs : List Nat), xs.length = 2 * n → flatX (pairs xs) = xs
  | 0, xs, h => by
    have e : xs = [] := List.eq_nil_of_length_eq_zero (by omega)
    subst e
    rfl
  | n + 1, xs, h => by
    match xs, h with
    | a :: b :: r, h =>
      have := flat_pairs n r (by simp at h; omega)
      rw [pairs, flatX_cons, this]
    | [a], h => simp at h; omega
    | [], h => simp at h
theorem prt_canon {l : List UInt8} {a : Nat} {X : List (Nat × Nat)} {r : List UInt8} (h : prt l = some (a, X, r)) : l = lay a ++ lay X.length ++ layR X ++ r := by
  unfold prt at h
  cases h2 : nums 2 l with
  | none => rw [h2] at h; cases h
  | some p =>
    rw [h2] at h
    obtain ⟨hd, r0⟩ := p
    simp only at h
    obtain ⟨p, hp, e⟩ := Option.map_eq_some_iff.1 h
    obtain ⟨xs, r2⟩ := p
    simp only [Prod.mk.injEq] at e
    obtain ⟨rfl, rfl, rfl⟩ := e
    obtain ⟨l1, m1⟩ := nums_len _ _ _ _ h2
    obtain ⟨l2, m2⟩ := nums_len _ _ _ _ hp
    have c1 := nums_canon _ _ _ _ h2
    have c2 := nums_canon _ _ _ _ hp
    match hd, l1 with
    | [x, y], _ =>
      have hl : xs.length = 2 * y := by simpa using l2
      have e1 : (pairs xs).length = y := pairs_len y xs hl
      have e2 : layR (pairs xs) = layNs xs := by rw [← layNs_flat, flat_pairs y xs hl]
      rw [e1, e2]
      rw [c2] at c1
      rw [c1]
      simp [layNs]
/-- By either way the same: what is told is what was read. -/
theorem rdN_alt {l : List UInt8} {a : Nat} {X : List (Nat × Nat)} {r : List UInt8} (h : prt l = some (a, X, r)) (hok : okL (X.map toI) ((bf a : Nat) : Int)) :
    rdN l = if tellN a (bks X) = l.take (l.length - r.length) then some (a, bks X, l.length - r.length) else none := by
  have hc := prt_canon h
  have hlen : l.length - r.length = (lay a ++ lay X.length ++ layR X).length := by
    rw [hc]
    simp
    omega
  have htk : l.take (l.length - r.length) = lay a ++ lay X.length ++ layR X := by
    rw [hlen]
    conv => lhs; rw [hc]
    exact List.take_left
  obtain ⟨Y, hY, hY2, hYt⟩ := of_okL hok
  have hXY : X = Y := by
    have inj : ∀ (A B : List (Nat × Nat)), A.map toI = B.map toI → A = B := by
      intro A
      induction A with
      | nil => intro B h; cases B with
        | nil => rfl
        | cons _ _ => cases h
      | cons x A ih => intro B h; cases B with
        | nil => cases h
        | cons y B =>
          simp only [List.map_cons, List.cons.injEq, toI, Prod.mk.injEq] at h
          obtain ⟨⟨h1, h2⟩, h3⟩ := h
          rw [ih B h3]
          congr 1
          exact Prod.ext (by omega) (by omega)
    exact inj X Y hY
  subst hXY
  have ha := (prt_facts h).1
  have hlb : (bks X).length = bf a := hYt
  have hlow : low (bks X) := low_bks fun y hy => (hY2 y hy).2
  have key : l.take (tellN a (bks X)).length = tellN a (bks X) ↔ tellN a (bks X) = l.take (l.length - r.length) := by
    constructor
    · intro hp
      have hl2 : l = tellN a (bks X) ++ l.drop (tellN a (bks X)).length := by
        conv => lhs; rw [← List.take_append_drop (tellN a (bks X)).length l]
        rw [hp]
      have h3 := prt_tell a (bks X) (l.drop (tellN a (bks X)).length) ha hlb hlow
      rw [← hl2, h] at h3
      simp only [Option.some.injEq, Prod.mk.injEq] at h3
      have h4 : X = canon (bks X) := h3.2.1
      rw [htk]
      unfold tellN
      rw [← h4]
    · intro hp
      rw [hp, htk, ← hlen, htk]
  unfold rdN
  rw [h]
  simp only
  by_cases hp : tellN a (bks X) = l.take (l.length - r.length)
  · rw [if_pos ⟨hok, key.2 hp⟩, if_pos hp]
    have : (tellN a (bks X)).length = l.length - r.length := by
      rw [hp, List.length_take]
      omega
    rw [this]
  · rw [if_neg (fun h => hp (key.1 h.2)), if_neg hp]
end Go.Proofs.Ytikoegmpbjeadaa
