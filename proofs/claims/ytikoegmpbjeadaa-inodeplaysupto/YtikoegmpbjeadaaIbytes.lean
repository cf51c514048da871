/-
  DERIVED. put, Bytes: a node as bytes.
-/
import Derived.Test.YtikoegmpbjeadaaIfun
import Derived.Test.YtikoegmpbjeadaaLay
import Derived.Deep.Cut
import Derived.Deep.CutRange
import Derived.BigRegion
namespace Go.Proofs.Ytikoegmpbjeadaa
open Go.RowKit
set_option linter.unusedVariables false

theorem PutUint_sl (v : Value) (l : List UInt8) (n : Nat) (w : World) (hv : Sl w v l) (hn : n ≤ 18446744073709551615) (hl : l.length + 10 ≤ 140737488355328) :
    Calls Try.prog 51 #[v, .int .u64 (n : Int)] w fun e w' => ∃ v', e = .returned v' ∧ Own w' w.heap.size v' (l ++ lay n) ∧ Below w.heap.size w w' := by
  have HV := hide hv
  clear hv
  go_enter Try.func51, Try.ntmps51
  go_wp2_with (first | (go_at_call 54; refine (closed_any _ l _ (unhide HV)).mono ?_; rintro e w' ⟨v1, rfl, hroom, rfl⟩) | (go_at_call 53; refine (layUint_at w.heap.size _ l _ n _ (Nat.le_refl _) (Or.inr hroom) hl hn rfl).mono ?_; rintro e w' ⟨v2, rfl, hown, hbel⟩))
  go_ret
  exact ⟨_, rfl, hown, hbel⟩

theorem put_any (v : Value) (l : List UInt8) (x y : Nat) (w : World) (hv : Sl w v l) (hx : x ≤ 65536) (hy : y ≤ 65536) (hl : l.length + 20 ≤ 140737488355328) :
    Calls Try.prog 40 #[v, .int .i64 (x : Int), .int .i64 (y : Int)] w fun e w' => ∃ v', e = .returned v' ∧ Own w' w.heap.size v' (l ++ lay x ++ lay y) ∧ Below w.heap.size w w' := by
  have HV := hide hv
  have h1 : (x : Int) ≤ 65536 := by omega
  have h2 : (y : Int) ≤ 65536 := by omega
  have hlx := lay_len x
  clear hv
  go_enter Try.func40, Try.ntmps40
  go_wp2_with fail
  refine (PutUint_sl v l x w (unhide HV) (by omega) (by omega)).mono ?_
  rintro e w1 ⟨v1, rfl, o1, b1⟩
  have O1 := hide o1.sl
  have B1 := hide b1
  clear o1 b1
  go_wp2_with fail
  refine (PutUint_sl v1 (l ++ lay x) y w1 (unhide O1) (by omega) (by simp; omega)).mono ?_
  rintro e w2 ⟨v2, rfl, o2, b2⟩
  have O2 := hide (o2.mono (unhide B1).size)
  have B2 : Hid (Below w.heap.size w w2) := hide ((unhide B1).trans ⟨b2.os, b2.tape, b2.output, b2.size, fun k hk => b2.block k (Nat.lt_of_lt_of_le hk (unhide B1).size)⟩)
  clear o2 b2
  go_wp2
  go_ret
  exact ⟨_, rfl, unhide O2, unhide B2⟩

/-- Runs as bytes; a node as bytes. -/
def layR (X : List (Nat × Nat)) : List UInt8 := X.flatMap fun x => lay x.1 ++ lay x.2
theorem layR_snoc (X : List (Nat × Nat)) (x : Nat × Nat) : layR (X ++ [x]) = layR X ++ (lay x.1 ++ lay x.2) := by simp [layR]
def tellN (n : Nat) (L : List Nat) : List UInt8 := lay n ++ lay (canon L).length ++ layR (canon L)
theorem layR_len : ∀ X : List (Nat × Nat), (layR X).length ≤ 20 * X.length
  | [] => by simp [layR]
  | x :: X => by
    have h := layR_len X
    have h1 := lay_len x.1
    have h2 := lay_len x.2
    have e : layR (x :: X) = (lay x.1 ++ lay x.2) ++ layR X := by simp [layR]
    rw [e]
    simp only [List.length_append, List.length_cons]
    omega
theorem tellN_len {n : Nat} {L : List Nat} (h : (canon L).length ≤ 64) : (tellN n L).length ≤ 1400 := by
  have h1 := layR_len (canon L)
  have h2 := lay_len n
  have h3 := lay_len (canon L).length
  unfold tellN
  simp only [List.length_append]
  omega

set_option maxRecDepth 20000 in
set_option maxHeartbeats 2000000 in
theorem Bytes_any (w : World) (b n : Nat) (v : Value) (L : List Nat) (h : NdAt w b n v L) :
    Calls Try.prog 20 #[.pointer (some ⟨b, 0, none⟩)] w fun e w' => ∃ u, e = .returned u ∧ Own w' w.heap.size u (tellN n L) ∧ w.grownBy w' none := by
  have c0 := h.num
  have c1 := h.val
  have hle := h.le
  have hni : (n : Int) ≤ 32768 := by omega
  have hsm := h.small.2
  have hlow := low_canon h.lw
  have HM := hide h
  obtain ⟨ao, cap, hv, hv1, hv2, hv4⟩ := h.runs.form
  subst hv
  have HR := hide h.runs
  have HTL : Hid (tellN n L = lay n ++ lay (canon L).length ++ layR (canon L)) := hide rfl
  clear h hv4
  obtain ⟨X, hX⟩ : ∃ X, X = canon L := ⟨_, rfl⟩
  rw [← hX] at hsm hlow HR hv1 c1 HTL HM
  clear hX
  obtain ⟨q, hq⟩ : ∃ q, q = X.length := ⟨_, rfl⟩
  rw [← hq] at hsm HR hv1 c1 HTL HM
  have HQ := hide hq
  have hqI : (q : Int) ≤ 64 := by omega
  clear hq
  go_enter Try.func20, Try.ntmps20
  go_wp2_with fail
  go_cut [3] from 8 to 17 (fun a wx => Own wx w.heap.size a (lay n ++ lay q) ∧ w.grownBy wx none)
  case first =>
    go_region_with (go_at_call 40; refine (put_any _ [] n q _ ⟨none, 0, rfl, by simp, by simp [maxLen], fun h => absurd rfl h⟩ (by omega) (by omega) (by simp)).mono ?_; rintro e w1 ⟨v1, rfl, o1, b1⟩; have O1 := hide o1; have B1 := hide b1; clear o1 b1)
    all_goals go_wp2_with fail
    all_goals go_meet
    all_goals exact ⟨by simpa using unhide O1, grown_of_below ⟨(unhide B1).os, (unhide B1).tape, (unhide B1).output, (unhide B1).size, (unhide B1).block⟩⟩
  case rest =>
    obtain ⟨o1, g1⟩ := hcut
    have c1' := g1.cell c1 (by simp)
    have O1 := hide o1
    have G1 := hide g1
    clear o1 g1 c0 c1
    go_wp2
    go_loopw [3, 23] (fun a i wr => ∃ (k : Nat), i = .int .i64 (k : Int) ∧ k ≤ q ∧ Own wr w.heap.size a (lay n ++ lay q ++ layR (X.take k)) ∧ w.grownBy wr none) (fun _ i _ => q - (intOf i).toNat)
    case atStart => exact ⟨0, rfl, by omega, by simpa [layR] using unhide O1, unhide G1⟩
    case round =>
      obtain ⟨k, rfl, hk, ho, hg⟩ := hrel
      by_cases hlt : k < q
      · have hlt' : (k : Int) < (q : Int) := by omega
        have hkl : k < X.length := by rw [← unhide HQ]; exact hlt
        obtain ⟨ao', cap', e, _, _, h4⟩ := ((unhide HR).grown hg).form
        injection e with e1 e2 e3
        subst e1
        obtain ⟨g, rfl, _, hgl, hc⟩ := h4 (by omega)
        obtain ⟨d0, d1⟩ := hc k hkl
        have hx := hlow X[k] (List.getElem_mem hkl)
        have HTk : Hid (layR (X.take (k + 1)) = layR (X.take k) ++ (lay X[k].1 ++ lay X[k].2)) := hide (by rw [List.take_succ_eq_append_getElem hkl, layR_snoc])
        have HLen : Hid ((lay n ++ lay q ++ layR (X.take k)).length + 20 ≤ 140737488355328) := hide (by
          have h1 := layR_len (X.take k)
          have h2 := lay_len n
          have h3 := lay_len q
          have h5 : (X.take k).length ≤ k := by rw [List.length_take]; omega
          simp only [List.length_append]
          omega)
        obtain ⟨x, hx0⟩ : ∃ x, x = X[k] := ⟨_, rfl⟩
        rw [← hx0] at d0 d1 hx HTk
        clear hx0 hc h4 e2 e3 hlt
        obtain ⟨x1, x2⟩ := x
        simp only at d0 d1 hx HTk
        obtain ⟨hx1, hx2⟩ := hx
        have hxI : (x1 : Int) + (x2 : Int) ≤ 512 := by omega
        have HO := hide (ho.sl.alloc (.cells #[.int .i64 (x1 : Int), .int .i64 (x2 : Int)] 51))
        have HG : Hid (w.grownBy (wr.alloc (.cells #[.int .i64 (x1 : Int), .int .i64 (x2 : Int)] 51)) none) := hide (hg.trans (World.grownBy_alloc _ _ _))
        have HS : Hid (w.heap.size ≤ (wr.alloc (.cells #[.int .i64 (x1 : Int), .int .i64 (x2 : Int)] 51)).heap.size) := hide (unhide HG).size
        clear ho hg
        go_wp2_with fail
        refine (put_any _ _ x1 x2 _ (unhide HO) (by omega) (by omega) (unhide HLen)).mono ?_
        rintro e w2 ⟨v2, rfl, o2, b2⟩
        have O2 : Hid (Own w2 w.heap.size v2 (lay n ++ lay q ++ layR (X.take (k + 1)))) := hide (by
          rw [unhide HTk]
          have := o2.mono (unhide HS)
          simpa [List.append_assoc] using this)
        have G2 : Hid (w.grownBy w2 none) := hide ((unhide HG).trans (grown_of_below b2))
        clear o2 b2 HO HG d0 d1 HTk
        go_wp2
        go_roundw
        case rel => exact ⟨k + 1, rfl, by omega, unhide O2, unhide G2⟩
        case measure => simp [intOf]; omega
      · have hlt' : ¬ (k : Int) < (q : Int) := by omega
        have HO : Hid (Own wr w.heap.size u3 (tellN n L)) := hide (by
          rw [List.take_of_length_le (by have := unhide HQ; omega)] at ho
          rw [unhide HTL]
          exact ho)
        have HG := hide hg
        clear ho hg
        go_wp2
        go_ret
        exact ⟨_, rfl, unhide HO, unhide HG⟩
theorem Bytes_nil (w : World) : Calls Try.prog 20 #[.pointer none] w fun e w' => e = .returned (.slice none 0 0) ∧ w' = w := by
  go_enter Try.func20, Try.ntmps20
  go_wp2
  go_ret
  exact ⟨rfl, rfl⟩
end Go.Proofs.Ytikoegmpbjeadaa
