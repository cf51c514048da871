/-
  DERIVED. parts, bytes.Equal, bytes.HasPrefix.
-/
import Derived.Test.YtikoegmpbjeadaaIread
namespace Go.Proofs.Ytikoegmpbjeadaa
open Go.RowKit
set_option linter.unusedVariables false

def pairs : List Nat → List (Nat × Nat)
  | a :: b :: r => (a, b) :: pairs r
  | _ => []
theorem pairs_step : ∀ (xs : List Nat) (k : Nat), 2 * k + 1 < xs.length → pairs (xs.take (2 * (k + 1))) = pairs (xs.take (2 * k)) ++ [(xs.getD (2 * k) 0, xs.getD (2 * k + 1) 0)]
  | [], k, h => by simp at h
  | [a], k, h => by simp at h
  | a :: b :: r, 0, h => by simp [pairs]
  | a :: b :: r, k + 1, h => by
    have h' : 2 * k + 1 < r.length := by simp at h; omega
    have ih := pairs_step r k h'
    rw [show 2 * (k + 1 + 1) = 2 * (k + 1) + 1 + 1 by omega, List.take_succ_cons, List.take_succ_cons, show 2 * (k + 1) = 2 * k + 1 + 1 by omega, List.take_succ_cons, List.take_succ_cons, show 2 * k + 1 + 1 = 2 * (k + 1) by omega]
    simp only [pairs]
    rw [ih, List.cons_append]
    congr 3
theorem pairs_len : ∀ (n : Nat) (xs : List Nat), xs.length = 2 * n → (pairs xs).length = n
  | 0, xs, h => by
    have e : xs = [] := List.eq_nil_of_length_eq_zero (by omega)
    subst e
    rfl
  | n + 1, xs, h => by
    match xs, h with
    | a :: b :: r, h =>
      have := pairs_len n r (by simp at h; omega)
      simp [pairs, this]
    | [a], h => simp at h; omega
    | [], h => simp at h
theorem pairs_mem : ∀ (xs : List Nat), (∀ x ∈ xs, x ≤ 32768) → ∀ y ∈ pairs xs, y.1 ≤ 32768 ∧ y.2 ≤ 32768
  | [], _, y, hy => by cases hy
  | [a], _, y, hy => by cases hy
  | a :: b :: r, h, y, hy => by
    rcases List.mem_cons.1 hy with rfl | hy
    · exact ⟨h _ (by simp), h _ (by simp)⟩
    · exact pairs_mem r (fun x hx => h x (by simp [hx])) y hy

/-- A size and runs off bytes, and what is behind them. -/
def prt (l : List UInt8) : Option (Nat × List (Nat × Nat) × List UInt8) :=
  match nums 2 l with
  | none => none
  | some (hd, r) => (nums (2 * hd.getD 1 0) r).map fun p => (hd.getD 0 0, pairs p.1, p.2)
theorem prt_facts {l : List UInt8} {a : Nat} {X : List (Nat × Nat)} {r : List UInt8} (h : prt l = some (a, X, r)) : a ≤ 32768 ∧ X.length ≤ 32768 ∧ ∀ y ∈ X, y.1 ≤ 32768 ∧ y.2 ≤ 32768 := by
  unfold prt at h
  cases h2 : nums 2 l with
  | none => rw [h2] at h; cases h
  | some p =>
    rw [h2] at h
    obtain ⟨hd, r0⟩ := p
    simp only at h
    obtain ⟨p, hp, e⟩ := Option.map_eq_some_iff.1 h
    obtain ⟨xs, r2⟩ := p
    simp only [Prod.mk.injEq] at e
    obtain ⟨rfl, rfl, rfl⟩ := e
    obtain ⟨l1, m1⟩ := nums_len _ _ _ _ h2
    obtain ⟨l2, m2⟩ := nums_len _ _ _ _ hp
    match hd, l1 with
    | [x, y], _ =>
      refine ⟨m1 x (by simp), ?_, pairs_mem xs m2⟩
      rw [pairs_len y xs (by simpa using l2)]
      exact m1 y (by simp)

def PrtPost (w : World) (l : List UInt8) (e : Ending) (w' : World) : Prop :=
  w.grownBy w' none ∧ ((prt l = none ∧ ∃ (z : Int) (vx : Value), e = .returned (.tuple #[.int .i64 z, vx, .bool false])) ∨ ∃ a X r vx, prt l = some (a, X, r) ∧ e = .returned (.tuple #[.int .i64 (a : Int), vx, .bool true]) ∧ ROwn w' w.heap.size vx X)

set_option maxRecDepth 20000 in
set_option maxHeartbeats 4000000 in
theorem parts_any (w : World) (v : Value) (l : List UInt8) (hv : Sl w v l) : Calls Try.prog 34 #[v] w (PrtPost w l) := by
  have HV := hide hv
  clear hv
  have e2 : ((2 : Nat) : Int) = 2 := rfl
  go_enter Try.func34, Try.ntmps34
  go_wp2_with fail
  refine (numbers_any w v l 2 (unhide HV) (by omega)).mono ?_
  rintro e w1 ⟨g1, h1⟩
  have G1 := hide g1
  rcases h1 with ⟨h1, rfl⟩ | ⟨hd, r, vx, vr, h1, rfl, o1, s1⟩
  · have HNo : Hid (prt l = none) := hide (by unfold prt; rw [h1])
    clear g1 h1
    go_wp2
    go_ret3
    exact ⟨unhide G1, .inl ⟨unhide HNo, _, _, rfl⟩⟩
  · obtain ⟨hl2, hm2⟩ := nums_len _ _ _ _ h1
    have H1 := hide h1
    match hd, hl2 with
    | [a, m], _ =>
      have ha : a ≤ 32768 := hm2 a (by simp)
      have hm : m ≤ 32768 := hm2 m (by simp)
      have hmI : (m : Int) ≤ 32768 := by omega
      obtain ⟨ao, cap, rfl, hc1, hc2, h4⟩ := o1.form
      obtain ⟨g, rfl, hgl, hcell⟩ := h4 (by simp)
      have HC0 := hide (hcell 0 (by simp))
      have HC1 := hide (hcell 1 (by simp))
      have c1 := hcell 1 (by simp)
      simp only [List.length_cons, List.length_nil, Nat.zero_add, Nat.reduceAdd, List.getElem_cons_succ, List.getElem_cons_zero] at c1 HC0 HC1 hc1 ⊢
      have S1 := hide s1
      clear g1 o1 s1 h4 hcell hm2 h1 e2
      go_wp2_with fail
      refine (show Calls Try.prog 47 #[vr, .int .i64 (2 * (m : Int))] w1 _ from ?_)
      have := numbers_any w1 vr r (2 * m) (unhide S1) (by omega)
      rw [show (((2 * m : Nat)) : Int) = 2 * (m : Int) by omega] at this
      refine this.mono ?_
      clear this c1
      rintro e w2 ⟨g2, h2⟩
      have G2 : Hid (w.grownBy w2 none) := hide ((unhide G1).trans g2)
      have d0 := g2.cell (unhide HC0) (by simp)
      have SZ := hide (unhide G1).size
      rcases h2 with ⟨h2, rfl⟩ | ⟨xs, r2, vy, vr2, h2, rfl, o2, s2⟩
      · have HNo : Hid (prt l = none) := hide (by unfold prt; rw [unhide H1]; simp only; rw [show 2 * [a, m].getD 1 0 = 2 * m from rfl, h2]; rfl)
        clear g2 h2
        go_wp2
        go_loopw [10, 11] (fun x i wr => i = .int .i64 0 ∧ x = .slice none 0 0 ∧ wr = w2) (fun _ i _ => 0)
        case atStart => exact ⟨rfl, rfl, rfl⟩
        case round =>
          obtain ⟨rfl, rfl, rfl⟩ := hrel
          go_wp2
          go_ret3
          exact ⟨unhide G2, .inl ⟨unhide HNo, _, _, rfl⟩⟩
      · have HYes : Hid (prt l = some (a, pairs xs, r2)) := hide (by unfold prt; rw [unhide H1]; simp only; rw [show 2 * [a, m].getD 1 0 = 2 * m from rfl, h2]; rfl)
        obtain ⟨hl3, hm3⟩ := nums_len _ _ _ _ h2
        obtain ⟨bo, bcap, rfl, hb1, hb2, hb4⟩ := o2.form
        have O2 := hide o2
        obtain ⟨n, hn⟩ : ∃ n, n = xs.length := ⟨_, rfl⟩
        rw [← hn] at hb1 hl3 O2 ⊢
        have HNn := hide hn
        have hnI : (n : Int) ≤ 65536 := by omega
        have hnm : n = 2 * m := hl3
        have HNm := hide hnm
        clear hn g2 h2 o2 s2 hb4 hl3 hnm
        go_wp2
        go_loopw [10, 11] (fun x i wr => ∃ k : Nat, i = .int .i64 ((2 * k : Nat) : Int) ∧ k ≤ m ∧ ROwn wr w2.heap.size x (pairs (xs.take (2 * k))) ∧ w2.grownBy wr none) (fun _ i _ => n - (intOf i).toNat)
        case atStart => exact ⟨0, rfl, by omega, by simpa [pairs] using ROwn.nil w2 w2.heap.size, World.grownBy.refl _ _⟩
        case round =>
          obtain ⟨k, rfl, hk, hR, hG⟩ := hrel
          have HR := hide hR
          have HGi := hide hG
          obtain ⟨i, hi⟩ : ∃ i, i = 2 * k := ⟨_, rfl⟩
          rw [← hi] at HR ⊢
          have HIk := hide hi
          have hiI : (i : Int) ≤ 65536 := by omega
          clear hR hG
          by_cases hlt : k < m
          · have hlt' : (i : Int) < (n : Int) := by have := unhide HNm; omega
            have hlt2 : (i : Int) + 1 < (n : Int) := by have := unhide HNm; omega
            have hk1 : i + 1 < xs.length := by have := unhide HNm; have := unhide HNn; omega
            have hpl : (pairs (xs.take i)).length ≤ 65536 := by rw [pairs_len k _ (by rw [List.length_take]; omega)]; omega
            obtain ⟨ao', cap', e, _, _, h4⟩ := ((unhide O2).grown (unhide HGi)).form
            injection e with e1 e2 e3
            obtain ⟨g2, hbo, hg2l, hcell⟩ := h4 (by omega)
            rw [← e1] at hbo
            subst hbo
            have d1 := hcell i (by omega)
            have d2 := hcell (i + 1) hk1
            have HPs : Hid (pairs (xs.take (2 * (k + 1))) = pairs (xs.take i) ++ [(xs[i], xs[i + 1])]) := hide (by
              have h := pairs_step xs k (by omega)
              rw [← hi] at h
              rw [h]
              simp [List.getD_eq_getElem?_getD, List.getElem?_eq_getElem hk1, List.getElem?_eq_getElem (show i < xs.length by omega)])
            have hy1 := hm3 xs[i] (List.getElem_mem _)
            have hy2 := hm3 xs[i + 1] (List.getElem_mem _)
            obtain ⟨y1, hy1e⟩ : ∃ y, y = xs[i] := ⟨_, rfl⟩
            obtain ⟨y2, hy2e⟩ : ∃ y, y = xs[i + 1] := ⟨_, rfl⟩
            rw [← hy1e] at d1 HPs hy1
            rw [← hy2e] at d2 HPs hy2
            clear e1 e2 e3 h4 hcell hy1e hy2e hi
            have HSz : Hid (w2.heap.size ≤ wr.heap.size) := hide (unhide HGi).size
            have hyI1 : (y1 : Int) ≤ 32768 := by omega
            have hwi : IntKind.i64.wrap ((i : Int) + 1) = (i : Int) + 1 := by rw [IntKind.wrap_i64]; omega
            have hi0 : (0 : Int) ≤ (i : Int) + 1 := by omega
            have hyI2 : (y2 : Int) ≤ 32768 := by omega
            go_wp2_with fail
            go_region_law (first | (refine step_append_run rfl (.tmp 36) (.tmp 47) rfl w2.heap.size u10 (pairs (xs.take i)) rfl ?own hpl ?hb ⟨_, 0, none⟩ 1 (y1, y2) rfl ?hy ?_; (case own => (first | exact (unhide HR).grown (gr_da _ _) | exact (unhide HR).grown (gr_ad _ _))); (case hb => (have h7 := unhide HSz; simp; omega)); (case hy => (first | exact one_cells _ _ _ | exact one_cells (wr.drew) _ _)); intro v3 w3 o3 g3; have R3 : Hid (ROwn w3 w2.heap.size v3 (pairs (xs.take (2 * (k + 1))))) := hide (by rw [unhide HPs]; exact o3); have G3 : Hid (w2.grownBy w3 none) := hide (by first | exact ((unhide HGi).trans (gr_ad _ _)).andThen g3 (fun q e => .inl ((unhide HR).row e).1) | exact ((unhide HGi).trans (gr_da _ _)).andThen g3 (fun q e => .inl ((unhide HR).row e).1)); clear o3 g3))
            all_goals
              go_wp2
              go_roundw
              case rel => exact ⟨k + 1, by have := unhide HIk; congr 1; omega, by omega, unhide R3, unhide G3⟩
              case measure => simp [intOf]; omega
          · have hlt' : ¬ (i : Int) < (n : Int) := by have := unhide HNm; omega
            have HF : Hid (ROwn wr w.heap.size u10 (pairs xs)) := hide (by
              have h := (unhide HR).mono (unhide G2).size
              rw [List.take_of_length_le (by have := unhide HNm; have := unhide HNn; omega)] at h
              exact h)
            clear hi
            have d3 := (unhide HGi).cell d0 (by simp)
            go_wp2
            go_ret3
            exact ⟨(unhide G2).trans (unhide HGi), .inr ⟨a, pairs xs, r2, _, unhide HYes, rfl, unhide HF⟩⟩
end Go.Proofs.Ytikoegmpbjeadaa
