/-
  DERIVED. numbers: so many numbers off bytes.
-/
import Derived.Test.YtikoegmpbjeadaaIgrown
import Derived.Test.YtikoegmpbjeadaaUint
import Derived.Deep.RegionLaw
import Derived.Deep.Cut
import Derived.Deep.CutRange
namespace Go.Proofs.Ytikoegmpbjeadaa
open Go.RowKit
set_option linter.unusedVariables false

theorem gr_da (w : World) (o : Obj) : w.grownBy (w.drew.alloc o) none := ⟨rfl, rfl, rfl, by simp, fun k hk _ => Below.heap_alloc w.drew o k hk⟩
theorem gr_ad (w : World) (o : Obj) : w.grownBy ((w.alloc o).drew) none := ⟨rfl, rfl, rfl, by simp, fun k hk _ => Below.heap_alloc w o k hk⟩
theorem gr_d (w : World) : w.grownBy w.drew none := ⟨rfl, rfl, rfl, Nat.le_refl _, fun _ _ _ => rfl⟩
theorem Sl.kept {w w' : World} {v : Value} {l : List UInt8} (h : Sl w v l) (hg : w.grownBy w' none) : Sl w' v l := h.below (below_of_grown hg) (Nat.le_refl _)

/-- An append of a number, as one step of a region that draws. -/
theorem step_append_int {ops : Array Oper} {o : Oper} {a : Act} {w : World} {K : Act → World → Prop} {Q : Exit → Act → World → Prop} {E : Prop}
    (hg : o.guard = none) (s x : Operand) (ho : o.op = .call { callee := .builtin .append, args := #[s, x], argTypes := #[28, 28] })
    (base : Nat) (v : Value) (xs : List Nat) (hs : a.eval s = v) (hown : NOwn w base v xs) (hl : xs.length ≤ 131072) (hbase : base ≤ w.heap.size)
    (ad : Addr) (c y : Nat) (hx : a.eval x = .slice (some ad) 1 c) (hy : w.cell? ad = some (.int .i64 (y : Int)))
    (hK : ∀ v' w', NOwn w' base v' (xs ++ [y]) → w.grownBy w' v.ownBlock → K (a.put o.dst v') w') :
    if Region.wanted o (yielded ops a.tmps) = true then Oper.wp Try.prog o a w K Q else E := by
  have hw : Region.wanted o (yielded ops a.tmps) = true := by simp [Region.wanted, hg]
  rw [if_pos hw]
  obtain ⟨i0, hi, hz0, hz1, hz2⟩ := info_parts Try.infoInt
  obtain ⟨v', w', hrun, r1, r2, _⟩ := run_append_own (P := Try.prog) w base 28 o.type 3 i0 (.int .i64 0) 1 8 Try.underlying28 hi hz0 hz1 hz2 rfl (by decide) v xs.length (xs.map nv) hown ad 1 c [nv y] rfl (fun j u hj => by
    match j with
    | 0 =>
      simp at hj
      subst hj
      simpa [Addr.add] using hy
    | j + 1 => simp at hj) (fun u hu => by
    simp at hu
    subst hu
    rfl) (by unfold maxLen; omega) (by omega) hbase
  unfold Oper.wp
  simp [execOp, ho, resolve, invoke, builtin, hs, hx, hrun, Result.andThen]
  refine hK v' w' ?_ r2
  unfold NOwn
  rw [List.map_append, List.length_append]
  exact r1
/-- An append of a run, as one step of a region that draws. -/
theorem step_append_run {ops : Array Oper} {o : Oper} {a : Act} {w : World} {K : Act → World → Prop} {Q : Exit → Act → World → Prop} {E : Prop}
    (hg : o.guard = none) (s x : Operand) (ho : o.op = .call { callee := .builtin .append, args := #[s, x], argTypes := #[32, 32] })
    (base : Nat) (v : Value) (xs : List (Nat × Nat)) (hs : a.eval s = v) (hown : ROwn w base v xs) (hl : xs.length ≤ 65536) (hbase : base ≤ w.heap.size)
    (ad : Addr) (c : Nat) (y : Nat × Nat) (hx : a.eval x = .slice (some ad) 1 c) (hc : ∀ j u, ([.int .i64 (y.1 : Int), .int .i64 (y.2 : Int)] : List Value)[j]? = some u → w.cell? (ad.add j) = some u)
    (hK : ∀ v' w', ROwn w' base v' (xs ++ [y]) → w.grownBy w' v.ownBlock → K (a.put o.dst v') w') :
    if Region.wanted o (yielded ops a.tmps) = true then Oper.wp Try.prog o a w K Q else E := by
  have hw : Region.wanted o (yielded ops a.tmps) = true := by simp [Region.wanted, hg]
  rw [if_pos hw]
  obtain ⟨v', w', hrun, r1, r2⟩ := run_append_run w base o.type v xs hown hbase hl ad c y hc
  unfold Oper.wp
  simp [execOp, ho, resolve, invoke, builtin, hs, hx, hrun, Result.andThen]
  exact hK v' w' r1 r2

/-- So many numbers off bytes, each at most 32768, and what is behind them. -/
def nums : Nat → List UInt8 → Option (List Nat × List UInt8)
  | 0, l => some ([], l)
  | k + 1, l => if (rd l).2.2 = 0 ∧ (rd l).1 ≤ 32768 then (nums k (l.drop (rd l).2.1)).map (fun p => ((rd l).1 :: p.1, p.2)) else none
theorem nums_len : ∀ (k : Nat) (l : List UInt8) (xs : List Nat) (r : List UInt8), nums k l = some (xs, r) → xs.length = k ∧ ∀ x ∈ xs, x ≤ 32768
  | 0, l, xs, r, h => by
    simp [nums] at h
    obtain ⟨rfl, _⟩ := h
    exact ⟨rfl, fun x hx => by cases hx⟩
  | k + 1, l, xs, r, h => by
    unfold nums at h
    by_cases hc : (rd l).2.2 = 0 ∧ (rd l).1 ≤ 32768
    · rw [if_pos hc] at h
      obtain ⟨p, hp, e⟩ := Option.map_eq_some_iff.1 h
      obtain ⟨ys, r2⟩ := p
      simp only [Prod.mk.injEq] at e
      obtain ⟨rfl, rfl⟩ := e
      obtain ⟨h1, h2⟩ := nums_len k _ ys r2 hp
      refine ⟨by simp [h1], fun x hx => ?_⟩
      rcases List.mem_cons.1 hx with rfl | hx
      · exact hc.2
      · exact h2 x hx
    · rw [if_neg hc] at h
      cases h
def NumPost (w : World) (c : Nat) (l : List UInt8) (e : Ending) (w' : World) : Prop :=
  w.grownBy w' none ∧ ((nums c l = none ∧ e = .returned (.tuple #[.slice none 0 0, .slice none 0 0, .bool false])) ∨ ∃ xs r vx vr, nums c l = some (xs, r) ∧ e = .returned (.tuple #[vx, vr, .bool true]) ∧ NOwn w' w.heap.size vx xs ∧ Sl w' vr r)

set_option maxRecDepth 20000 in
set_option maxHeartbeats 4000000 in
theorem numbers_any (w : World) (v : Value) (l : List UInt8) (c : Nat) (hv : Sl w v l) (hc : c ≤ 65536) :
    Calls Try.prog 47 #[v, .int .i64 (c : Int)] w (NumPost w c l) := by
  have HV := hide hv
  have hcI : (c : Int) ≤ 65536 := by omega
  clear hv
  go_enter Try.func47, Try.ntmps47
  go_wp2
  go_loopw [0, 7, 12] (fun b a i wr => ∃ (k : Nat) (xs : List Nat) (r : List UInt8), i = .int .i64 (k : Int) ∧ k ≤ c ∧ xs.length = k ∧ NOwn wr w.heap.size a xs ∧ Sl w b r ∧ Hid (nums c l = (nums (c - k) r).map (fun p => (xs ++ p.1, p.2))) ∧ w.grownBy wr none) (fun _ _ i _ => c - (intOf i).toNat)
  case atStart => exact ⟨0, [], l, rfl, by omega, rfl, NOwn.nil _ _, unhide HV, hide (by simp), World.grownBy.refl _ _⟩
  case round =>
    obtain ⟨k, xs, r, rfl, hk, hxl, hN, hS, HE, hg⟩ := hrel
    have HN := hide hN
    have HS := hide hS
    have HG := hide hg
    have HXl := hide hxl
    clear hN hg hxl
    by_cases hlt : k < c
    · have hlt' : (k : Int) < (c : Int) := by omega
      have hck : c - k = (c - (k + 1)) + 1 := by omega
      have hrf := rd_facts r
      have HSt : Hid (nums (c - k) r = if (rd r).2.2 = 0 ∧ (rd r).1 ≤ 32768 then (nums (c - (k + 1)) (r.drop (rd r).2.1)).map (fun p => ((rd r).1 :: p.1, p.2)) else none) := hide (by rw [hck]; rfl)
      go_wp2_with fail
      refine (Uint_any _ r wr ((unhide HS).kept (unhide HG))).mono ?_
      rintro e wr' ⟨rfl, rfl⟩
      obtain ⟨⟨N, K, E⟩, hrd⟩ : ∃ t, t = rd r := ⟨_, rfl⟩
      rw [← hrd] at hrf HSt ⊢
      simp only at hrf HSt ⊢
      clear hrd hck
      by_cases hok : E = 0 ∧ N ≤ 32768
      · obtain ⟨hE, hN32⟩ := hok
        subst hE
        have HE2 : Hid (nums c l = (nums (c - (k + 1)) (r.drop K)).map (fun p => ((xs ++ [N]) ++ p.1, p.2))) := hide (by
          rw [unhide HE, unhide HSt, if_pos ⟨rfl, hN32⟩]
          cases nums (c - (k + 1)) (r.drop K) with
          | none => rfl
          | some p => simp)
        have hKl : K ≤ r.length := by omega
        have hNI : (N : Int) ≤ 32768 := by omega
        have HSd : Hid (∀ (ao : Option Addr) (n cap : Nat), u0 = .slice ao n cap → ∀ (A : Option Addr) (m c2 : Nat), m = n - K → c2 = cap - K → (A = ao.map (fun x => x.add K) ∨ c2 = 0) → Sl w (.slice A m c2) (r.drop K)) := hide (by
          rintro ao n cap rfl A m c2 rfl rfl hA
          obtain ⟨ao', cap', e, h1, h2, h4⟩ := unhide HS
          injection e with e1 e2 e3
          subst e1 e2 e3
          refine ⟨A, cap - K, by rw [List.length_drop], by rw [List.length_drop]; omega, by omega, fun hne => ?_⟩
          obtain ⟨b, off, rfl, hb, hcc⟩ := h4 (by omega)
          rcases hA with rfl | h0
          · refine ⟨b, off + K, by simp [addr_add], hb, fun i hi => ?_⟩
            rw [List.length_drop] at hi
            rw [List.getElem_drop]
            rw [Nat.add_assoc]
            exact hcc (K + i) (by omega)
          · omega)
        obtain ⟨ao, cap, hu0, hr1, hr2, _⟩ := unhide HS
        unfold maxLen at hr2
        have HSd2 := hide (unhide HSd ao r.length cap hu0)
        subst hu0
        clear HSd HE HSt HS hrf
        obtain ⟨n, hn⟩ : ∃ n, n = r.length := ⟨_, rfl⟩
        rw [← hn] at hKl hr1 HSd2 ⊢
        clear hn
        have hKI : (K : Int) ≤ (n : Int) := by omega
        have hnI : (n : Int) ≤ (cap : Int) := by omega
        have hcapI : (cap : Int) ≤ 9223372036854775807 := by omega
        have hxl2 : xs.length ≤ 131072 := by have := unhide HXl; omega
        have HSz := hide (unhide HG).size
        go_wp2_with fail
        have HWr : Hid (IntKind.i64.wrap (N : Int) = (N : Int)) := hide (by rw [IntKind.wrap_i64]; omega)
        by_cases hkc : cap = K
        · subst hkc
          go_region_law (first | (refine step_append_int rfl (.tmp 26) (.tmp 29) rfl w.heap.size u7 xs rfl ?own hxl2 ?hb ⟨_, 0, none⟩ 1 N rfl ?hy ?_; (case own => (first | exact (unhide HN).grown (gr_da _ _) | exact (unhide HN).grown (gr_ad _ _))); (case hb => (have h7 := unhide HSz; simp; omega)); (case hy => exact (cell_of_row _ _ _ _ _ _ (heap_alloc_new _ _)).trans (by simp [unhide HWr])); intro v3 w3 o3 g3; have N3 := hide o3; have G3 : Hid (w.grownBy w3 none) := hide (by first | exact ((unhide HG).trans (gr_ad _ _)).andThen g3 (fun q e => .inl ((unhide HN).row e).1) | exact ((unhide HG).trans (gr_da _ _)).andThen g3 (fun q e => .inl ((unhide HN).row e).1)); clear o3 g3))
          all_goals
            go_wp2
            go_roundw
            case rel => exact ⟨k + 1, xs ++ [N], _, rfl, by omega, by rw [List.length_append, unhide HXl]; rfl, unhide N3, unhide HSd2 _ _ _ (by omega) (by omega) (.inr rfl), HE2, unhide G3⟩
            case measure => simp [intOf]; omega
        · go_region_law (first | (refine step_append_int rfl (.tmp 26) (.tmp 29) rfl w.heap.size u7 xs rfl ?own hxl2 ?hb ⟨_, 0, none⟩ 1 N rfl ?hy ?_; (case own => (first | exact (unhide HN).grown (gr_da _ _) | exact (unhide HN).grown (gr_ad _ _))); (case hb => (have h7 := unhide HSz; simp; omega)); (case hy => exact (cell_of_row _ _ _ _ _ _ (heap_alloc_new _ _)).trans (by simp [unhide HWr])); intro v3 w3 o3 g3; have N3 := hide o3; have G3 : Hid (w.grownBy w3 none) := hide (by first | exact ((unhide HG).trans (gr_ad _ _)).andThen g3 (fun q e => .inl ((unhide HN).row e).1) | exact ((unhide HG).trans (gr_da _ _)).andThen g3 (fun q e => .inl ((unhide HN).row e).1)); clear o3 g3))
          all_goals
            go_wp2
            go_roundw
            case rel => exact ⟨k + 1, xs ++ [N], _, rfl, by omega, by rw [List.length_append, unhide HXl]; rfl, unhide N3, unhide HSd2 _ _ _ rfl rfl (.inl rfl), HE2, unhide G3⟩
            case measure => simp [intOf]; omega
      · have HNo : Hid (nums c l = none) := hide (by rw [unhide HE, unhide HSt, if_neg hok]; rfl)
        have hrf1 := hrf.1
        by_cases hE : E = 0
        · have hN32 : (32768 : Int) < (N : Int) := by omega
          subst hE
          clear hok hrf
          go_wp2
          go_ret3
          exact ⟨unhide HG, .inl ⟨unhide HNo, rfl⟩⟩
        · have hE' : ¬ (E : Int) = 0 := by omega
          clear hok hrf
          go_wp2
          go_ret3
          exact ⟨unhide HG, .inl ⟨unhide HNo, rfl⟩⟩
    · have hlt' : ¬ (k : Int) < (c : Int) := by omega
      have HF : Hid (nums c l = some (xs, r)) := hide (by
        rw [unhide HE, show c - k = 0 by omega]
        simp [nums])
      go_wp2
      go_ret3
      exact ⟨unhide HG, .inr ⟨xs, r, _, _, unhide HF, rfl, unhide HN, (unhide HS).kept (unhide HG)⟩⟩
end Go.Proofs.Ytikoegmpbjeadaa
