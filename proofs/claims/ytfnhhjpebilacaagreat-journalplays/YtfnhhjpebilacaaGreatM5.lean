/-
  DERIVED. What a log is, of a device's blocks; what a commit and an opening make of it, wherever the device stops: plain.
-/
import Derived.Test.YtfnhhjpebilacaaGreatM3
import Derived.Test.YtfnhhjpebilacaaGreatM4
import Derived.Test.YtfnhhjpebilacaaGreatM2
import Derived.Test.YtfnhhjpebilacaaGreatM1
namespace Go.Proofs.YtfnhhjpebilacaaGreat
open Go.RowKit
set_option linter.unusedVariables false

theorem recB_len (ns : List Nat) (h : ns.length ≤ 16) : (recB ns).length ≤ 400 := by
  have h1 : ∀ ns : List Nat, (ns.flatMap fun (n : Nat) => lay (zig (n : Int))).length ≤ ns.length * 10 := by
    intro ns
    induction ns with
    | nil => simp
    | cons n ns ih =>
      rw [List.flatMap_cons, List.length_append, List.length_cons]
      have := lay_len (zig (n : Int))
      omega
  have h2 := h1 ns
  have h3 := lay_len (zig (ns.length : Int))
  have h4 : (layT markB).length ≤ 20 := by
    have := lay_len markB.length
    unfold layT
    rw [List.length_append]
    simp only [markB, List.length_cons, List.length_nil] at this ⊢
    omega
  unfold recB
  rw [List.length_append, List.length_append]
  omega

/-- Nothing is pending; these blocks wait; behind them the log's blocks are these. -/
structure Sound (T : St) (ns : List Nat) (c : Nat → List UInt8) : Prop where
  l1 : 64 ≤ T.safe.length
  l2 : T.safe.length ≤ 512
  none : ∀ n, T.pend n = []
  laid : (T.rcd 0).laid = true
  cnt : (T.rcd 0).count ≤ T.ops
  ns1 : ns.length ≤ 16
  ns2 : ∀ n ∈ ns, n < T.safe.length - 20
  data : (T.rcd 0).data = recB ns
  is : ∀ n, n < T.safe.length - 20 → over (partsF T 2 ns) (fun m => T.newest (20 + m)) n = c n

/-- The log on a device that is up: nothing waits. -/
structure Quiet (S : St) (c : Nat → List UInt8) : Prop where
  l1 : 64 ≤ S.safe.length
  l2 : S.safe.length ≤ 512
  up : S.down = false
  calm : S.calm 0
  laid : (S.rcd 0).laid = true
  cnt : (S.rcd 0).count ≤ S.ops
  data : (S.rcd 0).data = recB []
  is : ∀ n, n < S.safe.length - 20 → S.newest (20 + n) = c n

/-- What a block may be behind a crash. -/
def St.may (S : St) (n : Nat) (L : List UInt8) : Prop := L = (S.safe[n]?).getD [] ∨ L ∈ S.pend n
theorem St.may_newest (S : St) (n : Nat) : S.may n (S.newest n) := by
  unfold St.may St.newest
  by_cases e : S.pend n = []
  · rw [e]; exact .inl rfl
  · rw [List.getLast?_eq_some_getLast e, Option.getD_some]
    exact .inr (List.getLast_mem e)
theorem St.may_none {S : St} {n : Nat} {L : List UInt8} (h : S.pend n = []) (hm : S.may n L) : L = S.newest n := by
  rcases hm with h1 | h1
  · rw [h1, S.newest_none n h]
  · rw [h] at h1; cases h1

/-- A device whose blocks are the same. -/
structure Alike (S T : St) : Prop where
  safe : T.safe = S.safe
  pend : T.pend = S.pend
  ops : S.ops ≤ T.ops
theorem Alike.refl (S : St) : Alike S S := ⟨rfl, rfl, Int.le_refl _⟩
theorem Alike.burn {S T : St} (h : Alike S T) : Alike S T.burn := ⟨h.safe, h.pend, Int.le_trans h.ops T.burn_ops⟩
theorem Alike.newest {S T : St} (h : Alike S T) (n : Nat) : T.newest n = S.newest n := by unfold St.newest; rw [h.safe, h.pend]
theorem Alike.rcd {S T : St} (h : Alike S T) (k : Nat) : T.rcd k = S.rcd k := St.rcd_of (h.newest k) (h.newest (k + 1))
theorem Alike.halted {S T : St} (h : Alike S T) : Alike S T.halted := by
  unfold St.halted
  split
  · exact h
  split
  · exact h.burn.burn
  · exact h.burn
theorem Alike.fuseK {S T : St} (h : Alike S T) (k : Int) : Alike S (T.fuseK k) := by
  unfold St.fuseK
  split
  · exact h
  · exact ⟨h.safe, h.pend, h.ops⟩
theorem Sound.alike {S T : St} {ns : List Nat} {c : Nat → List UInt8} (h : Sound S ns c) (ha : Alike S T) : Sound T ns c := by
  have e : partsF T 2 ns = partsF S 2 ns := partsF_same ns 2 fun i _ _ => ha.newest i
  have e2 : (fun m => T.newest (20 + m)) = fun m => S.newest (20 + m) := funext fun m => ha.newest _
  refine ⟨by rw [ha.safe]; exact h.l1, by rw [ha.safe]; exact h.l2, fun n => by rw [ha.pend]; exact h.none n, by rw [ha.rcd]; exact h.laid, by rw [ha.rcd]; exact Int.le_trans h.cnt ha.ops, h.ns1, by rw [ha.safe]; exact h.ns2, by rw [ha.rcd]; exact h.data, ?_⟩
  rw [ha.safe, e, e2]
  exact h.is
theorem Quiet.alike {S T : St} {c : Nat → List UInt8} (h : Quiet S c) (ha : Alike S T) (hd : T.down = false) : Quiet T c := by
  refine ⟨by rw [ha.safe]; exact h.l1, by rw [ha.safe]; exact h.l2, hd, ?_, by rw [ha.rcd]; exact h.laid, by rw [ha.rcd]; exact Int.le_trans h.cnt ha.ops, by rw [ha.rcd]; exact h.data, ?_⟩
  · unfold St.calm; rw [ha.pend]; exact h.calm
  · rw [ha.safe]
    intro n hn
    rw [ha.newest]; exact h.is n hn
theorem Sound.congr {T : St} {ns : List Nat} {c c' : Nat → List UInt8} (h : Sound T ns c) (hc : ∀ n, n < T.safe.length - 20 → c n = c' n) : Sound T ns c' :=
  { h with is := fun n hn => (h.is n hn).trans (hc n hn) }
theorem Quiet.congr {T : St} {c c' : Nat → List UInt8} (h : Quiet T c) (hc : ∀ n, n < T.safe.length - 20 → c n = c' n) : Quiet T c' :=
  { h with is := fun n hn => (h.is n hn).trans (hc n hn) }
/-- Behind a crash where nothing was pending. -/
theorem Sound.crash {S : St} {ns : List Nat} {c : Nat → List UInt8} (h : Sound S ns c) (ps : List Int) : Sound (S.crash ps) ns c := by
  have hn : ∀ n, n < S.safe.length → (S.crash ps).newest n = S.newest n := fun n hn => crash_calm S ps n hn (h.none n)
  have hl := crash_len S ps
  have h1 := h.l1
  have hr : (S.crash ps).rcd 0 = S.rcd 0 := St.rcd_of (hn 0 (by omega)) (hn 1 (by omega))
  have e : partsF (S.crash ps) 2 ns = partsF S 2 ns := partsF_same ns 2 fun i i1 i2 => hn i (by have := h.ns1; omega)
  refine ⟨by rw [hl]; exact h.l1, by rw [hl]; exact h.l2, fun _ => rfl, by rw [hr]; exact h.laid, by rw [hr]; exact h.cnt, h.ns1, by rw [hl]; exact h.ns2, by rw [hr]; exact h.data, ?_⟩
  rw [hl, e]
  intro n hn2
  rw [over_same _ (fun m => (S.crash ps).newest (20 + m)) (fun m => S.newest (20 + m)) n (.inr (hn _ (by omega)))]
  exact h.is n hn2
/-- A log behind a crash: each block is one of what it may be. -/
theorem Quiet.crashW {S T : St} {c : Nat → List UInt8} {ys : List (Nat × List UInt8)} (h : Quiet S c) (hw : Wr S ys T) (hy : ∀ y ∈ ys, 2 ≤ y.1) (ps : List Int) : Sound (T.crash ps) [] (fun n => (T.crash ps).newest (20 + n)) := by
  have h1 := h.l1
  have hl : (T.crash ps).safe.length = S.safe.length := by rw [crash_len, hw.safe]
  have hn : ∀ n, n < 2 → (T.crash ps).newest n = S.newest n := fun n hn => hw.crash_out ps n (by omega) (fun p hp e => by have := hy p hp; omega) (by
    rcases (show n = 0 ∨ n = 1 by omega) with rfl | rfl
    · exact h.calm.1
    · exact h.calm.2)
  have hr : (T.crash ps).rcd 0 = S.rcd 0 := St.rcd_of (hn 0 (by omega)) (hn 1 (by omega))
  exact ⟨by rw [hl]; exact h.l1, by rw [hl]; exact h.l2, fun _ => rfl, by rw [hr]; exact h.laid, by rw [hr]; exact Int.le_trans h.cnt hw.ops, by simp, by simp, by rw [hr]; exact h.data, fun _ _ => rfl⟩
theorem Quiet.crash {S : St} {c : Nat → List UInt8} (h : Quiet S c) (ps : List Int) : ∃ c', Sound (S.crash ps) [] c' ∧ ∀ n, n < S.safe.length - 20 → S.may (20 + n) (c' n) :=
  ⟨_, h.crashW (Wr.refl S) (by simp) ps, fun n hn => crash_memS S ps (20 + n) (by omega)⟩

/-- A commit is settled, or the device stops, and it waits on. -/
theorem settle_cases {T : St} {ns : List Nat} {c : Nat → List UInt8} (h : Sound T ns c) (hd : T.down = false) (hb : T.ops < 9223372036854775806) :
    (∃ T', T.settleJ (partsF T 2 ns) = (0, T') ∧ Quiet T' c ∧ (∀ n, T'.pend n = []) ∧ T'.safe.length = T.safe.length ∧ T'.fused = T.fused) ∨
    (∃ T', T.settleJ (partsF T 2 ns) = (2, T') ∧ T'.down = true ∧ T'.safe.length = T.safe.length ∧ ∀ ps, ∃ ns', Sound (T'.crash ps) ns' c) := by
  obtain ⟨ps, hps⟩ : ∃ ps, ps = partsF T 2 ns := ⟨_, rfl⟩
  have h1 := h.l1
  have h2 := h.l2
  have n1 := h.ns1
  have hfst : ps.map (·.1) = ns := by rw [hps]; exact partsF_fst T ns 2
  have hin : ∀ p ∈ ps, p.1 < T.safe.length - 20 := fun p hp => h.ns2 _ (by rw [← hfst]; exact List.mem_map_of_mem hp)
  have his : ∀ n, n < T.safe.length - 20 → over ps (fun m => T.newest (20 + m)) n = c n := by rw [hps]; exact h.is
  have hx : ∀ y ∈ setX ps, 20 ≤ y.1 ∧ ∃ p ∈ ps, y.1 = 20 + p.1 ∧ y.2 = p.2 := fun y hy => by
    obtain ⟨p, hp, rfl⟩ := List.mem_map.1 hy
    exact ⟨by simp only; omega, p, hp, rfl, rfl⟩
  rw [← hps]
  -- the device that stopped while the parts were written
  have hstop : ∀ (U : St) (ys : List (Nat × List UInt8)), (∀ y ∈ ys, y ∈ setX ps) → Wr T ys U → ∀ cr, Sound (U.crash cr) ns c := by
    intro U ys hy hw cr
    have hl : (U.crash cr).safe.length = T.safe.length := by rw [crash_len, hw.safe]
    have hn : ∀ n, n < 20 → (U.crash cr).newest n = T.newest n := fun n hn => hw.crash_out cr n (by omega) (fun p hp e => by have := (hx p (hy p hp)).1; omega) (h.none n)
    have hr : (U.crash cr).rcd 0 = T.rcd 0 := St.rcd_of (hn 0 (by omega)) (hn 1 (by omega))
    have e : partsF (U.crash cr) 2 ns = ps := by rw [hps]; exact partsF_same ns 2 fun i i1 i2 => hn i (by omega)
    refine ⟨by rw [hl]; exact h1, by rw [hl]; exact h2, fun _ => rfl, by rw [hr]; exact h.laid, by rw [hr]; exact Int.le_trans h.cnt hw.ops, n1, by rw [hl]; exact h.ns2, by rw [hr]; exact h.data, ?_⟩
    rw [hl, e]
    intro n hn2
    rw [← his n hn2]
    refine over_same _ _ _ n ?_
    by_cases hi : ∃ p ∈ ps, p.1 = n
    · exact .inl hi
    · refine .inr (hw.crash_out cr (20 + n) (by omega) (fun p hp e => ?_) (h.none _))
      obtain ⟨_, q, hq, e1, _⟩ := hx p (hy p hp)
      exact hi ⟨q, hq, by omega⟩
  unfold St.settleJ
  rcases wrf_cases (setX ps) T hd with ⟨U, u1, u2, u3, u4, u5, u6, u7⟩ | ⟨U, ys, u1, u2, u3, u4⟩
  · rw [u1]
    have hlo : ∀ n, n < 20 → U.newest n = T.newest n := fun n hn => by
      rw [u7 n (by omega), over_out _ _ _ fun p hp e => by have := (hx p hp).1; omega]
    have hhi : ∀ n, n < T.safe.length - 20 → U.newest (20 + n) = c n := fun n hn => by rw [u7 _ (by omega), over_setX, his n hn]
    have hr : U.rcd 0 = T.rcd 0 := St.rcd_of (hlo 0 (by omega)) (hlo 1 (by omega))
    by_cases he : ps = []
    · rw [if_pos he]
      have hns : ns = [] := by rw [← hfst, he]; rfl
      refine .inl ⟨U, rfl, ⟨by rw [u2]; exact h1, by rw [u2]; exact h2, u4, ⟨u6 _, u6 _⟩, by rw [hr]; exact h.laid, by rw [hr]; exact Int.le_trans h.cnt u3, by rw [hr, h.data, hns], by rw [u2]; exact hhi⟩, u6, u2, u5⟩
    · rw [if_neg he, thn_ok]
      have hcnt : (U.rcd 0).count < 9223372036854775807 := by rw [hr]; have := h.cnt; omega
      rcases store_all (S := U) (k := 0) (by rw [u2]; omega) (by rw [u2]; exact h2) u4 ⟨u6 _, u6 _⟩ (by rw [hr]; exact h.laid) hcnt (recB []) (recB_len [] (by simp)) with ⟨V, v1, v2, v3⟩ | ⟨V, v1, v2, v3, v4, v5, v6⟩
      · rw [v1]
        have hl : V.safe.length = T.safe.length := v2.len.trans u2
        refine .inl ⟨V, rfl, ⟨by rw [hl]; exact h1, by rw [hl]; exact h2, v2.up, ⟨v2.pend _, v2.pend _⟩, by rw [v2.rec_], ?_, by rw [v2.rec_], ?_⟩, v2.pend, hl, v2.fused.trans u5⟩
        · rw [v2.rec_, hr]
          have := h.cnt
          show (T.rcd 0).count + 1 ≤ V.ops
          omega
        · rw [hl]
          intro n hn
          rw [v2.other _ (by rw [u2]; omega) (by omega) (by omega)]
          exact hhi n hn
      · rw [v1]
        have hl0 : V.safe.length = T.safe.length := by rw [v3]; exact u2
        refine .inr ⟨V, rfl, v2, hl0, fun cr => ?_⟩
        have hl : (V.crash cr).safe.length = T.safe.length := by rw [crash_len]; exact hl0
        have hn : ∀ n, 2 ≤ n → n < T.safe.length → (V.crash cr).newest n = U.newest n := fun n k1 k2 => by
          have hp : V.pend n = [] := (v5 n (by omega) (by omega)).trans (u6 n)
          rw [crash_calm V cr n (by rw [hl0]; exact k2) hp, V.newest_none n hp, v3, U.newest_none n (u6 n)]
        rcases v6 cr with hh | ⟨ho, hh⟩
        · refine ⟨ns, by rw [hl]; exact h1, by rw [hl]; exact h2, fun _ => rfl, by rw [hh, hr]; exact h.laid, ?_, n1, by rw [hl]; exact h.ns2, by rw [hh, hr]; exact h.data, ?_⟩
          · rw [hh, hr]
            show (T.rcd 0).count ≤ V.ops
            have := h.cnt
            omega
          · have e : partsF (V.crash cr) 2 ns = ps := by rw [hps]; exact partsF_same ns 2 fun i i1 i2 => (hn i (by omega) (by omega)).trans (hlo i (by omega))
            rw [hl, e]
            intro n hn2
            rw [over_same ps (fun m => (V.crash cr).newest (20 + m)) (over ps fun m => T.newest (20 + m)) n (.inr ?_), over_twice, his n hn2]
            show (V.crash cr).newest (20 + n) = _
            rw [hn _ (by omega) (by omega), hhi n hn2, his n hn2]
        · refine ⟨[], by rw [hl]; exact h1, by rw [hl]; exact h2, fun _ => rfl, by rw [hh], ?_, by simp, by simp, by rw [hh], ?_⟩
          · rw [hh, hr]
            show (T.rcd 0).count + 1 ≤ V.ops
            have := h.cnt
            omega
          · rw [hl]
            intro n hn2
            show (V.crash cr).newest (20 + n) = c n
            rw [hn _ (by omega) (by omega), hhi n hn2]
  · rw [u1]
    have hl : U.safe.length = T.safe.length := congrArg _ u3.safe
    refine .inr ⟨U, by split <;> rfl, u4, hl, fun cr => ⟨ns, hstop U ys u2 u3 cr⟩⟩

/-- A commit is laid, or the device stops. -/
theorem lay_cases {S : St} {c : Nat → List UInt8} (h : Quiet S c) (ps : List (Nat × List UInt8)) (hl : ps.length ≤ 16) (hin : ∀ p ∈ ps, p.1 < S.safe.length - 20) (hb : S.ops < 9223372036854775806) :
    (∃ T, S.layJ ps = (0, T) ∧ Sound T (ps.map (·.1)) (over ps c) ∧ partsF T 2 (ps.map (·.1)) = ps ∧ T.down = false ∧ T.safe.length = S.safe.length ∧ T.fused = S.fused) ∨
    (∃ T, S.layJ ps = (2, T) ∧ T.down = true ∧ T.safe.length = S.safe.length ∧ ∀ cr, ∃ ns' c', Sound (T.crash cr) ns' c' ∧ ((∀ n, n < S.safe.length - 20 → S.may (20 + n) (c' n)) ∨ ∀ n, n < S.safe.length - 20 → c' n = over ps c n)) := by
  have h1 := h.l1
  have h2 := h.l2
  have hx := layX_mem ps 2
  have hlm : (ps.map (·.1)).length = ps.length := List.length_map _
  unfold St.layJ
  rcases wrf_cases (layX 2 ps) S h.up with ⟨U, u1, u2, u3, u4, u5, u6, u7⟩ | ⟨U, ys, u1, u2, u3, u4⟩
  · rw [u1, thn_ok]
    have hlo : ∀ n, n < 2 → U.newest n = S.newest n := fun n hn => by rw [u7 n (by omega), over_out _ _ _ fun p hp e => by have := hx p hp; omega]
    have hhi : ∀ n, n < S.safe.length - 20 → U.newest (20 + n) = c n := fun n hn => by
      rw [u7 _ (by omega), over_out _ _ _ fun p hp e => by have := hx p hp; omega]
      exact h.is n hn
    have hpt : ∀ i (hi : i < ps.length), U.newest (2 + i) = (ps[i]).2 := fun i hi => by rw [u7 _ (by omega), over_layX ps 2 i _ hi]
    have hr : U.rcd 0 = S.rcd 0 := St.rcd_of (hlo 0 (by omega)) (hlo 1 (by omega))
    have hcnt : (U.rcd 0).count < 9223372036854775807 := by rw [hr]; have := h.cnt; omega
    rcases store_all (S := U) (k := 0) (by rw [u2]; omega) (by rw [u2]; exact h2) u4 ⟨u6 _, u6 _⟩ (by rw [hr]; exact h.laid) hcnt (recB (ps.map (·.1))) (recB_len _ (by omega)) with ⟨V, v1, v2, v3⟩ | ⟨V, v1, v2, v3, v4, v5, v6⟩
    · rw [v1]
      have hl2 : V.safe.length = S.safe.length := v2.len.trans u2
      have hn : ∀ n, 2 ≤ n → n < S.safe.length → V.newest n = U.newest n := fun n k1 k2 => v2.other n (by rw [u2]; exact k2) (by omega) (by omega)
      have hpF : partsF V 2 (ps.map (·.1)) = ps := partsF_of V ps 2 fun i hi => by rw [hn _ (by omega) (by omega)]; exact hpt i hi
      refine .inl ⟨V, rfl, ⟨by rw [hl2]; exact h1, by rw [hl2]; exact h2, v2.pend, by rw [v2.rec_], ?_, by omega, ?_, by rw [v2.rec_], ?_⟩, hpF, v2.up, hl2, v2.fused.trans u5⟩
      · rw [v2.rec_, hr]
        show (S.rcd 0).count + 1 ≤ V.ops
        have := h.cnt
        omega
      · rw [hl2]
        intro n hn2
        obtain ⟨p, hp, rfl⟩ := List.mem_map.1 hn2
        exact hin p hp
      · rw [hl2, hpF]
        intro n hn2
        refine over_same ps _ _ n (.inr ?_)
        rw [hn _ (by omega) (by omega)]
        exact hhi n hn2
    · rw [v1]
      have hl0 : V.safe.length = S.safe.length := by rw [v3]; exact u2
      refine .inr ⟨V, rfl, v2, hl0, fun cr => ?_⟩
      have hl2 : (V.crash cr).safe.length = S.safe.length := by rw [crash_len]; exact hl0
      have hn : ∀ n, 2 ≤ n → n < S.safe.length → (V.crash cr).newest n = U.newest n := fun n k1 k2 => by
        have hp : V.pend n = [] := (v5 n (by omega) (by omega)).trans (u6 n)
        rw [crash_calm V cr n (by rw [hl0]; exact k2) hp, V.newest_none n hp, v3, U.newest_none n (u6 n)]
      rcases v6 cr with hh | ⟨ho, hh⟩
      · refine ⟨[], c, ⟨by rw [hl2]; exact h1, by rw [hl2]; exact h2, fun _ => rfl, by rw [hh, hr]; exact h.laid, ?_, by simp, by simp, by rw [hh, hr]; exact h.data, ?_⟩, .inl fun n hn2 => ?_⟩
        · rw [hh, hr]
          show (S.rcd 0).count ≤ V.ops
          have := h.cnt
          omega
        · rw [hl2]
          intro n hn2
          show (V.crash cr).newest (20 + n) = c n
          rw [hn _ (by omega) (by omega), hhi n hn2]
        · rw [← h.is n hn2]
          exact S.may_newest _
      · have hpF : partsF (V.crash cr) 2 (ps.map (·.1)) = ps := partsF_of _ ps 2 fun i hi => by rw [hn _ (by omega) (by omega)]; exact hpt i hi
        refine ⟨ps.map (·.1), over ps c, ⟨by rw [hl2]; exact h1, by rw [hl2]; exact h2, fun _ => rfl, by rw [hh], ?_, by omega, ?_, by rw [hh], ?_⟩, .inr fun _ _ => rfl⟩
        · rw [hh, hr]
          show (S.rcd 0).count + 1 ≤ V.ops
          have := h.cnt
          omega
        · rw [hl2]
          intro n hn2
          obtain ⟨p, hp, rfl⟩ := List.mem_map.1 hn2
          exact hin p hp
        · rw [hl2, hpF]
          intro n hn2
          refine over_same ps _ _ n (.inr ?_)
          show (V.crash cr).newest (20 + n) = c n
          rw [hn _ (by omega) (by omega), hhi n hn2]
  · rw [u1, thn_down]
    have hl2 : U.safe.length = S.safe.length := congrArg _ u3.safe
    refine .inr ⟨U, rfl, u4, hl2, fun cr => ⟨[], _, h.crashW u3 (fun y hy => (hx y (u2 y hy)).1) cr, .inl fun n hn => ?_⟩⟩
    rcases u3.crash cr (20 + n) (by omega) with k | k | ⟨p, hp, e, _⟩
    · exact .inl k
    · exact .inr k
    · have := hx p (u2 p hp)
      omega

/-- A commit: it went well, or the device is down, and behind a crash all of it is there, or nothing. -/
theorem commit_cases {S : St} {c : Nat → List UInt8} (h : Quiet S c) (ps : List (Nat × List UInt8)) (hl : ps.length ≤ 16) (hin : ∀ p ∈ ps, p.1 < S.safe.length - 20) (hb : S.ops < 9223372036854775806)
    (hb2 : ∀ T, S.layJ ps = (0, T) → T.ops < 9223372036854775806) :
    (∃ T, S.commitJ ps = (0, T) ∧ Quiet T (over ps c) ∧ (∀ n, T.pend n = []) ∧ T.safe.length = S.safe.length ∧ T.fused = S.fused) ∨
    (∃ T, S.commitJ ps = (2, T) ∧ T.down = true ∧ T.safe.length = S.safe.length ∧ ∀ cr, ∃ ns' c', Sound (T.crash cr) ns' c' ∧ ((∀ n, n < S.safe.length - 20 → S.may (20 + n) (c' n)) ∨ ∀ n, n < S.safe.length - 20 → c' n = over ps c n)) := by
  unfold St.commitJ
  by_cases he : ps = []
  · rw [if_pos he]
    subst he
    unfold St.settleJ
    rw [if_pos rfl]
    have h1 := h.l1
    rcases wrf_cases (setX []) S h.up with ⟨U, u1, u2, u3, u4, u5, u6, u7⟩ | ⟨U, ys, u1, u2, u3, u4⟩
    · rw [u1]
      have hn : ∀ n, n < S.safe.length → U.newest n = S.newest n := fun n hn => by rw [u7 n hn]; rfl
      have hr : U.rcd 0 = S.rcd 0 := St.rcd_of (hn 0 (by omega)) (hn 1 (by omega))
      refine .inl ⟨U, rfl, ⟨by rw [u2]; exact h.l1, by rw [u2]; exact h.l2, u4, ⟨u6 _, u6 _⟩, by rw [hr]; exact h.laid, by rw [hr]; exact Int.le_trans h.cnt u3, by rw [hr]; exact h.data, ?_⟩, u6, u2, u5⟩
      rw [u2]
      intro n hn2
      rw [hn _ (by omega)]
      exact h.is n hn2
    · rw [u1]
      have hy : ∀ y ∈ ys, False := fun y hy => by have := u2 y hy; simp [setX] at this
      refine .inr ⟨U, rfl, u4, congrArg _ u3.safe, fun cr => ⟨[], _, h.crashW u3 (fun y hy' => (hy y hy').elim) cr, .inl fun n hn => ?_⟩⟩
      rcases u3.crash cr (20 + n) (by omega) with k | k | ⟨p, hp, e, _⟩
      · exact .inl k
      · exact .inr k
      · exact (hy p hp).elim
  · rw [if_neg he]
    rcases lay_cases h ps hl hin hb with ⟨T, t1, t2, t3, t4, t5, t6⟩ | ⟨T, t1, t2, t3, t4⟩
    · rw [t1, thn_ok]
      have hs := settle_cases t2 t4 (hb2 T t1)
      rw [t3] at hs
      rcases hs with ⟨V, v1, v2, v3, v4, v5⟩ | ⟨V, v1, v2, v3, v4⟩
      · exact .inl ⟨V, v1, v2, v3, v4.trans t5, v5.trans t6⟩
      · refine .inr ⟨V, v1, v2, v3.trans t5, fun cr => ?_⟩
        obtain ⟨ns', hs⟩ := v4 cr
        exact ⟨ns', _, hs, .inr fun _ _ => rfl⟩
    · rw [t1, thn_down]
      exact .inr ⟨T, rfl, t2, t3, t4⟩

theorem rds_cases (S : St) (hd : S.down = false) : ∀ k, (∃ T, S.rds k = (0, T) ∧ Alike S T ∧ T.down = false ∧ T.fused = S.fused) ∨ (∃ T, S.rds k = (2, T) ∧ Alike S T ∧ T.down = true)
  | 0 => .inl ⟨S, rfl, Alike.refl S, hd, rfl⟩
  | k + 1 => by
    rw [St.rds]
    rcases rds_cases S hd k with ⟨T, t1, t2, t3, t4⟩ | ⟨T, t1, t2, t3⟩
    · rw [t1, thn_ok]
      unfold St.rd1
      rw [if_neg (by rw [t3]; decide)]
      by_cases hw : T.well
      · rw [if_pos hw]
        exact .inl ⟨_, rfl, t2.burn, by rw [St.well_up hw]; exact t3, t4⟩
      · rw [if_neg hw]
        exact .inr ⟨_, rfl, t2.burn, St.unwell hw⟩
    · rw [t1, thn_down]
      exact .inr ⟨T, rfl, t2, t3⟩

/-- What waits is told, or the device stops. -/
theorem wait_cases {S : St} {ns : List Nat} {c : Nat → List UInt8} (h : Sound S ns c) (hd : S.down = false) :
    (∃ T, S.waitJ (S.safe.length - 20 : Nat) = ((0, T), partsF T 2 ns) ∧ Alike S T ∧ T.down = false ∧ T.fused = S.fused) ∨
    (∃ T, S.waitJ (S.safe.length - 20 : Nat) = ((2, T), []) ∧ Alike S T ∧ T.down = true) := by
  unfold St.waitJ
  by_cases hr : S.reads
  · have h2 := h.l2
    have e : blkB ((S.safe.length - 20 : Nat) : Int) (S.rcd 0).data = some ns := by
      rw [h.data]
      exact blkB_recB _ (by omega) ns h.ns1 fun n hn => by have := h.ns2 n hn; omega
    have hd2 : S.burn.burn.down = false := by rw [St.well_up hr.2.2, St.well_up hr.2.1]; exact hd
    rw [if_pos hr, if_pos h.laid, e]
    simp only
    rcases rds_cases S.burn.burn hd2 ns.length with ⟨T, t1, t2, t3, t4⟩ | ⟨T, t1, t2, t3⟩
    · rw [t1]
      have ha : Alike S T := ⟨t2.safe, t2.pend, Int.le_trans (Int.le_trans S.burn_ops S.burn.burn_ops) t2.ops⟩
      refine .inl ⟨T, ?_, ha, t3, t4⟩
      rw [partsF_same (S := S) (T := T) ns 2 fun i _ _ => ha.newest i]
      rfl
    · rw [t1]
      exact .inr ⟨T, rfl, ⟨t2.safe, t2.pend, Int.le_trans (Int.le_trans S.burn_ops S.burn.burn_ops) t2.ops⟩, t3⟩
  · rw [if_neg hr]
    exact .inr ⟨_, rfl, (Alike.refl S).halted, St.halted_down hr⟩

/-- An opening: it goes well, or the device stops, and behind a crash all is as it would have been. -/
theorem open_cases {S : St} {ns : List Nat} {c : Nat → List UInt8} (h : Sound S ns c) (hd : S.down = false) (hb : ∀ T, (S.waitJ (S.safe.length - 20 : Nat)).1 = (0, T) → T.ops < 9223372036854775806) :
    (∃ T, S.openJ (S.safe.length - 20 : Nat) = (0, T) ∧ Quiet T c ∧ (∀ n, T.pend n = []) ∧ T.safe.length = S.safe.length ∧ T.fused = S.fused) ∨
    (∃ T, S.openJ (S.safe.length - 20 : Nat) = (2, T) ∧ T.down = true ∧ T.safe.length = S.safe.length ∧ ∀ cr, ∃ ns', Sound (T.crash cr) ns' c) := by
  unfold St.openJ
  rcases wait_cases h hd with ⟨T, t1, t2, t3, t4⟩ | ⟨T, t1, t2, t3⟩
  · have hbT := hb T (by rw [t1])
    rw [t1]
    simp only [thn_ok]
    rcases settle_cases (h.alike t2) t3 hbT with ⟨V, v1, v2, v3, v4, v5⟩ | ⟨V, v1, v2, v3, v4⟩
    · exact .inl ⟨V, v1, v2, v3, by rw [v4, t2.safe], v5.trans t4⟩
    · exact .inr ⟨V, v1, v2, by rw [v3, t2.safe], v4⟩
  · rw [t1]
    simp only [thn_down]
    exact .inr ⟨T, rfl, t3, congrArg _ t2.safe, fun cr => ⟨ns, (h.alike t2).crash cr⟩⟩

/-- A block that is put by itself. -/
theorem put_cases {S : St} {c : Nat → List UInt8} (h : Quiet S c) (n : Nat) (L : List UInt8) (hn : n < S.safe.length - 20) :
    (∃ T, S.wr (20 + n, L) = (0, T) ∧ T = S.burn.wrote (20 + n) L ∧ Quiet T (fun m => if m = n then L else c m)) ∨ (∃ T, S.wr (20 + n, L) = (2, T) ∧ T = S.burn ∧ T.down = true) := by
  unfold St.wr
  rw [if_neg (by rw [h.up]; decide)]
  have h1 := h.l1
  by_cases hw : S.well
  · rw [if_pos hw]
    refine .inl ⟨_, rfl, rfl, ?_⟩
    have hne : ∀ m, (S.burn.wrote (20 + n) L).newest m = if m = 20 + n then L else S.newest m := fun m => St.newest_wrote' S.burn _ m L
    have hr : (S.burn.wrote (20 + n) L).rcd 0 = S.rcd 0 := St.rcd_of (by rw [hne, if_neg (by omega)]) (by rw [hne, if_neg (by omega)])
    refine ⟨h.l1, h.l2, by show S.burn.down = false; rw [St.well_up hw]; exact h.up, ⟨?_, ?_⟩, by rw [hr]; exact h.laid, by rw [hr]; exact Int.le_trans h.cnt S.burn_ops, by rw [hr]; exact h.data, fun m hm => ?_⟩
    · show putP S.pend (20 + n) L 0 = []
      unfold putP
      rw [if_neg (by omega)]; exact h.calm.1
    · show putP S.pend (20 + n) L 1 = []
      unfold putP
      rw [if_neg (by omega)]; exact h.calm.2
    · rw [hne]
      by_cases e : m = n
      · rw [if_pos (by omega), if_pos e]
      · rw [if_neg (by omega), if_neg e]; exact h.is m hm
  · rw [if_neg hw]
    exact .inr ⟨_, rfl, rfl, St.unwell hw⟩
end Go.Proofs.YtfnhhjpebilacaaGreat

/-
  DERIVED. lay.
-/
namespace Go.Proofs.YtfnhhjpebilacaaGreat
open Go.RowKit
set_option linter.unusedVariables false
set_option maxRecDepth 20000

/-- A record's two blocks are not touched by what is written behind them. -/
theorem wrf_rcd (S : St) (xs : List (Nat × List UInt8)) (hx : ∀ x ∈ xs, 2 ≤ x.1) (hl : 64 ≤ S.safe.length) (h0 : (thn (wrsP (0, S) xs) St.fl).1 = 0) : (thn (wrsP (0, S) xs) St.fl).2.rcd 0 = S.rcd 0 ∧ (thn (wrsP (0, S) xs) St.fl).2.safe.length = S.safe.length := by
  by_cases hd : S.down = true
  · exfalso
    have hw : ∀ xs : List (Nat × List UInt8), (wrsP (0, S) xs = (0, S)) ∨ wrsP (0, S) xs = (2, S) := by
      intro xs
      cases xs with
      | nil => exact .inl rfl
      | cons x xs =>
        right
        rw [wrsP_cons, thn_ok]
        have e : S.wr x = (2, S) := by unfold St.wr; rw [if_pos hd]
        rw [e, wrsP_down]
    have e2 : S.fl = (2, S) := by unfold St.fl; rw [if_pos hd]
    rcases hw xs with h | h
    · rw [h, thn_ok, e2] at h0; cases h0
    · rw [h, thn_down] at h0; cases h0
  · rcases wrf_cases xs S (by simpa using hd) with ⟨T, t1, t2, _, _, _, _, t7⟩ | ⟨T, ys, t1, _⟩
    · rw [t1]
      refine ⟨St.rcd_of ?_ ?_, t2⟩
      · rw [t7 0 (by omega), over_out _ _ _ fun p hp e => by have := hx p hp; omega]
      · rw [t7 1 (by omega), over_out _ _ _ fun p hp e => by have := hx p hp; omega]
    · rw [t1] at h0; cases h0
theorem wrs_len (S : St) : ∀ xs : List (Nat × List UInt8), (wrsP (0, S) xs).2.safe.length = S.safe.length := by
  intro xs
  by_cases hd : S.down = true
  · cases xs with
    | nil => rfl
    | cons x xs =>
      rw [wrsP_cons, thn_ok]
      have e : S.wr x = (2, S) := by unfold St.wr; rw [if_pos hd]
      rw [e, wrsP_down]
  · rcases wrs_cases xs S (by simpa using hd) with ⟨T, t1, t2, _⟩ | ⟨T, ys, t1, _, t3, _⟩
    · rw [t1]; exact congrArg _ t2.safe
    · rw [t1]; exact congrArg _ t3.safe

theorem DevB.len {w : World} {b base : Nat} {F : Nat → Prop} {N : Nat} {S : St} (h : DevB w b base F N S) : 64 ≤ S.safe.length ∧ S.safe.length ≤ 512 ∧ 0 ≤ S.ops ∧ S.ops ≤ N := by
  obtain ⟨g, c', m, vf, D, h0⟩ := h.dev
  exact ⟨h0.n1, h0.n2, h0.o1, h0.o2⟩
/-- Where the parts lie. -/
def PAt (v : Value) (g : Nat) (ps : List (Nat × List UInt8)) : Prop := ∃ cap, v = .slice (some ⟨g, 0, none⟩) ps.length cap
theorem Pts.off {w : World} {F : Nat → Prop} {v : Value} {ps : List (Nat × List UInt8)} (h : Pts w v ps) : ∃ ao cap, v = .slice ao ps.length cap := by
  obtain ⟨ao, cap, e, _⟩ := h
  exact ⟨ao, cap, e⟩
/-- None of the parts' memory is the device's. -/
def OffV (F : Nat → Prop) (v : Value) : Prop := ∀ g, v.ownBlock = some g → ¬ F g
theorem boxes3 (w W3 : World) (o1 o2 o3 : Obj) (hW3 : W3 = ((w.alloc o1).alloc o2).alloc o3) : W3.heap.size = w.heap.size + 3 ∧ Below w.heap.size w W3 ∧ W3.heap[w.heap.size]? = some o1 ∧ W3.heap[w.heap.size + 1]? = some o2 ∧ W3.heap[w.heap.size + 2]? = some o3 := by
  subst hW3
  have z1 : (w.alloc o1).heap.size = w.heap.size + 1 := by simp
  have z2 : ((w.alloc o1).alloc o2).heap.size = w.heap.size + 2 := by simp
  refine ⟨by simp, (((Below.refl _ _).alloc (Nat.le_refl _) _).alloc (by omega) _).alloc (by omega) _, ?_, ?_, ?_⟩
  · rw [Below.heap_alloc _ _ _ (by omega), Below.heap_alloc _ _ _ (by omega)]; exact heap_alloc_self _ _
  · rw [Below.heap_alloc _ _ _ (by omega)]
    have := heap_alloc_self (w.alloc o1) o2
    rw [z1] at this; exact this
  · have := heap_alloc_self ((w.alloc o1).alloc o2) o3
    rw [z2] at this; exact this
theorem Pts.frame {w w' : World} {v : Value} {ps : List (Nat × List UInt8)} (h : Pts w v ps) (hs : w.heap.size ≤ w'.heap.size) (hk : ∀ g, v.ownBlock = some g → g < w.heap.size → w'.heap[g]? = w.heap[g]?) : Pts w' v ps := by
  obtain ⟨ao, cap, e, h1, h2, h3, h4, h5⟩ := h
  refine ⟨ao, cap, e, h1, h2, h3, h4, fun hn => ?_⟩
  obtain ⟨g, e2, hb, hc⟩ := h5 hn
  exact ⟨g, e2, Nat.lt_of_lt_of_le hb hs, fun i hi j u hj => (World.cell?_of_block (hk g (by rw [e, e2]; rfl) hb)).trans (hc i hi j u hj)⟩

theorem flush_step {w : World} {b base : Nat} {F : Nat → Prop} {N : Nat} {S : St} (h : DevB w b base F N S) (hN : N < 800000) :
    Calls Tryz.prog 45 (#[.pointer (some ⟨b, 0, none⟩)] ++ #[]) w fun e w' => e = .returned (.int .i64 (S.fl).1) ∧ Went w w' b base F (N + 2) (S.fl).2 := Flush_all h (by omega)

set_option maxHeartbeats 4000000 in
theorem lay_go {w : World} {b base : Nat} {F : Nat → Prop} {N : Nat} {S : St} (h : DevB w b base F N S) (hN : N < 600000) (hc : (S.rcd 0).count < 9223372036854775807) (lb : Nat) (v : Value) (ps : List (Nat × List UInt8)) (hv : Pts w v ps) (hvF : OffV F v)
    (cd : w.cell? ⟨lb, 0, none⟩ = some (.pointer (some ⟨b, 0, none⟩))) (od : Off w F lb) :
    Calls Tryz.prog 32 #[.pointer (some ⟨lb, 0, none⟩), v] w fun e w' => e = .returned (.int .i64 (S.layJ ps).1) ∧ Went w w' b base F (N + 60) (S.layJ ps).2 := by
  obtain ⟨hl1, hl2, _, _⟩ := h.len
  have hFs : ∀ j, F j → j < w.heap.size := fun j hj => (h.foot j hj).2
  have h16 : ps.length ≤ 16 := by obtain ⟨ao, cap, e, h1, _⟩ := hv; exact h1
  have hrl := recB_len (ps.map (·.1)) (by rw [List.length_map]; exact h16)
  obtain ⟨W3, hW3⟩ : ∃ W3, W3 = ((w.alloc (.cells #[.pointer (some ⟨lb, 0, none⟩)] 25)).alloc (.cells #[v] 75)).alloc (.cells #[.int .i64 0] 35) := ⟨_, rfl⟩
  obtain ⟨z3, hb3, hbl, hbp, hbe⟩ := boxes3 _ _ _ _ _ hW3
  have HB := hide hb3
  have CH0 : Hid (Chn W3 W3 b base (w.heap.size + 2) F N (0, S)) := hide (Chn.start (h.grown (unhide HB)) hbe)
  have hEF : ¬ F (w.heap.size + 2) := fun hf => by have := hFs _ hf; omega
  have hXF : ∀ q, w.heap.size ≤ q → ¬ F q := fun q hq hf => by have := hFs _ hf; omega
  have hbs : base ≤ W3.heap.size := by have := h.bs; omega
  -- what stays, wherever the chain stands
  have HBX : Hid (∀ W M p, Chn W3 W b base (w.heap.size + 2) F M p → W.heap[w.heap.size]? = some (.cells #[.pointer (some ⟨lb, 0, none⟩)] 25 (0, 0)) ∧ W.heap[w.heap.size + 1]? = some (.cells #[v] 75 (0, 0)) ∧ W.cell? ⟨lb, 0, none⟩ = some (.pointer (some ⟨b, 0, none⟩)) ∧ Pts W v ps) := hide fun W M p hch => by
    refine ⟨(hch.block _ (by omega) (hXF _ (by omega)) (by omega)).trans hbl, (hch.block _ (by omega) (hXF _ (by omega)) (by omega)).trans hbp, ?_, ?_⟩
    · have h1 := od.1
      rw [World.cell?_of_block (hch.block lb (by omega) od.2 (by omega)), (unhide HB).cell (p := ⟨lb, 0, none⟩) od.1]
      exact cd
    · refine hv.frame (Nat.le_trans (unhide HB).size hch.size) fun g hg hlt => ?_
      exact (hch.block g (by omega) (hvF g hg) (by omega)).trans ((unhide HB).block g hlt)
  have HV := hide hv
  have hvc : ∃ ao cap, v = .slice ao ps.length cap := by obtain ⟨ao, cap, e, _⟩ := hv; exact ⟨ao, cap, e⟩
  obtain ⟨ao, cap, hve⟩ := hvc
  obtain ⟨n, hn⟩ : ∃ n, n = ps.length := ⟨_, rfl⟩
  rw [← hn] at hve h16
  have HN := hide hn
  have hnI : (n : Int) ≤ 16 := by omega
  obtain ⟨eb, heb⟩ : ∃ eb, eb = w.heap.size + 1 + 1 := ⟨_, rfl⟩
  rw [show w.heap.size + 2 = eb from heb.symm] at CH0 HBX hEF
  have cpp : W3.cell? ⟨w.heap.size + 1, 0, none⟩ = some v := (cell_of_row _ _ _ _ _ _ hbp).trans rfl
  have hebl : eb < W3.heap.size := by omega
  have hebw : w.heap.size ≤ eb := by omega
  subst hve
  clear hbl hbp hbe hb3 h hv cd hn
  have SEG : ∀ args W, (callFunc 53 args).run Tryz.prog W = .ok (.enter 53 args) W := enters_ok Tryz.func53 (by kernel_rfl) rfl
  have SEG2 : ∀ args W, (callFunc 54 args).run Tryz.prog W = .ok (.enter 54 args) W := enters_ok Tryz.func54 (by kernel_rfl) rfl
  have SEGF : ∀ args W, (callFunc 45 args).run Tryz.prog W = .ok (.enter 45 args) W := enters_ok Tryz.func45 (by kernel_rfl) rfl
  have H1 := hide SEG
  have H2 := hide SEG2
  have HFl := hide SEGF
  clear SEG SEG2 SEGF
  go_enter Tryz.func32, Tryz.ntmps32
  go_wp2_with (first | (go_at_call 30; refine (chain_any _).mono ?_; rintro e w1 ⟨rfl, rfl⟩) | fail)
  rw [← hW3, ← heb]
  have HW3 := hide hW3
  have HEB := hide heb
  clear hW3 heb
  go_loopw [10] (fun i wr => ∃ j : Nat, i = .int .i64 (j : Int) ∧ j ≤ n ∧ Hid (Chn W3 wr b base eb F (N + 2 * j) (wrsP (0, S) ((layX 2 ps).take j)))) (fun i _ => n - (intOf i).toNat)
  case atStart => exact ⟨0, rfl, by omega, CH0⟩
  case round =>
    obtain ⟨j, rfl, hj, HC⟩ := hrel
    by_cases hlt : j < n
    · have hlt' : (j : Int) < (n : Int) := by omega
      have hjp : j < ps.length := by rw [← unhide HN]; exact hlt
      have hc1 := (unhide HC).grown (w' := wr.alloc (.cells #[.int .i64 (j : Int)] 3)) ((Below.refl _ _).alloc (Nat.le_refl _) _) hebl
      have HC1 := hide hc1
      obtain ⟨x1, x2, x3, x4⟩ := unhide HBX _ _ _ hc1
      have hsz := (unhide HC).size
      obtain ⟨W, hW⟩ : ∃ W, W = wr.alloc (.cells #[.int .i64 (j : Int)] 3) := ⟨_, rfl⟩
      have hWs : W.heap.size = wr.heap.size + 1 := by rw [hW]; simp
      have ci : W.cell? ⟨wr.heap.size, 0, none⟩ = some (.int .i64 (j : Int)) := by rw [hW]; exact (cell_of_row _ _ _ _ _ _ (heap_alloc_self _ _)).trans rfl
      have HTK : Hid ((layX 2 ps).take (j + 1) = (layX 2 ps).take j ++ [(2 + j, (ps[j]).2)]) := hide (by
        rw [List.take_succ_eq_append_getElem (by rw [layX_len]; exact hjp), layX_get ps 2 j hjp])
      have STEP : Hid (Calls Tryz.prog 52 #[.func (.func 53) #[] #[.pointer (some ⟨w.heap.size, 0, none⟩), .pointer (some ⟨wr.heap.size, 0, none⟩), .pointer (some ⟨w.heap.size + 1, 0, none⟩)], .pointer (some ⟨eb, 0, none⟩)] W fun e w' => e = .returned (.int .i64 (wrsP (0, S) ((layX 2 ps).take (j + 1))).1) ∧ Chn W3 w' b base eb F (N + 2 * (j + 1)) (wrsP (0, S) ((layX 2 ps).take (j + 1)))) := hide (by
        rw [unhide HTK, wrsP_snoc]
        rw [← hW] at hc1 x1 x2 x3 x4
        refine then_chn (M2 := N + 2 * (j + 1)) (unhide HC) (by rw [hW]; exact (Below.refl _ _).alloc (Nat.le_refl _) _) hebl hEF hbs (by omega) 53 #[] _ (unhide H1) fun h0 F' hD hF' hF2 => ?_
        have hnF : ∀ q, q < W3.heap.size → ¬ F q → ¬ F' q := fun q hq hq2 hf => (hF' q hf).elim hq2 fun h => by omega
        obtain ⟨ao', cap', e, _, _, _, h4, h5⟩ := x4
        rw [← unhide HN] at e
        obtain ⟨g, eg, hgl, hrg⟩ := h5 (by omega)
        injection e with e1 e2 e3
        subst e1 eg
        have hi : ¬ F' wr.heap.size := fun hf => absurd (hF2 _ hf) (Nat.lt_irrefl _)
        refine (lay1_any hD (by omega) w.heap.size wr.heap.size (w.heap.size + 1) lb j n cap g (ps[j]) ((cell_of_row _ _ _ _ _ _ x1).trans rfl) x3 ci ((cell_of_row _ _ _ _ _ _ x2).trans rfl) ⟨by omega, hnF _ (by omega) (hXF _ (by omega))⟩ ⟨by have := od.1; omega, hnF _ (by have := od.1; omega) od.2⟩ ⟨by omega, hi⟩ ⟨by omega, hnF _ (by omega) (hXF _ (by omega))⟩ hlt (by omega) hgl (hrg j hjp) (h4 _ (List.getElem_mem hjp)).1).mono ?_
        rintro e w' ⟨rfl, hw⟩
        exact ⟨rfl, hw.mono (by omega)⟩)
      rw [hW] at STEP
      clear hc1 x1 x2 x3 x4 ci hW hWs HC
      go_wp2_with fail
      refine (unhide STEP).mono ?_
      rintro e w5 ⟨rfl, hc5⟩
      have HC5 := hide hc5
      clear hc5 STEP
      go_wp2
      go_roundw
      case rel => exact ⟨j + 1, by go_num, by omega, HC5⟩
      case measure => simp [intOf]; omega
    · have hlt' : ¬ (j : Int) < (n : Int) := by omega
      have hjn : j = n := by omega
      have hc1 := unhide HC
      rw [hjn, unhide HN, List.take_of_length_le (by rw [layX_len]; exact Nat.le_refl _)] at hc1
      obtain ⟨x1, x2, x3, x4⟩ := unhide HBX _ _ _ hc1
      have hsz := hc1.size
      have c1 : wr.cell? ⟨w.heap.size, 0, none⟩ = some (.pointer (some ⟨lb, 0, none⟩)) := (cell_of_row _ _ _ _ _ _ x1).trans rfl
      have STEP : Hid (Calls Tryz.prog 52 #[.func (.func 45) #[.pointer (some ⟨b, 0, none⟩)] #[], .pointer (some ⟨eb, 0, none⟩)] wr fun e w' => e = .returned (.int .i64 (thn (wrsP (0, S) (layX 2 ps)) St.fl).1) ∧ Chn W3 w' b base eb F (N + 40) (thn (wrsP (0, S) (layX 2 ps)) St.fl)) := hide (by
        refine then_chn (M2 := N + 40) hc1 (Below.refl _ _) hebl hEF hbs (by rw [← unhide HN]; omega) 45 _ #[] (unhide HFl) fun h0 F' hD hF' hF2 => ?_
        refine (flush_step hD (by rw [← unhide HN]; omega)).mono ?_
        rintro e w' ⟨rfl, hw⟩
        exact ⟨rfl, hw.mono (by rw [← unhide HN]; omega)⟩)
      clear hc1 x1 x2 x4 HC hjn hlt hj
      go_wp2_with fail
      refine (unhide STEP).mono ?_
      rintro e w5 ⟨rfl, hc5⟩
      have HC5 := hide hc5
      obtain ⟨x1, x2, x3', x4⟩ := unhide HBX _ _ _ hc5
      have hsz5 := hc5.size
      have STEP2 : Hid (Calls Tryz.prog 52 #[.func (.func 54) #[] #[.pointer (some ⟨w.heap.size, 0, none⟩), .pointer (some ⟨w.heap.size + 1, 0, none⟩)], .pointer (some ⟨eb, 0, none⟩)] w5 fun e w' => e = .returned (.int .i64 (S.layJ ps).1) ∧ Chn W3 w' b base eb F (N + 60) (S.layJ ps)) := hide (by
        refine then_chn (M2 := N + 60) hc5 (Below.refl _ _) hebl hEF hbs (by omega) 54 #[] _ (unhide H2) fun h0 F' hD hF' hF2 => ?_
        have hnF : ∀ q, q < W3.heap.size → ¬ F q → ¬ F' q := fun q hq hq2 hf => (hF' q hf).elim hq2 fun h => by omega
        have hrc := wrf_rcd S (layX 2 ps) (fun x hx => (layX_mem ps 2 x hx).1) hl1 h0
        refine (lay2_any hD (by omega) (by rw [hrc.1]; exact hc) w.heap.size (w.heap.size + 1) lb _ ps x4 hrl ((cell_of_row _ _ _ _ _ _ x1).trans rfl) x3' ((cell_of_row _ _ _ _ _ _ x2).trans rfl) ⟨by omega, hnF _ (by omega) (hXF _ (by omega))⟩ ⟨by have := od.1; omega, hnF _ (by have := od.1; omega) od.2⟩ ⟨by omega, hnF _ (by omega) (hXF _ (by omega))⟩).mono ?_
        rintro e w' ⟨rfl, hw⟩
        exact ⟨rfl, hw.mono (by omega)⟩)
      clear hc5 x1 x2 x3' x4 STEP c1 x3
      go_wp2_with fail
      refine (unhide STEP2).mono ?_
      rintro e w6 ⟨rfl, hc6⟩
      have HC6 := hide hc6
      clear hc6 STEP2
      go_wp2
      go_ret
      exact ⟨rfl, (unhide HC6).went (unhide HB) hebw⟩
end Go.Proofs.YtfnhhjpebilacaaGreat

/-
  DERIVED. settle.
-/
namespace Go.Proofs.YtfnhhjpebilacaaGreat
open Go.RowKit
set_option linter.unusedVariables false
set_option maxRecDepth 20000

set_option maxHeartbeats 4000000 in
theorem settle_go {w : World} {b base : Nat} {F : Nat → Prop} {N : Nat} {S : St} (h : DevB w b base F N S) (hN : N < 600000) (hc : (S.rcd 0).count < 9223372036854775807) (lb : Nat) (v : Value) (ps : List (Nat × List UInt8)) (hv : Pts w v ps) (hvF : OffV F v) (hin : ∀ p ∈ ps, p.1 + 20 < S.safe.length)
    (cd : w.cell? ⟨lb, 0, none⟩ = some (.pointer (some ⟨b, 0, none⟩))) (od : Off w F lb) :
    Calls Tryz.prog 34 #[.pointer (some ⟨lb, 0, none⟩), v] w fun e w' => e = .returned (.int .i64 (S.settleJ ps).1) ∧ Went w w' b base F (N + 60) (S.settleJ ps).2 := by
  obtain ⟨hl1, hl2, _, _⟩ := h.len
  have hFs : ∀ j, F j → j < w.heap.size := fun j hj => (h.foot j hj).2
  have h16 : ps.length ≤ 16 := by obtain ⟨ao, cap, e, h1, _⟩ := hv; exact h1
  have hrl := recB_len [] (by simp)
  obtain ⟨W3, hW3⟩ : ∃ W3, W3 = ((w.alloc (.cells #[.pointer (some ⟨lb, 0, none⟩)] 25)).alloc (.cells #[v] 75)).alloc (.cells #[.int .i64 0] 35) := ⟨_, rfl⟩
  obtain ⟨z3, hb3, hbl, hbp, hbe⟩ := boxes3 _ _ _ _ _ hW3
  have HB := hide hb3
  have CH0 : Hid (Chn W3 W3 b base (w.heap.size + 2) F N (0, S)) := hide (Chn.start (h.grown (unhide HB)) hbe)
  have hEF : ¬ F (w.heap.size + 2) := fun hf => by have := hFs _ hf; omega
  have hXF : ∀ q, w.heap.size ≤ q → ¬ F q := fun q hq hf => by have := hFs _ hf; omega
  have hbs : base ≤ W3.heap.size := by have := h.bs; omega
  -- what stays, wherever the chain stands
  have HBX : Hid (∀ W M p, Chn W3 W b base (w.heap.size + 2) F M p → W.heap[w.heap.size]? = some (.cells #[.pointer (some ⟨lb, 0, none⟩)] 25 (0, 0)) ∧ W.heap[w.heap.size + 1]? = some (.cells #[v] 75 (0, 0)) ∧ W.cell? ⟨lb, 0, none⟩ = some (.pointer (some ⟨b, 0, none⟩)) ∧ Pts W v ps) := hide fun W M p hch => by
    refine ⟨(hch.block _ (by omega) (hXF _ (by omega)) (by omega)).trans hbl, (hch.block _ (by omega) (hXF _ (by omega)) (by omega)).trans hbp, ?_, ?_⟩
    · have h1 := od.1
      rw [World.cell?_of_block (hch.block lb (by omega) od.2 (by omega)), (unhide HB).cell (p := ⟨lb, 0, none⟩) od.1]
      exact cd
    · refine hv.frame (Nat.le_trans (unhide HB).size hch.size) fun g hg hlt => ?_
      exact (hch.block g (by omega) (hvF g hg) (by omega)).trans ((unhide HB).block g hlt)
  have HV := hide hv
  have hvc : ∃ ao cap, v = .slice ao ps.length cap := by obtain ⟨ao, cap, e, _⟩ := hv; exact ⟨ao, cap, e⟩
  obtain ⟨ao, cap, hve⟩ := hvc
  obtain ⟨n, hn⟩ : ∃ n, n = ps.length := ⟨_, rfl⟩
  rw [← hn] at hve h16
  have HN := hide hn
  have hnI : (n : Int) ≤ 16 := by omega
  obtain ⟨eb, heb⟩ : ∃ eb, eb = w.heap.size + 1 + 1 := ⟨_, rfl⟩
  rw [show w.heap.size + 2 = eb from heb.symm] at CH0 HBX hEF
  have cpp : W3.cell? ⟨w.heap.size + 1, 0, none⟩ = some v := (cell_of_row _ _ _ _ _ _ hbp).trans rfl
  have hebl : eb < W3.heap.size := by omega
  have hebw : w.heap.size ≤ eb := by omega
  subst hve
  clear hbl hbp hbe hb3 h hv cd hn
  have SEG : ∀ args W, (callFunc 55 args).run Tryz.prog W = .ok (.enter 55 args) W := enters_ok Tryz.func55 (by kernel_rfl) rfl
  have SEG2 : ∀ args W, (callFunc 56 args).run Tryz.prog W = .ok (.enter 56 args) W := enters_ok Tryz.func56 (by kernel_rfl) rfl
  have SEGF : ∀ args W, (callFunc 45 args).run Tryz.prog W = .ok (.enter 45 args) W := enters_ok Tryz.func45 (by kernel_rfl) rfl
  have H1 := hide SEG
  have H2 := hide SEG2
  have HFl := hide SEGF
  clear SEG SEG2 SEGF
  go_enter Tryz.func34, Tryz.ntmps34
  go_wp2_with (first | (go_at_call 30; refine (chain_any _).mono ?_; rintro e w1 ⟨rfl, rfl⟩) | fail)
  rw [← hW3, ← heb]
  have HW3 := hide hW3
  have HEB := hide heb
  clear hW3 heb
  go_loopw [11] (fun i wr => ∃ j : Nat, i = .int .i64 (j : Int) ∧ j ≤ n ∧ Hid (Chn W3 wr b base eb F (N + 2 * j) (wrsP (0, S) ((setX ps).take j)))) (fun i _ => n - (intOf i).toNat)
  case atStart => exact ⟨0, rfl, by omega, CH0⟩
  case round =>
    obtain ⟨j, rfl, hj, HC⟩ := hrel
    by_cases hlt : j < n
    · have hlt' : (j : Int) < (n : Int) := by omega
      have hjp : j < ps.length := by rw [← unhide HN]; exact hlt
      have hc1 := (unhide HC).grown (w' := wr.alloc (.cells #[.int .i64 (j : Int)] 3)) ((Below.refl _ _).alloc (Nat.le_refl _) _) hebl
      have HC1 := hide hc1
      obtain ⟨x1, x2, x3, x4⟩ := unhide HBX _ _ _ hc1
      have hsz := (unhide HC).size
      obtain ⟨W, hW⟩ : ∃ W, W = wr.alloc (.cells #[.int .i64 (j : Int)] 3) := ⟨_, rfl⟩
      have hWs : W.heap.size = wr.heap.size + 1 := by rw [hW]; simp
      have ci : W.cell? ⟨wr.heap.size, 0, none⟩ = some (.int .i64 (j : Int)) := by rw [hW]; exact (cell_of_row _ _ _ _ _ _ (heap_alloc_self _ _)).trans rfl
      have HTK : Hid ((setX ps).take (j + 1) = (setX ps).take j ++ [(20 + (ps[j]).1, (ps[j]).2)]) := hide (by
        rw [List.take_succ_eq_append_getElem (by rw [setX, List.length_map]; exact hjp)]; simp [setX])
      have STEP : Hid (Calls Tryz.prog 52 #[.func (.func 55) #[] #[.pointer (some ⟨w.heap.size, 0, none⟩), .pointer (some ⟨w.heap.size + 1, 0, none⟩), .pointer (some ⟨wr.heap.size, 0, none⟩)], .pointer (some ⟨eb, 0, none⟩)] W fun e w' => e = .returned (.int .i64 (wrsP (0, S) ((setX ps).take (j + 1))).1) ∧ Chn W3 w' b base eb F (N + 2 * (j + 1)) (wrsP (0, S) ((setX ps).take (j + 1)))) := hide (by
        rw [unhide HTK, wrsP_snoc]
        rw [← hW] at hc1 x1 x2 x3 x4
        refine then_chn (M2 := N + 2 * (j + 1)) (unhide HC) (by rw [hW]; exact (Below.refl _ _).alloc (Nat.le_refl _) _) hebl hEF hbs (by omega) 55 #[] _ (unhide H1) fun h0 F' hD hF' hF2 => ?_
        have hnF : ∀ q, q < W3.heap.size → ¬ F q → ¬ F' q := fun q hq hq2 hf => (hF' q hf).elim hq2 fun h => by omega
        obtain ⟨ao', cap', e, _, _, _, h4, h5⟩ := x4
        rw [← unhide HN] at e
        obtain ⟨g, eg, hgl, hrg⟩ := h5 (by omega)
        injection e with e1 e2 e3
        subst e1 eg
        have hi : ¬ F' wr.heap.size := fun hf => absurd (hF2 _ hf) (Nat.lt_irrefl _)
        have hog : ¬ F' g := fun hf => by
          obtain ⟨ao2, cap2, ev, _, _, _, _, hv5⟩ := unhide HV
          obtain ⟨g2, eg2, hg2, _⟩ := hv5 (by rw [← unhide HN]; omega)
          injection ev with ev1
          rw [eg2] at ev1
          cases ev1
          exact (hF' _ hf).elim (hvF _ rfl) fun h => by omega
        have hlen : (wrsP (0, S) ((setX ps).take j)).2.safe.length = S.safe.length := wrs_len S _
        refine (settle1_any hD (by omega) w.heap.size wr.heap.size (w.heap.size + 1) lb j n cap g (ps[j]) ((cell_of_row _ _ _ _ _ _ x1).trans rfl) x3 ci ((cell_of_row _ _ _ _ _ _ x2).trans rfl) ⟨by omega, hnF _ (by omega) (hXF _ (by omega))⟩ ⟨by have := od.1; omega, hnF _ (by have := od.1; omega) od.2⟩ ⟨by omega, hi⟩ ⟨by omega, hnF _ (by omega) (hXF _ (by omega))⟩ ⟨hgl, hog⟩ hlt (by omega) (hrg j hjp) (h4 _ (List.getElem_mem hjp)).1 (by rw [hlen]; exact hin _ (List.getElem_mem hjp))).mono ?_
        rintro e w' ⟨rfl, hw⟩
        exact ⟨rfl, hw.mono (by omega)⟩)
      rw [hW] at STEP
      clear hc1 x1 x2 x3 x4 ci hW hWs HC
      go_wp2_with fail
      refine (unhide STEP).mono ?_
      rintro e w5 ⟨rfl, hc5⟩
      have HC5 := hide hc5
      clear hc5 STEP
      go_wp2
      go_roundw
      case rel => exact ⟨j + 1, by go_num, by omega, HC5⟩
      case measure => simp [intOf]; omega
    · have hlt' : ¬ (j : Int) < (n : Int) := by omega
      have hjn : j = n := by omega
      have hc1 := unhide HC
      rw [hjn, unhide HN, List.take_of_length_le (by rw [setX, List.length_map]; exact Nat.le_refl _)] at hc1
      obtain ⟨x1, x2, x3, x4⟩ := unhide HBX _ _ _ hc1
      have hsz := hc1.size
      have c1 : wr.cell? ⟨w.heap.size, 0, none⟩ = some (.pointer (some ⟨lb, 0, none⟩)) := (cell_of_row _ _ _ _ _ _ x1).trans rfl
      have STEP : Hid (Calls Tryz.prog 52 #[.func (.func 45) #[.pointer (some ⟨b, 0, none⟩)] #[], .pointer (some ⟨eb, 0, none⟩)] wr fun e w' => e = .returned (.int .i64 (thn (wrsP (0, S) (setX ps)) St.fl).1) ∧ Chn W3 w' b base eb F (N + 40) (thn (wrsP (0, S) (setX ps)) St.fl)) := hide (by
        refine then_chn (M2 := N + 40) hc1 (Below.refl _ _) hebl hEF hbs (by rw [← unhide HN]; omega) 45 _ #[] (unhide HFl) fun h0 F' hD hF' hF2 => ?_
        refine (flush_step hD (by rw [← unhide HN]; omega)).mono ?_
        rintro e w' ⟨rfl, hw⟩
        exact ⟨rfl, hw.mono (by rw [← unhide HN]; omega)⟩)
      clear hc1 x1 x2 x4 HC hjn hlt hj
      go_wp2_with fail
      refine (unhide STEP).mono ?_
      rintro e w5 ⟨rfl, hc5⟩
      have HC5 := hide hc5
      obtain ⟨x1, x2, x3', x4⟩ := unhide HBX _ _ _ hc5
      have hsz5 := hc5.size
      have c2 : w5.cell? ⟨w.heap.size + 1, 0, none⟩ = some (.slice ao n cap) := (cell_of_row _ _ _ _ _ _ x2).trans rfl
      by_cases hn0 : n = 0
      · have hps : ps = [] := List.eq_nil_of_length_eq_zero (by rw [← unhide HN]; exact hn0)
        have HE : Hid (S.settleJ ps = thn (wrsP (0, S) (setX ps)) St.fl) := hide (by unfold St.settleJ; rw [if_pos hps])
        have hnl : ¬ (n : Int) > 0 := by omega
        clear hc5 x1 x2 x3' x4 STEP c1 x3 hps hn0
        go_wp2
        go_ret
        rw [unhide HE]
        exact ⟨rfl, ((unhide HC5).mono (by omega)).went (unhide HB) hebw⟩
      · have hps : ps ≠ [] := fun e => hn0 (by rw [unhide HN, e]; rfl)
        have HE : Hid (S.settleJ ps = thn (thn (wrsP (0, S) (setX ps)) St.fl) (fun T => T.store 0 (recB []))) := hide (by unfold St.settleJ; rw [if_neg hps])
        have hnl : (n : Int) > 0 := by omega
        have STEP2 : Hid (Calls Tryz.prog 52 #[.func (.func 56) #[] #[.pointer (some ⟨w.heap.size, 0, none⟩)], .pointer (some ⟨eb, 0, none⟩)] w5 fun e w' => e = .returned (.int .i64 (S.settleJ ps).1) ∧ Chn W3 w' b base eb F (N + 60) (S.settleJ ps)) := hide (by
          rw [unhide HE]
          refine then_chn (M2 := N + 60) hc5 (Below.refl _ _) hebl hEF hbs (by omega) 56 #[] _ (unhide H2) fun h0 F' hD hF' hF2 => ?_
          have hnF : ∀ q, q < W3.heap.size → ¬ F q → ¬ F' q := fun q hq hq2 hf => (hF' q hf).elim hq2 fun h => by omega
          have hrc := wrf_rcd S (setX ps) (fun x hx => by obtain ⟨p, hp, rfl⟩ := List.mem_map.1 hx; simp only; omega) hl1 h0
          refine (settle2_any hD (by omega) (by rw [hrc.1]; exact hc) w.heap.size lb hrl ((cell_of_row _ _ _ _ _ _ x1).trans rfl) x3' ⟨by omega, hnF _ (by omega) (hXF _ (by omega))⟩ ⟨by have := od.1; omega, hnF _ (by have := od.1; omega) od.2⟩).mono ?_
          rintro e w' ⟨rfl, hw⟩
          exact ⟨rfl, hw.mono (by omega)⟩)
        clear hc5 x1 x2 x3' x4 STEP c1 x3 hps hn0
        go_wp2_with fail
        refine (unhide STEP2).mono ?_
        rintro e w6 ⟨rfl, hc6⟩
        have HC6 := hide hc6
        clear hc6 STEP2
        go_wp2
        go_ret
        exact ⟨rfl, (unhide HC6).went (unhide HB) hebw⟩
end Go.Proofs.YtfnhhjpebilacaaGreat

/-
  DERIVED. A block of parts in memory: made, filled, read.
-/
namespace Go.Proofs.YtfnhhjpebilacaaGreat
open Go.RowKit
set_option linter.unusedVariables false
set_option maxRecDepth 20000

/-- Parts as cells. -/
def ptsC (ps : List (Nat × List UInt8)) : List Value := ps.flatMap ptC
def WideP (ps : List (Nat × List UInt8)) : Prop := ∀ p ∈ ps, p.2.length = 512
theorem ptsC_cons (p : Nat × List UInt8) (ps : List (Nat × List UInt8)) : ptsC (p :: ps) = ptC p ++ ptsC ps := rfl
theorem WideP.cons {p : Nat × List UInt8} {ps : List (Nat × List UInt8)} (h : WideP (p :: ps)) : p.2.length = 512 ∧ WideP ps := ⟨h p (by simp), fun q hq => h q (by simp [hq])⟩
theorem WideP.set {ps : List (Nat × List UInt8)} (h : WideP ps) (k : Nat) (p : Nat × List UInt8) (hp : p.2.length = 512) : WideP (ps.set k p) := by
  intro q hq
  rcases List.mem_or_eq_of_mem_set hq with h1 | h1
  · exact h q h1
  · rw [h1]; exact hp
theorem ptsC_len : ∀ {ps : List (Nat × List UInt8)}, WideP ps → (ptsC ps).length = ps.length * 513
  | [], _ => rfl
  | p :: ps, h => by rw [ptsC_cons, List.length_append, ptC_len h.cons.1, ptsC_len h.cons.2, List.length_cons]; omega
theorem ptsC_at : ∀ {ps : List (Nat × List UInt8)}, WideP ps → ∀ (k : Nat) (hk : k < ps.length) (j : Nat), j < 513 → (ptsC ps)[k * 513 + j]? = (ptC ps[k])[j]?
  | [], _, k, hk, _, _ => by simp at hk
  | p :: ps, h, 0, _, j, hj => by
    have hl := ptC_len h.cons.1
    rw [ptsC_cons, Nat.zero_mul, Nat.zero_add, List.getElem?_append_left (by rw [hl]; exact hj)]; rfl
  | p :: ps, h, k + 1, hk, j, hj => by
    have hl := ptC_len h.cons.1
    rw [ptsC_cons, List.getElem?_append_right (by rw [hl]; omega), hl]
    have e : (k + 1) * 513 + j - 513 = k * 513 + j := by omega
    rw [e, ptsC_at h.cons.2 k (by simpa using hk) j hj]
    rfl
theorem ptsC_set : ∀ {ps : List (Nat × List UInt8)}, WideP ps → ∀ (k : Nat) (hk : k < ps.length) (L : List UInt8), L.length = 512 →
    (ptsC ps).take (k * 513 + 1) ++ L.map bv ++ (ptsC ps).drop (k * 513 + 1 + 512) = ptsC (ps.set k (ps[k].1, L))
  | [], _, k, hk, _, _ => by simp at hk
  | p :: ps, h, 0, _, L, hL => by
    have hl : (p.2.map bv).length = 512 := by rw [List.length_map]; exact h.cons.1
    rw [List.set_cons_zero, ptsC_cons, ptsC_cons]
    show List.take (0 * 513 + 1) (Value.int .i64 (p.1 : Int) :: (p.2.map bv ++ ptsC ps)) ++ L.map bv ++ List.drop (0 * 513 + 1 + 512) (Value.int .i64 (p.1 : Int) :: (p.2.map bv ++ ptsC ps)) = (Value.int .i64 (p.1 : Int) :: L.map bv) ++ ptsC ps
    have e : List.drop (0 * 513 + 1 + 512) (Value.int .i64 (p.1 : Int) :: (p.2.map bv ++ ptsC ps)) = ptsC ps := by
      rw [show 0 * 513 + 1 + 512 = 512 + 1 by omega, List.drop_succ_cons, List.drop_append_of_le_length (by rw [hl]; exact Nat.le_refl _), List.drop_eq_nil_of_le (by rw [hl]; exact Nat.le_refl _)]; rfl
    rw [e]
    simp
  | p :: ps, h, k + 1, hk, L, hL => by
    have hl := ptC_len h.cons.1
    have ih := ptsC_set h.cons.2 k (by simpa using hk) L hL
    rw [List.set_cons_succ, ptsC_cons, ptsC_cons]
    have e1 : (k + 1) * 513 + 1 = (ptC p).length + (k * 513 + 1) := by omega
    rw [e1, Nat.add_assoc, List.take_length_add_append, List.drop_length_add_append, List.append_assoc, List.append_assoc]
    rw [List.append_assoc] at ih
    rw [ih]
    rfl
theorem ptsC_num : ∀ {ps : List (Nat × List UInt8)}, WideP ps → ∀ (k : Nat) (hk : k < ps.length) (n : Nat), (ptsC ps).set (k * 513) (.int .i64 (n : Int)) = ptsC (ps.set k (n, ps[k].2))
  | [], _, k, hk, _ => by simp at hk
  | p :: ps, h, 0, _, n => by rw [List.set_cons_zero, ptsC_cons, ptsC_cons]; rfl
  | p :: ps, h, k + 1, hk, n => by
    have hl := ptC_len h.cons.1
    rw [List.set_cons_succ, ptsC_cons, ptsC_cons, List.set_append_right _ _ (by rw [hl]; omega), hl, show (k + 1) * 513 - 513 = k * 513 by omega, ptsC_num h.cons.2 k (by simpa using hk) n]
    rfl

/-- The parts at block g. -/
def PBlk (w : World) (g : Nat) (ps : List (Nat × List UInt8)) : Prop := w.heap[g]? = some (.cells (ptsC ps).toArray 78 (0, 0))
theorem PBlk.range {w : World} {g : Nat} {ps : List (Nat × List UInt8)} (h : PBlk w g ps) (hw : WideP ps) (k : Nat) (hk : k < ps.length) : w.rangeAt g (k * 513) (ptC ps[k]) := by
  intro j v hj
  have hjl : j < 513 := by
    have := (List.getElem?_eq_some_iff.1 hj).1
    rw [ptC_len (hw _ (List.getElem_mem hk))] at this
    exact this
  rw [cell_of_row _ _ _ _ _ _ h, List.getElem?_toArray, ptsC_at hw k hk j hjl]
  exact hj
theorem PBlk.pts {w : World} {g : Nat} {ps : List (Nat × List UInt8)} (h : PBlk w g ps) (hw : WideP ps) (hl : ps.length ≤ 16) (hn : ∀ p ∈ ps, p.1 ≤ 512) : Pts w (.slice (some ⟨g, 0, none⟩) ps.length ps.length) ps :=
  ⟨_, _, rfl, hl, Nat.le_refl _, by omega, fun p hp => ⟨hw p hp, hn p hp⟩, fun _ => ⟨g, rfl, lt_of_block h, fun i hi => h.range hw i hi⟩⟩
theorem PBlk.num {w : World} {g : Nat} {ps : List (Nat × List UInt8)} (h : PBlk w g ps) (hw : WideP ps) (k : Nat) (hk : k < ps.length) (n : Nat) : PBlk (w.setCell ⟨g, k * 513, none⟩ (.int .i64 (n : Int))) g (ps.set k (n, ps[k].2)) := by
  unfold PBlk
  rw [heap_setCell_same w g (k * 513) _ _ _ h]
  congr 2
  apply Array.ext'
  rw [← ptsC_num hw k hk n]
  simp
/-- 512 bytes are copied into a part. -/
theorem PBlk.copy {w : World} {g : Nat} {ps : List (Nat × List UInt8)} (h : PBlk w g ps) (hw : WideP ps) (k : Nat) (hk : k < ps.length) (ty : TypeId) (a : Option Addr) (cap : Nat) (L : List UInt8) (hL : L.length = 512) (hv : Sl w (.slice a 512 cap) L) :
    ∃ w', (Builtin.copy_ #[34, 34] ty #[.slice (some ⟨g, k * 513 + 1, none⟩) 512 512, .slice a 512 cap]).run Tryz.prog w = .ok (goInt 512) w' ∧ PBlk w' g (ps.set k (ps[k].1, L)) ∧ Only g w w' := by
  obtain ⟨ao, cap', e, h1, h2, h4⟩ := hv
  rw [hL] at e h1
  injection e with e1 e2 e3
  subst e1 e3
  obtain ⟨db, off, rfl, hlt, hc⟩ := h4 (by omega)
  have hl : (L.map bv).length = 512 := by rw [List.length_map]; exact hL
  have hsz : (ptsC ps).toArray.size = ps.length * 513 := by rw [List.size_toArray, ptsC_len hw]
  have hr := run_copy_row (P := Tryz.prog) w 34 34 ty 5 g (k * 513 + 1) 512 512 ⟨db, off, none⟩ 512 cap (ptsC ps).toArray 78 (L.map bv) Tryz.underlying34 sizeU8 h hl ?_ (by rw [hl, hsz]; omega) (bv_one L)
  · rw [hl] at hr
    refine ⟨_, hr, ?_, ?_⟩
    · unfold PBlk
      rw [setRow_heap _ _ _ _ _ _ h, ← ptsC_set hw k hk L hL]
    · exact ⟨by simp [World.setRow], fun j hj => setRow_other _ _ _ _ hj, fun base hb => below_setRowD _ _ _ _ hb⟩
  · intro j v hj
    rw [addr_add]
    have hjl : j < L.length := by have := (List.getElem?_eq_some_iff.1 hj).1; simpa using this
    rw [hc j hjl]
    simpa [hjl] using hj
theorem infoPart : (Tryz.prog.info? 78).map (fun i => (i.zero, i.size, i.bytes)) = some (some (.agg zeroPart), 513, 520) := by kernel_rfl
def zeroP : Nat × List UInt8 := (0, List.replicate 512 0)
theorem zeroP_cells : (ptC zeroP).toArray = zeroPart := by kernel_rfl
theorem ptsC_rep (p : Nat × List UInt8) (hp : p.2.length = 512) : ∀ n i, i < n * 513 → (ptsC (List.replicate n p))[i]? = (ptC p)[i % 513]?
  | 0, i, h => by omega
  | n + 1, i, h => by
    have hl := ptC_len hp
    rw [List.replicate_succ, ptsC_cons]
    by_cases hi : i < 513
    · rw [List.getElem?_append_left (by rw [hl]; exact hi), Nat.mod_eq_of_lt hi]
    · rw [List.getElem?_append_right (by rw [hl]; omega), hl, ptsC_rep p hp n (i - 513) (by omega)]
      congr 1
      omega
theorem made_parts (n : Nat) : madeCells zeroPart (n * 513) = (ptsC (List.replicate n zeroP)).toArray := by
  have hw : WideP (List.replicate n zeroP) := fun p hp => by rw [List.eq_of_mem_replicate hp]; exact List.length_replicate
  have hl : (ptC zeroP).length = 513 := ptC_len List.length_replicate
  have hs : (ptsC (List.replicate n zeroP)).length = n * 513 := by rw [ptsC_len hw, List.length_replicate]
  have hm0 : (madeCells zeroPart (n * 513)).size = n * 513 := by simp [madeCells]
  refine Array.ext' (List.ext_getElem (by rw [Array.length_toList, hm0]; exact hs.symm) ?_)
  intro i h1 h2
  have h2 : i < n * 513 := by rw [Array.length_toList, hm0] at h1; exact h1
  have e := ptsC_rep zeroP List.length_replicate n i h2
  have hm : i % 513 < 513 := Nat.mod_lt _ (by omega)
  rw [List.getElem?_eq_getElem (by rw [hs]; exact h2), List.getElem?_eq_getElem (by rw [hl]; exact hm)] at e
  have e2 := Option.some.inj e
  show _ = (ptsC (List.replicate n zeroP))[i]
  rw [e2]
  have e3 : (madeCells zeroPart (n * 513)).toList[i]? = some (zeroPart[i % 513]!) := by
    rw [Array.getElem?_toList]
    unfold madeCells
    rw [Array.getElem?_map, Array.getElem?_range, if_pos h2, Option.map_some]
    simp only [size_zeroPart]
  rw [List.getElem?_eq_getElem h1] at e3
  rw [Option.some.inj e3, getElem!_pos zeroPart (i % 513) (by rw [size_zeroPart]; exact hm)]
  simp only [← zeroP_cells]
  rw [List.getElem_toArray]
theorem run_make_parts (w : World) (n : Nat) (hn : n ≤ 16) : (Instr.makeSlice 75 (.int .i64 (n : Int)) (.int .i64 (n : Int))).run Tryz.prog w = .ok (.slice (some ⟨w.heap.size, 0, none⟩) n n) (w.alloc (.cells (ptsC (List.replicate n zeroP)).toArray 78)) := by
  obtain ⟨i, hi, hh⟩ := Option.map_eq_some_iff.1 infoPart
  simp only [Prod.mk.injEq] at hh
  have h := run_make (P := Tryz.prog) w 75 78 i _ Tryz.underlying75 hi hh.1 .i64 .i64 n n (by omega) (Int.le_refl _) (by rw [hh.2.2]; omega) (by omega)
  rw [h, hh.2.1, Int.toNat_natCast]
  show Result.ok _ (w.alloc (.cells (madeCells zeroPart (n * 513)) 78)) = _
  rw [made_parts]
end Go.Proofs.YtfnhhjpebilacaaGreat

/-
  DERIVED. b[k:] of bytes, whatever its capacity.
-/
namespace Go.Proofs.YtfnhhjpebilacaaGreat
open Go.RowKit
set_option linter.unusedVariables false

theorem run_from {w : World} {v : Value} {l : List UInt8} (h : Sl w v l) (k : Nat) (hk : k ≤ l.length) :
    ∃ a n c, (Instr.sliceAt 34 v (some (.int .i64 (k : Int))) none none).run Tryz.prog w = .ok (.slice a n c) w ∧ ∀ W, Sl W v l → Sl W (.slice a n c) (l.drop k) := by
  have hu : Tryz.prog.underlying 34 = some (.slice (Tryz.prog.elem 34)) := by kernel_rfl
  have hz : (sizeOf (Tryz.prog.elem 34)).run Tryz.prog w = .ok 1 w := by kernel_rfl
  obtain ⟨ao, cap, rfl, h1, h2, _⟩ := h
  rw [run_sliceAt_slice w 34 _ _ _ _ hu, run_slice_l w 34 ao l.length cap hu .i64 (k : Int) (by omega) (by omega), hz]
  simp only [Result.andThen_ok, sliced, Int.toNat_natCast, Nat.mul_one]
  refine ⟨_, _, _, rfl, fun W hW => ?_⟩
  obtain ⟨ao', cap', e, _, _, h4⟩ := hW
  injection e with e1 e2 e3
  subst e1 e3
  by_cases hc : cap = k
  · have e : l.drop k = [] := List.drop_eq_nil_of_le (by omega)
    rw [e, if_pos hc]
    have e1 : l.length - k = 0 := by omega
    have e2 : cap - k = 0 := by omega
    rw [e1, e2]
    exact ⟨_, _, rfl, Nat.le_refl _, Nat.zero_le _, fun h => absurd rfl h⟩
  · rw [if_neg hc]
    refine ⟨_, _, by rw [List.length_drop], by rw [List.length_drop]; omega, Nat.le_trans (Nat.sub_le _ _) h2, fun hn => ?_⟩
    obtain ⟨b, off, rfl, hb, hcell⟩ := h4 (by omega)
    refine ⟨b, off + k, by simp [Addr.add], hb, fun i hi => ?_⟩
    rw [List.length_drop] at hi
    rw [Nat.add_assoc, hcell (k + i) (by omega), List.getElem_drop]

theorem wpList_from {ops : Array Oper} {rest : List Oper} {o : Oper} {a : Act} {w : World} {Q : Exit → Act → World → Prop} (hgd : o.guard = none) (s t : Operand)
    (ho : o.op = .slice 34 s (some t) none none) (v : Value) (l : List UInt8) (hs : a.eval s = v) (hv : Sl w v l) (k : Nat) (ht : a.eval t = .int .i64 (k : Int)) (hk : k ≤ l.length)
    (h : ∀ x n c, (∀ W, Sl W v l → Sl W (.slice x n c) (l.drop k)) → wpList Tryz.prog ops Q rest (a.put o.dst (.slice x n c)) w) : wpList Tryz.prog ops Q (o :: rest) a w := by
  refine wpList_plain hgd fun K hK => ?_
  unfold Oper.wp execOp
  obtain ⟨x, n, c, e, hx⟩ := run_from hv k hk
  simp only [ho, hs, ht, Option.map_some, Option.map_none, Sem.run_bind, Sem.run_pure, e, Result.andThen_ok]
  exact hK _ _ (h x n c hx)
end Go.Proofs.YtfnhhjpebilacaaGreat

/-
  DERIVED. offers, blocks.
-/
namespace Go.Proofs.YtfnhhjpebilacaaGreat
open Go.RowKit
set_option linter.unusedVariables false

theorem offers_any (w : World) (lb : Nat) (n size : Int) (h : w.cell? ⟨lb, 1, none⟩ = some (.int .i64 size)) :
    Calls Tryz.prog 24 #[.pointer (some ⟨lb, 0, none⟩), .int .i64 n] w fun e w' => e = .returned (.bool (decide (0 ≤ n ∧ n < size))) ∧ w' = w := by
  by_cases h0 : 0 ≤ n
  · by_cases h1 : n < size
    · rw [decide_eq_true (show 0 ≤ n ∧ n < size from ⟨h0, h1⟩)]
      go_enter Tryz.func24, Tryz.ntmps24
      go_wp2
      go_ret
      exact ⟨by simp, rfl⟩
    · rw [decide_eq_false (show ¬ (0 ≤ n ∧ n < size) from fun h => h1 h.2)]
      go_enter Tryz.func24, Tryz.ntmps24
      go_wp2
      go_ret
      exact ⟨by simp, rfl⟩
  · rw [decide_eq_false (show ¬ (0 ≤ n ∧ n < size) from fun h => h0 h.1)]
    go_enter Tryz.func24, Tryz.ntmps24
    go_wp2
    go_ret
    exact ⟨rfl, rfl⟩

/-- A row of numbers. -/
def ICells (L : List Nat) : List Value := L.map fun (n : Nat) => Value.int .i64 (n : Int)
def IRow (w : World) (g : Nat) (L : List Nat) : Prop := w.heap[g]? = some (.cells (ICells L).toArray 3 (0, 0))
theorem IRow.cell {w : World} {g : Nat} {L : List Nat} (h : IRow w g L) {i : Nat} (hi : i < L.length) : w.cell? ⟨g, i, none⟩ = some (.int .i64 (L[i] : Int)) := by
  rw [cell_of_row _ _ _ _ _ _ h]
  simp [ICells, hi]
theorem IRow.set {w : World} {g : Nat} {L : List Nat} (h : IRow w g L) (i c : Nat) : IRow (w.setCell ⟨g, i, none⟩ (.int .i64 (c : Int))) g (L.set i c) := by
  unfold IRow
  rw [heap_setCell_same w g i _ _ _ h]
  congr 2
  apply Array.ext'
  simp [ICells, List.map_set]
theorem made_ints (n : Nat) : madeCells #[Value.int .i64 0] n = (ICells (List.replicate n 0)).toArray := by
  apply Array.ext'
  rw [toList_madeCells_one]
  simp [ICells]
theorem Tryz.infoIntJ : (Tryz.prog.info? 3).map (fun i => (i.zero, i.size, i.bytes)) = some (some (.int .i64 0), 1, 8) := by kernel_rfl
theorem run_make_ints (w : World) (m : Nat) (hm : m ≤ 512) : (Instr.makeSlice 31 (.int .i64 (m : Int)) (.int .i64 (m : Int))).run Tryz.prog w = .ok (.slice (some ⟨w.heap.size, 0, none⟩) m m) (w.alloc (.cells (ICells (List.replicate m 0)).toArray 3)) := by
  obtain ⟨i, hi, hh⟩ := Option.map_eq_some_iff.1 Tryz.infoIntJ
  simp only [Prod.mk.injEq] at hh
  have h := run_make (P := Tryz.prog) w 31 3 i _ Tryz.underlying31 hi hh.1 .i64 .i64 m m (by omega) (Int.le_refl _) (by rw [hh.2.2]; omega) (by omega)
  rw [h, hh.2.1, Int.toNat_natCast, Nat.mul_one]
  show Result.ok _ (w.alloc (.cells (madeCells #[Value.int .i64 0] m) 3)) = _
  rw [made_ints]

def BlkPost (w : World) (size : Int) (l : List UInt8) (e : Ending) (w' : World) : Prop :=
  w.grownBy w' none ∧ ((blkB size l = none ∧ ∃ u, e = .returned (.tuple #[u, .bool false])) ∨ ∃ ns, blkB size l = some ns ∧ e = .returned (.tuple #[.slice (some ⟨w.heap.size, 0, none⟩) ns.length ns.length, .bool true]) ∧ IRow w' w.heap.size ns)
end Go.Proofs.YtfnhhjpebilacaaGreat

/-
  DERIVED. blocks.
-/
namespace Go.Proofs.YtfnhhjpebilacaaGreat
open Go.RowKit
set_option linter.unusedVariables false

/-- The last step of a record's reading. -/
def endB : Option (List Nat × List UInt8) → Option (List Nat)
  | some (ns, []) => some ns
  | _ => none
theorem blkB_no1 (size : Int) (l : List UInt8) (h : ¬ (pcE l 3 = 0 ∧ pcD l 3 = markB)) : blkB size l = none := by unfold blkB; rw [if_neg h]
theorem blkB_no2 (size : Int) (l l1 : List UInt8) (h1 : l1 = l.drop (pcK l 3)) (h : ¬ ((rd l1).2.2 = 0 ∧ 0 ≤ rdI l1 ∧ rdI l1 ≤ 16)) : blkB size l = none := by
  unfold blkB
  split
  · simp only [← h1]; rw [if_neg h]
  · rfl
theorem blkB_go (size : Int) (l l1 : List UInt8) (h0 : pcE l 3 = 0 ∧ pcD l 3 = markB) (h1 : l1 = l.drop (pcK l 3)) (h : (rd l1).2.2 = 0 ∧ 0 ≤ rdI l1 ∧ rdI l1 ≤ 16) : blkB size l = endB (numsB size (rdI l1).toNat (l1.drop (rd l1).2.1)) := by
  unfold blkB
  rw [if_pos h0]
  simp only [← h1]
  rw [if_pos h]
  cases numsB size (rdI l1).toNat (l1.drop (rd l1).2.1) with
  | none => rfl
  | some p => obtain ⟨a, b⟩ := p; cases b <;> rfl
theorem Sl.grownJ {w w' : World} {v : Value} {l : List UInt8} (h : Sl w v l) (hg : w.grownBy w' none) : Sl w' v l := h.below ⟨hg.os, hg.tape, hg.output, hg.size, fun k hk => hg.block k hk (by simp)⟩ (Nat.le_refl _)

set_option maxHeartbeats 8000000 in
set_option maxRecDepth 20000 in
theorem blocks_any (w : World) (lb : Nat) (v : Value) (l : List UInt8) (size : Int) (hc : w.cell? ⟨lb, 1, none⟩ = some (.int .i64 size)) (hv : Sl w v l) :
    Calls Tryz.prog 60 #[.pointer (some ⟨lb, 0, none⟩), v] w (BlkPost w size l) := by
  have HC := hide hc
  have HV := hide hv
  have TX := hide (Text_any v l 3 w hv (by omega) (by omega))
  obtain ⟨ao0, cap0, hve, _⟩ := hv
  obtain ⟨n0, hn0⟩ : ∃ n, n = l.length := ⟨_, rfl⟩
  rw [← hn0] at hve
  by_cases hok1 : pcE l 3 = 0 ∧ pcD l 3 = markB
  · have HOK1 := hide hok1
    have hK : pcK l 3 ≤ l.length := by
      obtain ⟨n, k, _, _, h3, h4, _⟩ := pc_zero hok1.1
      omega
    have HK := hide hK
    rw [hok1.1, hok1.2] at TX
    obtain ⟨K, hKK⟩ : ∃ K, K = pcK l 3 := ⟨_, rfl⟩
    rw [← hKK] at TX HK
    obtain ⟨l1, hl1⟩ : ∃ l1, l1 = l.drop (pcK l 3) := ⟨_, rfl⟩
    have HL1 := hide hl1
    have HLK : Hid (l.drop K = l1) := hide (by rw [hl1, hKK])
    have hrf := rd_facts l1
    subst hve
    clear hok1 hK hKK hl1 hn0
    go_enter Tryz.func60, Tryz.ntmps60
    go_wp2_with fail
    refine (unhide TX).mono ?_
    rintro e w1 ⟨rfl, rfl⟩
    go_wp2_with (refine wpList_from rfl (.tmp 24) (.tmp 25) rfl _ l rfl (unhide HV) K rfl (unhide HK) ?_)
    intro x1 n1 c1 s1'
    have s1 := s1' w (unhide HV)
    rw [unhide HLK] at s1
    clear s1'
    have HS1 := hide s1
    have IN := hide (Int_any _ l1 w s1)
    clear s1
    by_cases hok2 : (rd l1).2.2 = 0 ∧ 0 ≤ rdI l1 ∧ rdI l1 ≤ 16
    · have HB := hide (blkB_go size l l1 (unhide HOK1) (unhide HL1) hok2)
      have hk1 := (hrf.2.2.2 hok2.1).2.1
      rw [hok2.1] at IN
      obtain ⟨c, hcc⟩ : ∃ c : Nat, rdI l1 = (c : Int) := ⟨(rdI l1).toNat, by omega⟩
      rw [hcc] at IN HB hok2
      rw [Int.toNat_natCast] at HB
      obtain ⟨k1, hkk⟩ : ∃ k, k = (rd l1).2.1 := ⟨_, rfl⟩
      rw [← hkk] at IN HB hk1
      obtain ⟨l2, hl2⟩ : ∃ l2, l2 = l1.drop k1 := ⟨_, rfl⟩
      rw [← hl2] at HB
      have HL2 := hide hl2
      have HK1 := hide hk1
      have hc16 : c ≤ 16 := by omega
      have hcI : (c : Int) ≤ 16 := by omega
      clear hok2 hcc hkk hl2 hk1 hrf
      go_wp2_with fail
      refine (unhide IN).mono ?_
      rintro e w1 ⟨rfl, rfl⟩
      go_wp2_with (refine wpList_from rfl (.tmp 43) (.tmp 44) rfl _ l1 rfl (unhide HS1) k1 rfl (unhide HK1) ?_)
      intro x2 n2 c2 s2'
      have s2 := s2' w (unhide HS1)
      rw [← unhide HL2] at s2
      clear s2'
      have HS2 := hide s2
      clear s2
      have mk := run_make_ints w c (by omega)
      have hg0 : w.grownBy (w.alloc (.cells (ICells (List.replicate c 0)).toArray 3)) none := World.grownBy_alloc _ _ _
      have hr0 : IRow (w.alloc (.cells (ICells (List.replicate c 0)).toArray 3)) w.heap.size (List.replicate c 0) := heap_alloc_new _ _
      obtain ⟨W1, hW1⟩ : ∃ W1, W1 = w.alloc (.cells (ICells (List.replicate c 0)).toArray 3) := ⟨_, rfl⟩
      rw [← hW1] at mk hg0 hr0
      obtain ⟨g, hg⟩ : ∃ g, g = w.heap.size := ⟨_, rfl⟩
      rw [← hg] at mk hr0
      have HGe := hide hg
      have HG0 := hide hg0
      have HR0 := hide hr0
      clear hW1 hg0 hr0 hg
      go_wp2
      go_loopw [1, 50] (fun b i wr => ∃ (j : Nat) (xs : List Nat) (r : List UInt8) (xo : Option Addr) (xn xc : Nat), b = .slice xo xn xc ∧ i = .int .i64 (j : Int) ∧ j ≤ c ∧ Hid (xs.length = j) ∧ Hid (Sl w (.slice xo xn xc) r) ∧ Hid (numsB size c l2 = (numsB size (c - j) r).map (fun p => (xs ++ p.1, p.2))) ∧ Hid (IRow wr g (xs ++ List.replicate (c - j) 0)) ∧ Hid (w.grownBy wr none)) (fun _ i _ => c - (intOf i).toNat)
      case atStart => exact ⟨0, [], l2, x2, n2, c2, rfl, rfl, by omega, hide rfl, HS2, hide (by simp), HR0, HG0⟩
      case round =>
        obtain ⟨j, xs, r, xo, xn, xc, rfl, rfl, hj, HX, HS, HE, HR, HG⟩ := hrel
        clear HR0 HG0 HS2 mk
        by_cases hlt : j < c
        · have hlt' : (j : Int) < (c : Int) := by omega
          have hcj : c - j = (c - (j + 1)) + 1 := by omega
          have hrf := rd_facts r
          have HSt : Hid (numsB size (c - j) r = if (rd r).2.2 = 0 ∧ 0 ≤ rdI r ∧ rdI r < size then (numsB size (c - (j + 1)) (r.drop (rd r).2.1)).map (fun p => ((rdI r).toNat :: p.1, p.2)) else none) := hide (by rw [hcj]; rfl)
          have INr := hide (Int_any _ r wr ((unhide HS).grownJ (unhide HG)))
          have hgw := unhide HGe
          have hlw : lb < w.heap.size := World.block_lt_of_cell? w ⟨lb, 1, none⟩ (unhide HC)
          have hlg : lb ≠ g := by omega
          have hjl : j < (xs ++ List.replicate (c - j) 0).length := by rw [List.length_append, unhide HX, List.length_replicate]; omega
          have cg := (unhide HR).cell hjl
          obtain ⟨y0, hy0⟩ : ∃ y, y = (xs ++ List.replicate (c - j) 0)[j] := ⟨_, rfl⟩
          rw [← hy0] at cg
          have fg : ∀ i, wr.frozen? ⟨g, i, none⟩ = false := fun i => by simp [World.frozen?, show wr.heap[g]? = _ from unhide HR]
          have cl := (unhide HG).cell (unhide HC) (by simp)
          obtain ⟨x, hx⟩ : ∃ x, x = rdI r := ⟨_, rfl⟩
          obtain ⟨kr, hkr⟩ : ∃ k, k = (rd r).2.1 := ⟨_, rfl⟩
          obtain ⟨er, her⟩ : ∃ k, k = (rd r).2.2 := ⟨_, rfl⟩
          rw [← hx, ← hkr, ← her] at INr HSt
          rw [← hkr, ← her] at hrf
          have HKR : Hid (er = 0 → kr ≤ r.length) := hide (fun h => (hrf.2.2.2 h).2.1)
          have HGs : Hid (w.grownBy (wr.setCell ⟨g, j, none⟩ (.int .i64 x)) none) := hide ⟨(unhide HG).os, (unhide HG).tape, (unhide HG).output, by simpa using (unhide HG).size, fun q hq hn => (Below.heap_setCell wr ⟨g, j, none⟩ _ q (by show q ≠ g; omega)).trans ((unhide HG).block q hq hn)⟩
          have HRs : Hid (0 ≤ x → IRow (wr.setCell ⟨g, j, none⟩ (.int .i64 x)) g ((xs ++ [x.toNat]) ++ List.replicate (c - (j + 1)) 0)) := hide (fun h0 => by
            have h := (unhide HR).set j x.toNat
            rw [Int.toNat_of_nonneg h0] at h
            have e : (xs ++ List.replicate (c - j) 0).set j x.toNat = (xs ++ [x.toNat]) ++ List.replicate (c - (j + 1)) 0 := by
              rw [hcj, List.replicate_succ, List.set_append_right _ _ (by rw [unhide HX]; exact Nat.le_refl _), unhide HX, Nat.sub_self, List.set_cons_zero, List.append_assoc]
              rfl
            rw [e] at h
            exact h)
          have cl2 := (unhide HGs).cell (unhide HC) (by simp)
          clear hrf hcj hx hkr her hjl hy0 hgw
          go_wp2_with fail
          refine (unhide INr).mono ?_
          rintro e w1 ⟨rfl, rfl⟩
          by_cases he : er = 0
          · subst he
            have hkl := unhide HKR rfl
            go_wp2_with fail
            refine (offers_any _ lb x size cl2).mono ?_
            rintro e w1 ⟨rfl, rfl⟩
            by_cases hxx : 0 ≤ x ∧ x < size
            · rw [decide_eq_true hxx]
              have HXX := hide hxx
              have HKl := hide hkl
              clear hkl
              go_wp2_with (refine wpList_from rfl (.tmp 73) (.tmp 74) rfl _ r rfl ((unhide HS).grownJ (unhide HGs)) kr rfl (unhide HKl) ?_)
              intro x3 n3 c3 s3
              have HS3 := hide (s3 w (unhide HS))
              have HE3 : Hid (numsB size c l2 = (numsB size (c - (j + 1)) (r.drop kr)).map (fun p => ((xs ++ [x.toNat]) ++ p.1, p.2))) := hide (by
                rw [unhide HE, unhide HSt, if_pos ⟨trivial, unhide HXX⟩, Option.map_map]
                congr 1
                funext p
                simp)
              have HR3 := hide (unhide HRs hxx.1)
              have HX3 : Hid ((xs ++ [x.toNat]).length = j + 1) := hide (by rw [List.length_append, unhide HX]; rfl)
              clear s3 hxx HXX
              go_wp2
              go_roundw
              case rel => exact ⟨j + 1, _, _, x3, n3, c3, rfl, by go_num, by omega, HX3, HS3, HE3, HR3, HGs⟩
              case measure => simp [intOf]; omega
            · rw [decide_eq_false hxx]
              have HBn : Hid (blkB size l = none) := hide (by rw [unhide HB, unhide HE, unhide HSt, if_neg (fun h => hxx h.2)]; rfl)
              clear hxx
              go_wp2
              go_ret2
              exact ⟨unhide HGs, .inl ⟨unhide HBn, _, rfl⟩⟩
          · have hei : ((er : Int) == 0) = false := beq_eq_false_iff_ne.2 (by omega)
            have hen : ¬ (er : Int) = 0 := by omega
            have HBn : Hid (blkB size l = none) := hide (by rw [unhide HB, unhide HE, unhide HSt, if_neg (fun h => he h.1)]; rfl)
            clear he
            go_wp2
            go_ret2
            exact ⟨unhide HGs, .inl ⟨unhide HBn, _, rfl⟩⟩
        · have hlt' : ¬ (j : Int) < (c : Int) := by omega
          have hjc : j = c := by omega
          have hE := unhide HE
          have hR := unhide HR
          rw [hjc, Nat.sub_self] at hE hR
          simp only [numsB, Option.map_some, List.append_nil, List.replicate_zero] at hE hR
          have hX := unhide HX
          rw [hjc] at hX
          have HB2 : Hid (blkB size l = endB (some (xs, r))) := hide (by rw [unhide HB, hE])
          have HR2 : Hid (IRow wr w.heap.size xs) := hide (by rw [← unhide HGe]; exact hR)
          have HX2 := hide hX
          obtain ⟨_, _, hxe, _⟩ := id (unhide HS)
          have hxn : xn = r.length := by injection hxe
          by_cases hr0 : r = []
          · have hx0 : xn = 0 := by rw [hxn, hr0]; rfl
            have HBs : Hid (blkB size l = some xs) := hide (by rw [unhide HB2, hr0]; rfl)
            clear hE hR hX HE HR hxe hxn hr0 hjc hlt hj HB HX
            subst hx0
            go_wp2
            go_ret2
            refine ⟨unhide HG, .inr ⟨xs, unhide HBs, ?_, unhide HR2⟩⟩
            rw [unhide HX2, ← unhide HGe]
            rfl
          · have hx0 : ((xn : Int) == 0) = false := beq_eq_false_iff_ne.2 (by have := List.length_pos_iff.2 hr0; omega)
            have HBs : Hid (blkB size l = none) := hide (by rw [unhide HB2]; cases r with | nil => exact absurd rfl hr0 | cons a r => rfl)
            clear hE hR hX HE HR hxe hxn hr0 hjc hlt hj HB HX
            go_wp2
            go_ret2
            exact ⟨unhide HG, .inl ⟨unhide HBs, _, rfl⟩⟩
    · have HBn := hide (blkB_no2 size l l1 (unhide HL1) hok2)
      obtain ⟨x, hx⟩ : ∃ x, x = rdI l1 := ⟨_, rfl⟩
      obtain ⟨kr, hkr⟩ : ∃ k, k = (rd l1).2.1 := ⟨_, rfl⟩
      obtain ⟨er, her⟩ : ∃ k, k = (rd l1).2.2 := ⟨_, rfl⟩
      rw [← hx, ← hkr, ← her] at IN
      rw [← hx, ← her] at hok2
      clear hx hkr her hrf
      go_wp2_with fail
      refine (unhide IN).mono ?_
      rintro e w1 ⟨rfl, rfl⟩
      by_cases he : er = 0
      · subst he
        by_cases h0 : 0 ≤ x
        · have h1 : ¬ x < 0 := by omega
          have h16 : 16 < x := by
            have : ¬ x ≤ 16 := fun h => hok2 ⟨rfl, h0, h⟩
            omega
          clear hok2
          go_wp2
          go_ret2
          exact ⟨World.grownBy.refl _ _, .inl ⟨unhide HBn, _, rfl⟩⟩
        · have h1 : x < 0 := by omega
          clear hok2 h0
          go_wp2
          go_ret2
          exact ⟨World.grownBy.refl _ _, .inl ⟨unhide HBn, _, rfl⟩⟩
      · have hei : ((er : Int) == 0) = false := beq_eq_false_iff_ne.2 (by omega)
        have hen : ¬ (er : Int) = 0 := by omega
        clear he hok2
        go_wp2
        go_ret2
        exact ⟨World.grownBy.refl _ _, .inl ⟨unhide HBn, _, rfl⟩⟩
  · have HBn := hide (blkB_no1 size l hok1)
    obtain ⟨E, hE⟩ : ∃ E, E = pcE l 3 := ⟨_, rfl⟩
    obtain ⟨K, hK⟩ : ∃ K, K = pcK l 3 := ⟨_, rfl⟩
    obtain ⟨D, hD⟩ : ∃ D, D = pcD l 3 := ⟨_, rfl⟩
    rw [← hE, ← hK, ← hD] at TX
    rw [← hE, ← hD] at hok1
    subst hve
    clear hE hK hD hn0
    go_enter Tryz.func60, Tryz.ntmps60
    go_wp2_with fail
    refine (unhide TX).mono ?_
    rintro e w1 ⟨rfl, rfl⟩
    by_cases he : E = 0
    · subst he
      have hne : ¬ D = markB := fun h => hok1 ⟨rfl, h⟩
      have hDb : (D == [108, 111, 103]) = false := beq_eq_false_iff_ne.2 hne
      clear hok1 hne
      go_wp2
      go_ret2
      exact ⟨World.grownBy.refl _ _, .inl ⟨unhide HBn, _, rfl⟩⟩
    · have hei : ((E : Int) == 0) = false := beq_eq_false_iff_ne.2 (by omega)
      have hen : ¬ (E : Int) = 0 := by omega
      clear he hok1
      go_wp2
      go_ret2
      exact ⟨World.grownBy.refl _ _, .inl ⟨unhide HBn, _, rfl⟩⟩
end Go.Proofs.YtfnhhjpebilacaaGreat

/-
  DERIVED. A log in memory; seen, check, Size; what is done on no log and on no device.
-/
namespace Go.Proofs.YtfnhhjpebilacaaGreat
open Go.RowKit
set_option linter.unusedVariables false

/-- The log at block lb: its device's block, its size, whether it was down. -/
structure LogAt (w : World) (lb db : Nat) (size : Int) (down : Bool) : Prop where
  blk : w.heap[lb]? = some (.cells #[.pointer (some ⟨db, 0, none⟩), .int .i64 size, .bool down] 72 (0, 0))
theorem LogAt.c0 {w : World} {lb db : Nat} {size : Int} {down : Bool} (h : LogAt w lb db size down) : w.cell? ⟨lb, 0, none⟩ = some (.pointer (some ⟨db, 0, none⟩)) := (cell_of_row _ _ _ _ _ _ h.blk).trans rfl
theorem LogAt.c1 {w : World} {lb db : Nat} {size : Int} {down : Bool} (h : LogAt w lb db size down) : w.cell? ⟨lb, 1, none⟩ = some (.int .i64 size) := (cell_of_row _ _ _ _ _ _ h.blk).trans rfl
theorem LogAt.c2 {w : World} {lb db : Nat} {size : Int} {down : Bool} (h : LogAt w lb db size down) : w.cell? ⟨lb, 2, none⟩ = some (.bool down) := (cell_of_row _ _ _ _ _ _ h.blk).trans rfl
theorem LogAt.lt {w : World} {lb db : Nat} {size : Int} {down : Bool} (h : LogAt w lb db size down) : lb < w.heap.size := (Array.getElem?_eq_some_iff.1 h.blk).1
theorem LogAt.frozen {w : World} {lb db : Nat} {size : Int} {down : Bool} (h : LogAt w lb db size down) (i : Nat) : w.frozen? ⟨lb, i, none⟩ = false := by simp [World.frozen?, h.blk]
theorem LogAt.of {w w' : World} {lb db : Nat} {size : Int} {down : Bool} (h : LogAt w lb db size down) (e : w'.heap[lb]? = w.heap[lb]?) : LogAt w' lb db size down := ⟨e.trans h.blk⟩
theorem LogAt.setDown {w : World} {lb db : Nat} {size : Int} {down : Bool} (h : LogAt w lb db size down) (x : Bool) : LogAt (w.setCell ⟨lb, 2, none⟩ (.bool x)) lb db size x := ⟨heap_setCell_same w lb 2 _ _ _ h.blk⟩

theorem seen_any (w : World) (lb db : Nat) (size : Int) (down : Bool) (e : Int) (h : LogAt w lb db size down) :
    Calls Tryz.prog 26 #[.pointer (some ⟨lb, 0, none⟩), .int .i64 e] w fun r w' => r = .returned (.int .i64 e) ∧ w' = w.setCell ⟨lb, 2, none⟩ (.bool (down || decide (e = 2))) := by
  have c2 := h.c2
  have f2 := h.frozen 2
  clear h
  cases down with
  | true =>
    go_enter Tryz.func26, Tryz.ntmps26
    go_wp2
    go_ret
    exact ⟨rfl, by simp⟩
  | false =>
    by_cases he : e = 2
    · subst he
      go_enter Tryz.func26, Tryz.ntmps26
      go_wp2
      go_ret
      exact ⟨rfl, by simp⟩
    · have hb : (e == 2) = false := beq_eq_false_iff_ne.2 he
      rw [decide_eq_false he]
      clear he
      go_enter Tryz.func26, Tryz.ntmps26
      go_wp2
      go_ret
      exact ⟨rfl, by simp⟩

theorem check_any (w : World) (lb : Nat) (n size : Int) (ao : Option Addr) (q cap : Nat) (h : w.cell? ⟨lb, 1, none⟩ = some (.int .i64 size)) :
    Calls Tryz.prog 27 #[.pointer (some ⟨lb, 0, none⟩), .int .i64 n, .slice ao q cap] w fun e w' => e = .returned (.int .i64 (if ¬ (0 ≤ n ∧ n < size) then 42 else if q ≠ 512 then 21 else 0)) ∧ w' = w := by
  have HO := hide (offers_any w lb n size h)
  clear h
  by_cases hn : 0 ≤ n ∧ n < size
  · rw [decide_eq_true hn] at HO
    rw [if_neg (fun h => h hn)]
    by_cases hq : q = 512
    · rw [if_neg (fun h => h hq)]
      subst hq
      clear hn
      go_enter Tryz.func27, Tryz.ntmps27
      go_wp2_with fail
      refine (unhide HO).mono ?_
      rintro e w1 ⟨rfl, rfl⟩
      go_wp2
      go_ret
      exact ⟨rfl, rfl⟩
    · rw [if_pos hq]
      have hb : ((q : Int) == 512) = false := beq_eq_false_iff_ne.2 (by omega)
      clear hn hq
      go_enter Tryz.func27, Tryz.ntmps27
      go_wp2_with fail
      refine (unhide HO).mono ?_
      rintro e w1 ⟨rfl, rfl⟩
      go_wp2
      go_ret
      exact ⟨rfl, rfl⟩
  · rw [decide_eq_false hn] at HO
    rw [if_pos hn]
    clear hn
    go_enter Tryz.func27, Tryz.ntmps27
    go_wp2_with fail
    refine (unhide HO).mono ?_
    rintro e w1 ⟨rfl, rfl⟩
    go_wp2
    go_ret
    exact ⟨rfl, rfl⟩

theorem Size_any (w : World) (lb : Nat) (size : Int) (h : w.cell? ⟨lb, 1, none⟩ = some (.int .i64 size)) : Calls Tryz.prog 17 #[.pointer (some ⟨lb, 0, none⟩)] w fun e w' => e = .returned (.int .i64 size) ∧ w' = w := by
  go_enter Tryz.func17, Tryz.ntmps17
  go_wp2
  go_ret
  exact ⟨rfl, rfl⟩
theorem Size_nil (w : World) : Calls Tryz.prog 17 #[.pointer none] w fun e w' => e = .returned (.int .i64 0) ∧ w' = w := by
  go_enter Tryz.func17, Tryz.ntmps17
  go_wp2
  go_ret
  exact ⟨rfl, rfl⟩
theorem Jup_nil (w : World) : Calls Tryz.prog 23 #[.pointer none] w fun e w' => e = .returned (.int .i64 1) ∧ w' = w := by
  go_enter Tryz.func23, Tryz.ntmps23
  go_wp2
  go_ret
  exact ⟨rfl, rfl⟩
theorem JRead_nil (w : World) (n : Int) : Calls Tryz.prog 8 #[.pointer none, .int .i64 n] w fun e w' => e = .returned (.tuple #[.slice none 0 0, .int .i64 1]) ∧ w' = w := by
  go_enter Tryz.func8, Tryz.ntmps8
  go_wp2_with fail
  refine (Jup_nil _).mono ?_
  rintro e w1 ⟨rfl, rfl⟩
  go_wp2
  go_ret2
  exact ⟨rfl, rfl⟩
theorem JPut_nil (w : World) (n : Int) (v : Value) : Calls Tryz.prog 9 #[.pointer none, .int .i64 n, v] w fun e w' => e = .returned (.int .i64 1) ∧ w' = w := by
  go_enter Tryz.func9, Tryz.ntmps9
  go_wp2_with fail
  refine (Jup_nil _).mono ?_
  rintro e w1 ⟨rfl, rfl⟩
  go_wp2
  go_ret
  exact ⟨rfl, rfl⟩
theorem JOpen_nil (w : World) : Calls Tryz.prog 19 #[.pointer none] w fun e w' => e = .returned (.tuple #[.pointer none, .int .i64 1]) ∧ w' = w := by
  go_enter Tryz.func19, Tryz.ntmps19
  go_wp2
  go_ret2
  exact ⟨rfl, rfl⟩
end Go.Proofs.YtfnhhjpebilacaaGreat

/-
  DERIVED. up, where the device's own mark is known.
-/
namespace Go.Proofs.YtfnhhjpebilacaaGreat
open Go.RowKit
set_option linter.unusedVariables false

theorem Down_cell (w : World) (db : Nat) (dn : Bool) (h : w.cell? ⟨db, 4, none⟩ = some (.bool dn)) : Calls Tryz.prog 7 #[.pointer (some ⟨db, 0, none⟩)] w fun e w' => e = .returned (.bool dn) ∧ w' = w := by
  go_enter Tryz.func7, Tryz.ntmps7
  go_wp2
  go_ret
  exact ⟨rfl, rfl⟩
/-- All is up. -/
theorem up_ok (w : World) (lb db : Nat) (size : Int) (h : LogAt w lb db size false) (hd : w.cell? ⟨db, 4, none⟩ = some (.bool false)) :
    Calls Tryz.prog 23 #[.pointer (some ⟨lb, 0, none⟩)] w fun e w' => e = .returned (.int .i64 0) ∧ w' = w := by
  have c0 := h.c0
  have c2 := h.c2
  have HD := hide (Down_cell w db false hd)
  clear h hd
  go_enter Tryz.func23, Tryz.ntmps23
  go_wp2_with fail
  refine (unhide HD).mono ?_
  rintro e w1 ⟨rfl, rfl⟩
  go_wp2
  go_ret
  exact ⟨rfl, rfl⟩
/-- The log was down once. -/
theorem up_was (w : World) (lb db : Nat) (size : Int) (h : LogAt w lb db size true) :
    Calls Tryz.prog 23 #[.pointer (some ⟨lb, 0, none⟩)] w fun e w' => e = .returned (.int .i64 2) ∧ w' = w.setCell ⟨lb, 2, none⟩ (.bool true) := by
  have c2 := h.c2
  have HS := hide (seen_any w lb db size true 2 h)
  clear h
  go_enter Tryz.func23, Tryz.ntmps23
  go_wp2_with fail
  refine (unhide HS).mono ?_
  rintro e w1 ⟨rfl, rfl⟩
  go_wp2
  go_ret
  exact ⟨rfl, rfl⟩
/-- The device is down. -/
theorem up_down (w : World) (lb db : Nat) (size : Int) (h : LogAt w lb db size false) (hd : w.cell? ⟨db, 4, none⟩ = some (.bool true)) :
    Calls Tryz.prog 23 #[.pointer (some ⟨lb, 0, none⟩)] w fun e w' => e = .returned (.int .i64 2) ∧ w' = w.setCell ⟨lb, 2, none⟩ (.bool true) := by
  have c0 := h.c0
  have c2 := h.c2
  have HS := hide (seen_any w lb db size false 2 h)
  have HD := hide (Down_cell w db true hd)
  clear h hd
  go_enter Tryz.func23, Tryz.ntmps23
  go_wp2_with fail
  refine (unhide HD).mono ?_
  rintro e w1 ⟨rfl, rfl⟩
  go_wp2_with fail
  refine (unhide HS).mono ?_
  rintro e w1 ⟨rfl, rfl⟩
  go_wp2
  go_ret
  exact ⟨rfl, rfl⟩
end Go.Proofs.YtfnhhjpebilacaaGreat

/-
  DERIVED. waiting.
-/
namespace Go.Proofs.YtfnhhjpebilacaaGreat
open Go.RowKit
set_option linter.unusedVariables false
set_option maxRecDepth 20000

/-- The device was only read. -/
def KD (w w' : World) (b : Nat) (F : Nat → Prop) (M : Nat) (T : St) : Prop := Kept F w w' ∧ Dev w' b F M T
theorem Read_kd {w : World} {b : Nat} {F : Nat → Prop} {N : Nat} {S : St} (h : Dev w b F N S) (k : Nat) (hk : k < S.safe.length) (hN : N < 900000) :
    Calls Tryz.prog 25 #[.pointer (some ⟨b, 0, none⟩), .int .i64 k] w fun e w' => KD w w' b F (N + 2) (S.rd1).2 ∧
      (((S.rd1).1 = 0 ∧ ∃ q, e = .returned (.tuple #[.slice (some ⟨q, 0, none⟩) 512 512, .int .i64 0]) ∧ w.heap.size ≤ q ∧ w'.heap[q]? = some (.cells ((S.newest k).map bv).toArray 84 (0, 0)) ∧ (S.newest k).length = 512) ∨
       ((S.rd1).1 = 2 ∧ e = .returned (.tuple #[.slice none 0 0, .int .i64 2]))) := by
  have hl5 : (S.newest k).length = 512 := by obtain ⟨g, c, m, vf, D, h0⟩ := h; exact St.newest_len h0 k hk
  unfold St.rd1
  by_cases hd : S.down = true
  · rw [if_pos hd]
    have h2 := down2 S k hd
    refine (Read_dev_shut h k (by rw [h2]; decide)).mono ?_
    rintro e w' ⟨rfl, rfl⟩
    exact ⟨⟨Kept.refl _ _, h.mono (fun _ h => h) (by omega)⟩, .inr ⟨rfl, by rw [h2]⟩⟩
  · have hd' : S.down = false := by simpa using hd
    rw [if_neg hd]
    by_cases hw : S.well
    · rw [if_pos hw]
      refine (Read_dev h k hk hd' hw (by omega)).mono ?_
      rintro e w' ⟨q, rfl, hq, hg, d1, k1⟩
      exact ⟨⟨k1, d1.mono (fun _ h => h) (by omega)⟩, .inl ⟨rfl, q, rfl, hq, hg, hl5⟩⟩
    · rw [if_neg hw]
      refine (Read_dev_burnt h k hk hd' hw (by omega)).mono ?_
      rintro e w' ⟨rfl, d1, k1⟩
      exact ⟨⟨k1, d1.mono (fun _ h => h) (by omega)⟩, .inr ⟨rfl, rfl⟩⟩

def WaitPost (w : World) (b : Nat) (F : Nat → Prop) (N : Nat) (r : (Int × St) × List (Nat × List UInt8)) (e : Ending) (w' : World) : Prop :=
  KD w w' b F (N + 40) r.1.2 ∧ ∃ v, e = .returned (.tuple #[v, .int .i64 r.1.1]) ∧ (r.1.1 = 0 → Pts w' v r.2 ∧ ∀ g, v.ownBlock = some g → w.heap.size ≤ g)
theorem rds_alike (S : St) : ∀ k, (S.rds k).2.safe = S.safe ∧ (S.rds k).2.pend = S.pend
  | 0 => ⟨rfl, rfl⟩
  | k + 1 => by
    obtain ⟨h1, h2⟩ := rds_alike S k
    rw [St.rds]
    unfold thn
    split
    · unfold St.rd1
      split
      · exact ⟨h1, h2⟩
      split <;> exact ⟨h1, h2⟩
    · exact ⟨h1, h2⟩
theorem rds_newest (S : St) (k n : Nat) : (S.rds k).2.newest n = S.newest n := by
  obtain ⟨h1, h2⟩ := rds_alike S k
  unfold St.newest
  rw [h1, h2]
theorem numsB_len (size : Int) : ∀ (c : Nat) (l : List UInt8) (ns : List Nat) (r : List UInt8), numsB size c l = some (ns, r) → ns.length = c ∧ ∀ n ∈ ns, (n : Int) < size
  | 0, l, ns, r, h => by
    simp only [numsB, Option.some.injEq, Prod.mk.injEq] at h
    rw [← h.1]
    simp
  | c + 1, l, ns, r, h => by
    rw [numsB] at h
    split at h
    · rename_i hh
      obtain ⟨⟨ms, s⟩, hm, e⟩ := Option.map_eq_some_iff.1 h
      simp only [Prod.mk.injEq] at e
      obtain ⟨i1, i2⟩ := numsB_len size c _ ms s hm
      rw [← e.1]
      refine ⟨by simp [i1], fun n hn => ?_⟩
      rcases List.mem_cons.1 hn with rfl | hn
      · omega
      · exact i2 n hn
    · cases h
theorem blkB_is (size : Int) (l : List UInt8) (ns : List Nat) (h : blkB size l = some ns) : ns.length ≤ 16 ∧ ∀ n ∈ ns, (n : Int) < size := by
  unfold blkB at h
  split at h
  · simp only at h
    split at h
    · rename_i h2
      split at h
      · rename_i ms hm
        cases h
        obtain ⟨i1, i2⟩ := numsB_len size _ _ _ _ hm
        exact ⟨by omega, i2⟩
      · cases h
    · cases h
  · cases h
/-- The parts that are read so far, and noughts behind them. -/
def upto (S : St) (ns : List Nat) (j : Nat) : List (Nat × List UInt8) := (partsF S 2 ns).take j ++ List.replicate (ns.length - j) zeroP
theorem upto_len (S : St) (ns : List Nat) (j : Nat) (h : j ≤ ns.length) : (upto S ns j).length = ns.length := by
  unfold upto
  rw [List.length_append, List.length_take, partsF_len, List.length_replicate]
  omega
theorem upto_at (S : St) (ns : List Nat) (j : Nat) (h : j < ns.length) : (upto S ns j)[j]? = some zeroP := by
  unfold upto
  rw [List.getElem?_append_right (by rw [List.length_take, partsF_len]; omega), List.length_take, partsF_len, List.getElem?_replicate, if_pos (by omega)]
theorem set_append_at {α : Type} (a : List α) (x y : α) (r : List α) : (a ++ x :: r).set a.length y = a ++ y :: r := by
  rw [List.set_append_right _ _ (Nat.le_refl _), Nat.sub_self, List.set_cons_zero]
theorem upto_set (S : St) (ns : List Nat) (j : Nat) (h : j < ns.length) : (upto S ns j).set j (ns[j], S.newest (2 + j)) = upto S ns (j + 1) := by
  have hl : ((partsF S 2 ns).take j).length = j := by rw [List.length_take, partsF_len]; omega
  unfold upto
  rw [List.take_succ_eq_append_getElem (by rw [partsF_len]; exact h), partsF_get S ns 2 j h, show ns.length - j = (ns.length - (j + 1)) + 1 by omega, List.replicate_succ]
  have := set_append_at ((partsF S 2 ns).take j) zeroP (ns[j], S.newest (2 + j)) (List.replicate (ns.length - (j + 1)) zeroP)
  rw [hl] at this
  rw [this]
  simp
theorem upto_full (S : St) (ns : List Nat) : upto S ns ns.length = partsF S 2 ns := by
  unfold upto
  rw [Nat.sub_self, List.replicate_zero, List.append_nil, List.take_of_length_le (by rw [partsF_len]; exact Nat.le_refl _)]
theorem upto_wide (S : St) (ns : List Nat) (j : Nat) (h : ∀ i, i < ns.length → (S.newest (2 + i)).length = 512) : WideP (upto S ns j) := by
  intro p hp
  rcases List.mem_append.1 hp with hp | hp
  · have hp2 := List.mem_of_mem_take hp
    obtain ⟨i, hi, rfl⟩ := List.getElem_of_mem hp2
    rw [partsF_len] at hi
    rw [partsF_get S ns 2 i hi]
    exact h i hi
  · rw [List.eq_of_mem_replicate hp]
    exact List.length_replicate
theorem KD.only {w wr w' : World} {b g : Nat} {F : Nat → Prop} {M : Nat} {T : St} (h : KD w wr b F M T) (ho : Only g wr w') (hg : w.heap.size ≤ g) (hF : ¬ F g) : KD w w' b F M T :=
  ⟨h.1.trans' (Kept.of_only (F := fun j => j = g) ho rfl) (fun j hj e => by omega), h.2.frame fun k hk _ => ho.other k fun e => hF (e ▸ hk)⟩
theorem KD.below {w wr w' : World} {b : Nat} {F : Nat → Prop} {M : Nat} {T : St} (h : KD w wr b F M T) (hb : Below wr.heap.size wr w') : KD w w' b F M T := ⟨h.1.trans (Kept.of_below hb), h.2.grown hb⟩
theorem KD.trans {w wr w' : World} {b : Nat} {F : Nat → Prop} {M M2 : Nat} {T T2 : St} (h : KD w wr b F M T) (k : KD wr w' b F M2 T2) : KD w w' b F M2 T2 := ⟨h.1.trans k.1, k.2⟩
theorem KD.mono {w wr : World} {b : Nat} {F : Nat → Prop} {M M2 : Nat} {T : St} (h : KD w wr b F M T) (hM : M ≤ M2) : KD w wr b F M2 T := ⟨h.1, h.2.mono (fun _ h => h) hM⟩
theorem rds_stop {S T : St} {k : Nat} (h : S.rds k = (2, T)) : ∀ m, S.rds (k + m) = (2, T)
  | 0 => h
  | m + 1 => by rw [← Nat.add_assoc, St.rds, rds_stop h m, thn_down]
theorem rds_next {S : St} {j : Nat} (h : (S.rds j).1 = 0) : S.rds (j + 1) = ((S.rds j).2.rd1) := by
  rw [St.rds]
  unfold thn
  rw [if_pos h]
theorem PBlk.froz {w : World} {g : Nat} {ps : List (Nat × List UInt8)} (h : PBlk w g ps) (i : Nat) : w.frozen? ⟨g, i, none⟩ = false := by simp [World.frozen?, show w.heap[g]? = _ from h]

theorem wait_no (S : St) (size : Int) (hr : ¬ S.reads) : S.waitJ size = ((2, S.halted), []) := by unfold St.waitJ; rw [if_neg hr]
theorem blkB_nil (size : Int) : blkB size [] = none := by
  unfold blkB
  rw [if_neg]
  rintro ⟨h, _⟩
  revert h
  decide
theorem wait_none (S : St) (size : Int) (hr : S.reads) (h : (S.rcd 0).laid = false ∨ blkB size (S.rcd 0).data = none) : S.waitJ size = ((41, S.burn.burn), []) := by
  unfold St.waitJ
  rw [if_pos hr]
  rcases h with h | h
  · rw [if_neg (by rw [h]; decide)]
  · rw [h]
    split <;> rfl
theorem wait_some (S : St) (size : Int) (hr : S.reads) (h : (S.rcd 0).laid = true) (ns : List Nat) (hb : blkB size (S.rcd 0).data = some ns) : S.waitJ size = (S.burn.burn.rds ns.length, if (S.burn.burn.rds ns.length).1 = 0 then partsF S 2 ns else []) := by
  unfold St.waitJ
  rw [if_pos hr, if_pos h, hb]

set_option maxHeartbeats 4000000 in
theorem waiting_go {w : World} {b base : Nat} {F : Nat → Prop} {N : Nat} {S : St} (h : DevB w b base F N S) (hN : N < 600000) (lb : Nat) (size : Int) (hsz : size ≤ 512)
    (cd : w.cell? ⟨lb, 0, none⟩ = some (.pointer (some ⟨b, 0, none⟩))) (cz : w.cell? ⟨lb, 1, none⟩ = some (.int .i64 size)) (od : Off w F lb) :
    Calls Tryz.prog 41 #[.pointer (some ⟨lb, 0, none⟩)] w (WaitPost w b F N (S.waitJ size)) := by
  obtain ⟨hl1, hl2, _, _⟩ := h.len
  have hFs : ∀ j, F j → j < w.heap.size := fun j hj => (h.foot j hj).2
  have HCL : Hid (∀ W M T, KD w W b F M T → W.cell? ⟨lb, 0, none⟩ = some (.pointer (some ⟨b, 0, none⟩)) ∧ W.cell? ⟨lb, 1, none⟩ = some (.int .i64 size)) := hide fun W M T hk => ⟨(World.cell?_of_block (hk.1.block lb od.1 od.2)).trans cd, (World.cell?_of_block (hk.1.block lb od.1 od.2)).trans cz⟩
  by_cases hr : S.reads
  · by_cases hla : (S.rcd 0).laid = true
    · have LD := hide (Load_laid h.dev hFs 0 (by omega) (by omega) hr hla)
      cases hbk : blkB size (S.rcd 0).data with
      | none =>
        have HE := hide (wait_none S size hr (.inr hbk))
        have HBK := hide hbk
        clear h cz hbk
        go_enter Tryz.func41, Tryz.ntmps41
        go_wp2_with fail
        refine (unhide LD).mono ?_
        rintro e w2 ⟨a, n, c, rfl, s2, _, d2, k2⟩
        have K2 : Hid (KD w w2 b F (N + 2) S.burn.burn) := hide ⟨k2, d2⟩
        obtain ⟨_, c2⟩ := unhide HCL _ _ _ (unhide K2)
        have BA := hide (blocks_any w2 lb _ _ size c2 s2)
        clear s2 d2 k2 c2 cd
        go_wp2_with fail
        refine (unhide BA).mono ?_
        rintro e w3 ⟨hg3, hh⟩
        rcases hh with ⟨_, u, rfl⟩ | ⟨ns, hns, _⟩
        · have K3 : Hid (KD w w3 b F (N + 2) S.burn.burn) := hide ((unhide K2).below ⟨hg3.os, hg3.tape, hg3.output, hg3.size, fun i hi => hg3.block i hi (by simp)⟩)
          clear hg3
          go_wp2
          go_ret2
          rw [unhide HE]
          exact ⟨(unhide K3).mono (by omega), _, rfl, fun h => absurd (show (41 : Int) = 0 from h) (by decide)⟩
        · rw [unhide HBK] at hns; cases hns
      | some ns =>
        obtain ⟨hn16, hnin⟩ := blkB_is _ _ _ hbk
        have HE := hide (wait_some S size hr hla ns hbk)
        have HBK := hide hbk
        have HNW : Hid (∀ i, i < ns.length → (S.newest (2 + i)).length = 512) := hide fun i hi => by
          obtain ⟨g, c, m, vf, D, h0⟩ := h.dev
          exact St.newest_len h0 _ (by omega)
        have HNI := hide hnin
        clear h cz hbk hnin
        go_enter Tryz.func41, Tryz.ntmps41
        go_wp2_with fail
        refine (unhide LD).mono ?_
        rintro e w2 ⟨a, n, c, rfl, s2, _, d2, k2⟩
        have K2 : Hid (KD w w2 b F (N + 2) S.burn.burn) := hide ⟨k2, d2⟩
        obtain ⟨_, c2⟩ := unhide HCL _ _ _ (unhide K2)
        have BA := hide (blocks_any w2 lb _ _ size c2 s2)
        have z2 := k2.size
        clear s2 d2 k2 c2 cd
        go_wp2_with fail
        refine (unhide BA).mono ?_
        rintro e w3 ⟨hg3, hh⟩
        rcases hh with ⟨hns, _⟩ | ⟨ns', hns, rfl, hrow⟩
        · rw [unhide HBK] at hns; cases hns
        · rw [unhide HBK] at hns
          cases hns
          have K3 : Hid (KD w w3 b F (N + 2) S.burn.burn) := hide ((unhide K2).below ⟨hg3.os, hg3.tape, hg3.output, hg3.size, fun i hi => hg3.block i hi (by simp)⟩)
          have z3 := hg3.size
          have hnb : w2.heap.size < w3.heap.size := lt_of_block hrow
          have mk := run_make_parts w3 ns.length hn16
          obtain ⟨n, hn⟩ : ∃ n, n = ns.length := ⟨_, rfl⟩
          rw [← hn] at mk hn16 HE HNW ⊢
          have HN := hide hn
          have hB4 : Below w3.heap.size w3 (w3.alloc (.cells (ptsC (List.replicate n zeroP)).toArray 78)) := (Below.refl _ _).alloc (Nat.le_refl _) _
          have K4 : Hid (KD w (w3.alloc (.cells (ptsC (List.replicate n zeroP)).toArray 78)) b F (N + 2) S.burn.burn) := hide ((unhide K3).below hB4)
          have R4 : Hid (IRow (w3.alloc (.cells (ptsC (List.replicate n zeroP)).toArray 78)) w2.heap.size ns) := hide ((hB4.block _ hnb).trans hrow)
          have P4 : Hid (PBlk (w3.alloc (.cells (ptsC (List.replicate n zeroP)).toArray 78)) w3.heap.size (List.replicate n zeroP)) := hide (heap_alloc_self _ _)
          have hgF : ¬ F w3.heap.size := fun hf => by have := hFs _ hf; omega
          have hnbF : ¬ F w2.heap.size := fun hf => by have := hFs _ hf; omega
          have hnI : (n : Int) ≤ 16 := by omega
          clear hg3 hrow hn hB4 BA K2 K3
          go_wp2_with fail
          obtain ⟨W4, hW4⟩ : ∃ W4, W4 = w3.alloc (.cells (ptsC (List.replicate n zeroP)).toArray 78) := ⟨_, rfl⟩
          have z4 : W4.heap.size = w3.heap.size + 1 := by rw [hW4]; simp
          rw [← hW4] at K4 R4 P4 ⊢
          obtain ⟨g, hg⟩ : ∃ g, g = w3.heap.size := ⟨_, rfl⟩
          obtain ⟨nb, hnb'⟩ : ∃ nb, nb = w2.heap.size := ⟨_, rfl⟩
          rw [← hg] at P4 hgF ⊢
          rw [← hnb'] at R4 hnbF ⊢
          have hg4 : g < W4.heap.size := by omega
          have hnb4 : nb < W4.heap.size := by omega
          have hgw : w.heap.size ≤ g := by omega
          have hgnb : g ≠ nb := by omega
          clear mk hW4 hg hnb'
          go_loopw [39] (fun i wr => ∃ j : Nat, i = .int .i64 (j : Int) ∧ j ≤ n ∧ W4.heap.size ≤ wr.heap.size ∧ (S.burn.burn.rds j).1 = 0 ∧ Hid (KD w wr b F (N + 2 + 2 * j) (S.burn.burn.rds j).2) ∧ Hid (PBlk wr g (upto S ns j)) ∧ Hid (IRow wr nb ns)) (fun i _ => n - (intOf i).toNat)
          case atStart => exact ⟨0, rfl, by omega, Nat.le_refl _, rfl, K4, hide (by unfold upto; rw [List.take_zero, Nat.sub_zero, ← unhide HN]; exact unhide P4), R4⟩
          case round =>
            obtain ⟨j, rfl, hj, hzr, h0, HK, HP, HR⟩ := hrel
            clear K4 R4 P4
            by_cases hlt : j < n
            · have hlt' : (j : Int) < (n : Int) := by omega
              have hjn : j < ns.length := by rw [← unhide HN]; exact hlt
              obtain ⟨cl, _⟩ := unhide HCL _ _ _ (unhide HK)
              have cn := (unhide HR).cell hjn
              obtain ⟨x, hx⟩ : ∃ x, x = ns[j] := ⟨_, rfl⟩
              rw [← hx] at cn
              have HX := hide hx
              have hsl : (S.burn.burn.rds j).2.safe.length = S.safe.length := congrArg _ (rds_alike S.burn.burn j).1
              have RD := hide (Read_kd (unhide HK).2 (2 + j) (by rw [hsl]; omega) (by omega))
              have hwr : IntKind.i64.wrap (2 + (j : Int)) = ((2 + j : Nat) : Int) := by rw [IntKind.wrap_i64]; omega
              have HRN := hide (rds_next h0)
              clear hx hsl
              go_wp2_with fail
              refine (unhide RD).mono ?_
              rintro e w5 ⟨hk5, hh⟩
              have hs5 := hk5.1.size
              rcases hh with ⟨e0, q, rfl, hq, hrow, hl5⟩ | ⟨e2, rfl⟩
              · rw [rds_newest] at hrow hl5
                have hnw : S.burn.burn.newest (2 + j) = S.newest (2 + j) := rfl
                rw [hnw] at hrow hl5
                have hul : j < (upto S ns j).length := by rw [upto_len S ns j (by omega)]; exact hjn
                have hwd := upto_wide S ns j (by rw [← unhide HN]; exact unhide HNW)
                have hz : (upto S ns j)[j] = zeroP := by have := upto_at S ns j hjn; rw [List.getElem?_eq_getElem hul] at this; exact Option.some.inj this
                have p5 : PBlk w5 g (upto S ns j) := (hk5.1.block g (by omega) hgF).trans (unhide HP)
                have c6 : w5.cell? ⟨g, j * 513, none⟩ = some (.int .i64 0) := by
                  have := Pts.head (p5.range hwd j hul)
                  rw [hz] at this; exact this
                have f6 : w5.frozen? ⟨g, j * 513, none⟩ = false := p5.froz _
                have p6 := p5.num hwd j hul x
                rw [hz] at p6
                have hqg : q ≠ g := by omega
                have s6 : Sl (w5.setCell ⟨g, j * 513, none⟩ (.int .i64 (x : Int))) (.slice (some ⟨q, 0, none⟩) 512 512) (S.newest (2 + j)) := by
                  have hr6 := (((Only.refl g w5).set (j * 513) (.int .i64 (x : Int))).other q hqg).trans hrow
                  refine ⟨some ⟨q, 0, none⟩, 512, by rw [hl5], by rw [hl5]; exact Nat.le_refl _, by unfold maxLen; omega, fun _ => ⟨q, 0, rfl, lt_of_block hr6, fun i hi => ?_⟩⟩
                  rw [cell_of_row _ _ _ _ _ _ hr6]
                  simp [hi]
                have hw6 : WideP ((upto S ns j).set j (x, zeroP.2)) := hwd.set j _ List.length_replicate
                obtain ⟨w7, hcp, p7, o7⟩ := p6.copy hw6 j (by rw [List.length_set]; exact hul) 3 (some ⟨q, 0, none⟩) 512 (S.newest (2 + j)) hl5 s6
                have P7 : Hid (PBlk w7 g (upto S ns (j + 1))) := hide (by
                  rw [List.getElem_set_self, List.set_set, unhide HX, upto_set S ns j hjn] at p7
                  exact p7)
                have o6 := ((Only.refl g w5).set (j * 513) (.int .i64 (x : Int))).trans o7
                have K7 : Hid (KD w w7 b F (N + 2 + 2 * (j + 1)) (S.burn.burn.rds (j + 1)).2) := hide (by
                  rw [unhide HRN]
                  exact (((unhide HK).trans hk5).only o6 hgw hgF).mono (by omega))
                have R7 : Hid (IRow w7 nb ns) := hide (((o6.other nb (Ne.symm hgnb)).trans (hk5.1.block nb (by omega) hnbF)).trans (unhide HR))
                have z7 : W4.heap.size ≤ w7.heap.size := by rw [o6.size]; omega
                have H7 : Hid ((S.burn.burn.rds (j + 1)).1 = 0) := hide (by rw [unhide HRN]; exact e0)
                clear hk5 HK HP HR HRN h0 p5 p6 p7 s6 o6 o7 hrow e0 hz hwd hw6 hul HX hnw RD cn cl
                go_wp2
                go_roundw
                case rel => exact ⟨j + 1, by go_num, by omega, z7, unhide H7, K7, P7, R7⟩
                case measure => simp [intOf]; omega
              · have K7 : Hid (KD w w5 b F (N + 40) (S.burn.burn.rds (j + 1)).2 ∧ (S.burn.burn.rds (j + 1)).1 = 2) := hide (by
                  rw [unhide HRN]
                  exact ⟨((unhide HK).trans hk5).mono (by omega), e2⟩)
                clear hk5 HK HP HR HRN h0 e2 RD cn cl HX
                go_wp2
                go_ret2
                obtain ⟨k7, e7⟩ := unhide K7
                have hst : S.burn.burn.rds n = (2, (S.burn.burn.rds (j + 1)).2) := by
                  have h8 : S.burn.burn.rds (j + 1) = (2, (S.burn.burn.rds (j + 1)).2) := by rw [← e7]
                  have := rds_stop h8 (n - (j + 1))
                  rw [show j + 1 + (n - (j + 1)) = n by omega] at this
                  exact this
                rw [unhide HE, hst]
                exact ⟨k7, _, rfl, fun h => absurd (show (2 : Int) = 0 from h) (by decide)⟩
            · have hlt' : ¬ (j : Int) < (n : Int) := by omega
              obtain rfl : j = n := by omega
              have HF : Hid (WaitPost w b F N (S.waitJ size) (.returned (.tuple #[.slice (some ⟨g, 0, none⟩) j j, .int .i64 0])) wr) := hide (by
                rw [unhide HE, if_pos h0]
                refine ⟨(unhide HK).mono (by omega), _, by rw [h0], fun _ => ⟨?_, fun g' hg' => by cases hg'; exact hgw⟩⟩
                have hp := unhide HP
                have hup : upto S ns j = partsF S 2 ns := by rw [unhide HN]; exact upto_full S ns
                have hwd := upto_wide S ns j (by rw [← unhide HN]; exact unhide HNW)
                rw [hup] at hp hwd
                have := hp.pts hwd (by rw [partsF_len, ← unhide HN]; omega) fun p hp => by
                  have h1 : p.1 ∈ (partsF S 2 ns).map (·.1) := List.mem_map_of_mem hp
                  rw [partsF_fst] at h1
                  have := unhide HNI _ h1
                  omega
                rw [partsF_len, ← unhide HN] at this
                exact this)
              clear h0 HK HP HR
              go_wp2
              go_ret2
              exact unhide HF
    · have hla' : (S.rcd 0).laid = false := by simpa using hla
      have LD := hide (Load_none h.dev hFs 0 (by omega) (by omega) hr hla')
      have HE := hide (wait_none S size hr (.inl hla'))
      clear h cz
      go_enter Tryz.func41, Tryz.ntmps41
      go_wp2_with fail
      refine (unhide LD).mono ?_
      rintro e w2 ⟨rfl, d2, k2⟩
      have K2 : Hid (KD w w2 b F (N + 2) S.burn.burn) := hide ⟨k2, d2⟩
      obtain ⟨_, c2⟩ := unhide HCL _ _ _ (unhide K2)
      have BA := hide (blocks_any w2 lb (.slice none 0 0) [] size c2 ⟨none, 0, rfl, by simp, by simp [maxLen], fun h => absurd rfl h⟩)
      clear d2 k2 c2 cd
      go_wp2_with fail
      refine (unhide BA).mono ?_
      rintro e w3 ⟨hg3, hh⟩
      rcases hh with ⟨_, u, rfl⟩ | ⟨ns, hns, _⟩
      · have K3 : Hid (KD w w3 b F (N + 2) S.burn.burn) := hide ((unhide K2).below ⟨hg3.os, hg3.tape, hg3.output, hg3.size, fun i hi => hg3.block i hi (by simp)⟩)
        clear hg3
        go_wp2
        go_ret2
        rw [unhide HE]
        exact ⟨(unhide K3).mono (by omega), _, rfl, fun h => absurd (show (41 : Int) = 0 from h) (by decide)⟩
      · rw [blkB_nil] at hns; cases hns
  · have LD := hide (Load_stops h.dev hFs 0 (by omega) (by omega) hr)
    have HE := hide (wait_no S size hr)
    clear h cz
    go_enter Tryz.func41, Tryz.ntmps41
    go_wp2_with fail
    refine (unhide LD).mono ?_
    rintro e w2 ⟨rfl, d2, k2⟩
    have K2 : Hid (KD w w2 b F (N + 2) S.halted) := hide ⟨k2, d2⟩
    clear d2 k2
    go_wp2
    go_ret2
    rw [unhide HE]
    exact ⟨(unhide K2).mono (by omega), _, rfl, fun h => absurd (show (2 : Int) = 0 from h) (by decide)⟩
end Go.Proofs.YtfnhhjpebilacaaGreat

/-
  DERIVED. A record on a device that is up and has no fuse: Format, Store, Load go well.
-/
namespace Go.Proofs.YtfnhhjpebilacaaGreat
open Go.RowKit
set_option linter.unusedVariables false

/-- A device of 64 blocks that is up, with no fuse. -/
structure Up (S : St) : Prop where
  fused : S.fused = false
  up : S.down = false
  len : S.safe.length = 64
theorem Up.reads {S : St} (h : Up S) : S.reads := St.reads_free h.fused h.up
theorem Up.new : Up (St.new 64) := ⟨rfl, rfl, List.length_replicate⟩
theorem Up.burn {S : St} (h : Up S) : Up S.burn := ⟨h.fused, by rw [St.well_up (St.well_free h.fused)]; exact h.up, h.len⟩
theorem Up.crash (S : St) (ps : List Int) (h : S.safe.length = 64) : Up (S.crash ps) := ⟨rfl, rfl, by rw [crash_len]; exact h⟩
theorem Put.isUp {S T : St} {k : Nat} {cnt : Int} {d : List UInt8} (h : Put S T k cnt d) (hS : Up S) : Up T := ⟨h.fused.trans hS.fused, h.up, h.len.trans hS.len⟩
/-- Of another place a record stays. -/
theorem Put.apart {S T : St} {k j : Nat} {cnt : Int} {d : List UInt8} (h : Put S T k cnt d) (hl : j + 1 < S.safe.length) (h1 : j + 1 < k ∨ k + 1 < j) : T.rcd j = S.rcd j :=
  St.rcd_of (h.other j (by omega) (by omega) (by omega)) (h.other (j + 1) hl (by omega) (by omega))

theorem fmt_up {S : St} (h : Up S) (k : Nat) (hk : k + 1 < 64) (d : List UInt8) (hl : d.length ≤ 400) : ∃ T, S.format k d = (0, T) ∧ Put S T k 0 d := by
  have hf : ∀ X : St, X.fused = S.fused → X.well := fun X hX => St.well_free (hX.trans h.fused)
  have := putF_good (S := S) (k := k) (by rw [h.len]; exact hk) (by rw [h.len]; decide) h.up _ rfl h.burn.burn.up (cnt := 0) (d := d) (by decide) (by decide) hl (hf _ rfl) (hf _ rfl)
  exact ⟨_, by unfold St.format; rw [if_pos h.reads]; exact this.1, this.2⟩
theorem store_up {S : St} (h : Up S) (k : Nat) (hk : k + 1 < 64) (d : List UInt8) (hl : d.length ≤ 400) (hla : (S.rcd k).laid = true) (hc : (S.rcd k).count < 9223372036854775807) : ∃ T, S.store k d = (0, T) ∧ Put S T k ((S.rcd k).count + 1) d := by
  have hf : ∀ X : St, X.fused = S.fused → X.well := fun X hX => St.well_free (hX.trans h.fused)
  have hc0 := (S.rcd_is k).2.1
  have := putF_good (S := S) (k := k) (by rw [h.len]; exact hk) (by rw [h.len]; decide) h.up _ rfl h.burn.burn.up (cnt := (S.rcd k).count + 1) (d := d) (by omega) (by omega) hl (hf _ rfl) (hf _ rfl)
  exact ⟨_, by unfold St.store; rw [if_pos h.reads, if_pos hla]; exact this.1, this.2⟩

/-- The device at a point of a law that began in w0: all that it has is new since then. -/
structure Run (w0 w : World) (b N : Nat) (F : Nat → Prop) (S : St) : Prop where
  dev : Dev w b F N S
  foot : ∀ j, F j → w0.heap.size ≤ j ∧ j < w.heap.size
  bel : Below w0.heap.size w0 w
theorem Run.grown {w0 w w' : World} {b N : Nat} {F : Nat → Prop} {S : St} (h : Run w0 w b N F S) (hb : Below w.heap.size w w') : Run w0 w' b N F S :=
  ⟨h.dev.grown hb, fun j hj => by have := h.foot j hj; have := hb.size; omega, h.bel.trans (hb.mono h.bel.size)⟩
theorem Run.of {w0 w w' : World} {b N M : Nat} {F F' : Nat → Prop} {S T : St} (h : Run w0 w b N F S) (hd : Dev w' b F' M T) (hf : ∀ j, F' j → w0.heap.size ≤ j ∧ j < w'.heap.size) (hk : Kept F w w') : Run w0 w' b M F' T :=
  ⟨hd, hf, h.bel.trans (hk.below h.bel.size fun j hj => (h.foot j hj).1)⟩
/-- What was there at the beginning is none of the device's. -/
theorem Sl.old {w : World} {a : Option Addr} {n c : Nat} {d : List UInt8} (h : Sl w (.slice a n c) d) (hc : c ≠ 0) : ∀ ad, a = some ad → ad.block < w.heap.size := by
  obtain ⟨ao, cap, e, h1, h2, h4⟩ := h
  have ec : c = cap := by injection e
  obtain ⟨b', off', e', h5, h6⟩ := h4 (by rw [← ec]; first | exact hc | omega)
  intro ad had
  have ea : a = some ⟨b', off', none⟩ := by rw [← e']; injection e
  rw [had] at ea
  cases ea
  exact h5
theorem Run.notF {w0 w : World} {b N : Nat} {F : Nat → Prop} {S : St} (h : Run w0 w b N F S) {a : Option Addr} {n c : Nat} {d : List UInt8} (hv : Sl w0 (.slice a n c) d) : c ≠ 0 → ∀ ad, a = some ad → ¬ F ad.block :=
  fun hd ad ha hf => by have := hv.old hd ad ha; have := h.foot _ hf; omega
theorem Run.newF {w0 w : World} {b N : Nat} {F : Nat → Prop} {S : St} (h : Run w0 w b N F S) (c o : Nat) : c ≠ 0 → ∀ ad, some (⟨w.heap.size, o, none⟩ : Addr) = some ad → ¬ F ad.block :=
  fun _ ad ha hf => by cases ha; exact absurd (h.foot _ hf).2 (Nat.lt_irrefl _)
theorem Run.sl {w0 w : World} {b N : Nat} {F : Nat → Prop} {S : St} (h : Run w0 w b N F S) {v : Value} {d : List UInt8} (hv : Sl w0 v d) : Sl w v d := hv.below h.bel (Nat.le_refl _)

theorem New_run (w0 w : World) (hb : Below w0.heap.size w0 w) :
    Calls Tryz.prog 20 #[.int .i64 64] w fun e w' => e = .returned (.tuple #[.pointer (some ⟨w.heap.size + 2, 0, none⟩), .int .i64 0]) ∧ Run w0 w' (w.heap.size + 2) 0 (fun k => w.heap.size ≤ k ∧ k < w'.heap.size) (St.new 64) ∧ Below w.heap.size w w' := by
  refine (New_dev 64 w (by omega) (by omega)).mono ?_
  rintro e w' ⟨rfl, d1, b1⟩
  have := hb.size
  exact ⟨rfl, ⟨d1, fun j hj => ⟨by have := hj.1; omega, hj.2⟩, hb.trans (b1.mono hb.size)⟩, b1⟩

theorem Format_up {w0 w : World} {b N : Nat} {F : Nat → Prop} {S : St} (h : Run w0 w b N F S) (hU : Up S) (k : Nat) (hk : k + 1 < 64) (hN : N < 800000) (a : Option Addr) (c : Nat) (d : List UInt8) (hv : Sl w (.slice a d.length c) d) (hva : c ≠ 0 → ∀ ad, a = some ad → ¬ F ad.block) (hl : d.length ≤ 400) :
    Calls Tryz.prog 43 #[.pointer (some ⟨b, 0, none⟩), .int .i64 k, .slice a d.length c] w fun e w' => e = .returned (.int .i64 0) ∧ ∃ F' T, Run w0 w' b (N + 6) F' T ∧ Put S T k 0 d ∧ Up T ∧ (∀ j, F' j → F j ∨ w.heap.size ≤ j) ∧ Kept F w w' := by
  obtain ⟨T, hT, hP⟩ := fmt_up hU k hk d hl
  refine (Format_dev h.dev h.foot h.bel.size k (by rw [hU.len]; exact hk) hN a d.length c d hv hva hl rfl).mono ?_
  rintro e w' ⟨rfl, ⟨F', f1, f2, f3⟩, k1⟩
  rw [hT] at f3 ⊢
  exact ⟨rfl, F', T, h.of f3 f1 k1, hP, hP.isUp hU, f2, k1⟩

theorem Store_up {w0 w : World} {b N : Nat} {F : Nat → Prop} {S : St} (h : Run w0 w b N F S) (hU : Up S) (k : Nat) (hk : k + 1 < 64) (hN : N < 800000) (a : Option Addr) (c : Nat) (d : List UInt8) (hv : Sl w (.slice a d.length c) d) (hva : c ≠ 0 → ∀ ad, a = some ad → ¬ F ad.block) (hl : d.length ≤ 400)
    (hla : (S.rcd k).laid = true) (hc : (S.rcd k).count < 9223372036854775807) :
    Calls Tryz.prog 47 #[.pointer (some ⟨b, 0, none⟩), .int .i64 k, .slice a d.length c] w fun e w' => e = .returned (.int .i64 0) ∧ ∃ F' T, Run w0 w' b (N + 6) F' T ∧ Put S T k ((S.rcd k).count + 1) d ∧ Up T ∧ (∀ j, F' j → F j ∨ w.heap.size ≤ j) ∧ Kept F w w' := by
  obtain ⟨T, hT, hP⟩ := store_up hU k hk d hl hla hc
  refine (Store_dev h.dev h.foot h.bel.size k (by rw [hU.len]; exact hk) hN a d.length c d hv hva hl rfl hc).mono ?_
  rintro e w' ⟨rfl, ⟨F', f1, f2, f3⟩, k1⟩
  rw [hT] at f3 ⊢
  exact ⟨rfl, F', T, h.of f3 f1 k1, hP, hP.isUp hU, f2, k1⟩

/-- Store where no record lies. -/
theorem Store_no {w0 w : World} {b N : Nat} {F : Nat → Prop} {S : St} (h : Run w0 w b N F S) (hU : Up S) (k : Nat) (hk : k + 1 < 64) (hN : N < 800000) (a : Option Addr) (c : Nat) (d : List UInt8) (hv : Sl w (.slice a d.length c) d) (hva : c ≠ 0 → ∀ ad, a = some ad → ¬ F ad.block) (hl : d.length ≤ 400)
    (hla : (S.rcd k).laid = false) (hc : (S.rcd k).count < 9223372036854775807) :
    Calls Tryz.prog 47 #[.pointer (some ⟨b, 0, none⟩), .int .i64 k, .slice a d.length c] w fun e w' => e = .returned (.int .i64 30) ∧ ∃ F', Run w0 w' b (N + 6) F' S.burn.burn ∧ (∀ j, F' j → F j ∨ w.heap.size ≤ j) ∧ Kept F w w' := by
  have hT : S.store k d = (30, S.burn.burn) := by unfold St.store; rw [if_pos hU.reads, if_neg (by rw [hla]; decide)]
  refine (Store_dev h.dev h.foot h.bel.size k (by rw [hU.len]; exact hk) hN a d.length c d hv hva hl rfl hc).mono ?_
  rintro e w' ⟨rfl, ⟨F', f1, f2, f3⟩, k1⟩
  rw [hT] at f3 ⊢
  exact ⟨rfl, F', h.of f3 f1 k1, f2, k1⟩

theorem Load_up {w0 w : World} {b N : Nat} {F : Nat → Prop} {S : St} (h : Run w0 w b N F S) (hU : Up S) (k : Nat) (hk : k + 1 < 64) (hN : N < 800000) (hla : (S.rcd k).laid = true) :
    Calls Tryz.prog 59 #[.pointer (some ⟨b, 0, none⟩), .int .i64 k] w fun e w' => ∃ a n c, e = .returned (.tuple #[.slice a n c, .int .i64 (S.rcd k).count, .int .i64 0]) ∧ Sl w' (.slice a n c) (S.rcd k).data ∧ (∀ ad, a = some ad → w.heap.size ≤ ad.block) ∧ Run w0 w' b (N + 2) F S.burn.burn ∧ Kept F w w' := by
  refine (Load_laid h.dev (fun j hj => (h.foot j hj).2) k (by rw [hU.len]; exact hk) hN hU.reads hla).mono ?_
  rintro e w' ⟨a, n, c, rfl, h1, h2, h3, h4⟩
  exact ⟨a, n, c, rfl, h1, h2, h.of h3 (fun j hj => by have := h.foot j hj; have := h4.size; omega) h4, h4⟩
theorem Load_no {w0 w : World} {b N : Nat} {F : Nat → Prop} {S : St} (h : Run w0 w b N F S) (hU : Up S) (k : Nat) (hk : k + 1 < 64) (hN : N < 800000) (hla : (S.rcd k).laid = false) :
    Calls Tryz.prog 59 #[.pointer (some ⟨b, 0, none⟩), .int .i64 k] w fun e w' => e = .returned (.tuple #[.slice none 0 0, .int .i64 0, .int .i64 30]) ∧ Run w0 w' b (N + 2) F S.burn.burn ∧ Kept F w w' := by
  refine (Load_none h.dev (fun j hj => (h.foot j hj).2) k (by rw [hU.len]; exact hk) hN hU.reads hla).mono ?_
  rintro e w' ⟨rfl, h3, h4⟩
  exact ⟨rfl, h.of h3 (fun j hj => by have := h.foot j hj; have := h4.size; omega) h4, h4⟩

theorem new_rcd (k : Nat) (hk : k + 1 < 64) : (St.new 64).rcd k = noSlot := by
  have h : ∀ j, j < 64 → (St.new 64).newest j = List.replicate 512 0 := fun j hj => by
    show ((List.replicate 64 (List.replicate 512 (0 : UInt8)))[j]?).getD [] = _
    rw [List.getElem?_replicate, if_pos hj]; rfl
  unfold St.rcd
  rw [h k (by omega), h (k + 1) hk, unl_noughts]
  rfl
theorem St.rcd_burn (S : St) (k : Nat) : S.burn.rcd k = S.rcd k := rfl
end Go.Proofs.YtfnhhjpebilacaaGreat
