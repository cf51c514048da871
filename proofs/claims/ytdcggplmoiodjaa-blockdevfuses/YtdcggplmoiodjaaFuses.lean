/-
  BlockdevFuses: for every int and every slice of calls it returns true, and its arguments read as before. Conditions: none.
-/
import Derived.Test.YtdcggplmoiodjaaDcalls
namespace Go.Proofs.Ytdcggplmoiodjaa
open Go.ChangeShapes Go.WideShapes Go.ChangeAt Go.RowKit
set_option linter.unusedVariables false

/-- A device with a fuse: so many operations have gone well. -/
def Fz (w wr : World) (b k good N : Nat) (dn : Bool) : Prop :=
  ∃ F S, (∀ q, F q → w.heap.size ≤ q ∧ q < wr.heap.size) ∧ Dev wr b F N S ∧ S.fused = true ∧ S.fuse = (k : Int) - good ∧ S.ops = good ∧ S.safe.length = 64 ∧ S.down = dn ∧ Below w.heap.size w wr

theorem Fz.size {w wr : World} {b k good N : Nat} {dn : Bool} (h : Fz w wr b k good N dn) : w.heap.size ≤ wr.heap.size := by
  obtain ⟨F, S, _, _, _, _, _, _, _, hb⟩ := h
  exact hb.size
theorem Fz.below {w wr : World} {b k good N : Nat} {dn : Bool} (h : Fz w wr b k good N dn) : Below w.heap.size w wr := by
  obtain ⟨F, S, _, _, _, _, _, _, _, hb⟩ := h
  exact hb
theorem Fz.grown {w wr w' : World} {b k good N : Nat} {dn : Bool} (h : Fz w wr b k good N dn) (hb : Below wr.heap.size wr w') : Fz w w' b k good N dn := by
  have hs := h.size
  obtain ⟨F, S, hF, hd, h1, h2, h3, h4, h5, h6⟩ := h
  exact ⟨F, S, fun q hq => ⟨(hF q hq).1, Nat.lt_of_lt_of_le (hF q hq).2 hb.size⟩, hd.grown hb, h1, h2, h3, h4, h5, h6.trans (hb.mono hs)⟩
theorem burn_go {S : St} {k good : Nat} (h1 : S.fused = true) (h2 : S.fuse = (k : Int) - good) (h3 : S.ops = good) (hlt : good < k) (h5 : S.down = false) : burnE S.fused S.fuse = 0 ∧ S.burn.fused = true ∧ S.burn.fuse = (k : Int) - ((good + 1 : Nat) : Int) ∧ S.burn.ops = ((good + 1 : Nat) : Int) ∧ S.burn.down = false := by
  have hne : (S.fuse == 0) = false := beq_eq_false_iff_ne.2 (by omega)
  unfold St.burn burnE burnF burnD burnO
  simp only [h1, hne, Bool.true_and, bne, Bool.not_false, if_true, Bool.false_eq_true, if_false, h5, and_true, true_and]
  omega
theorem burn_stop {S : St} {k : Nat} (h1 : S.fused = true) (h2 : S.fuse = (k : Int) - k) (h3 : S.ops = k) : burnE S.fused S.fuse ≠ 0 ∧ S.burn.fused = true ∧ S.burn.fuse = (k : Int) - k ∧ S.burn.ops = k ∧ S.burn.down = true := by
  have hne : (S.fuse == 0) = true := beq_iff_eq.2 (by omega)
  refine ⟨?_, h1, ?_, ?_, ?_⟩
  · unfold burnE; rw [h1, hne]; decide
  · show burnF S.fused S.fuse = _
    unfold burnF
    have hb : (S.fuse != 0) = false := by rw [bne, hne]; rfl
    rw [h1, hb]; exact h2
  · show burnO S.fused S.fuse S.ops = _
    unfold burnO; rw [h1, hne]; exact h3
  · show burnD S.fused S.fuse S.down = _
    unfold burnD; rw [h1, hne]; rfl
theorem shut_down (n : Nat) (k : Int) : openE n true k = 2 := rfl

theorem Read_go {w wr : World} {b k good N : Nat} (n : Nat) (h : Fz w wr b k good N false) (hlt : good < k) (hn : n < 64) (hN : N < 1000000) :
    Calls Try.prog 23 #[.pointer (some ⟨b, 0, none⟩), .int .i64 n] wr fun e w' => ∃ v, e = .returned (.tuple #[v, .int .i64 0]) ∧ Fz w w' b k (good + 1) (N + 2) false := by
  have hs := h.size
  obtain ⟨F, S, hF, hd, h1, h2, h3, h4, h5, h6⟩ := h
  obtain ⟨r1, r2, r3, r4, r5⟩ := burn_go h1 h2 h3 hlt h5
  refine (Read_dev hd n (by rw [h4]; exact hn) h5 r1 hN).mono ?_
  rintro e w' ⟨q, rfl, _, _, d', k'⟩
  exact ⟨_, rfl, F, S.burn, fun q hq => ⟨(hF q hq).1, Nat.lt_of_lt_of_le (hF q hq).2 k'.size⟩, d'.mono (fun _ h => h) (by omega), r2, r3, r4, h4, r5, h6.trans (k'.below hs fun q hq => (hF q hq).1)⟩
theorem Read_stop {w wr : World} {b k N : Nat} {dn : Bool} (n : Nat) (h : Fz w wr b k k N dn) (hn : n < 64) (hN : N < 1000000) :
    Calls Try.prog 23 #[.pointer (some ⟨b, 0, none⟩), .int .i64 n] wr fun e w' => ∃ v, e = .returned (.tuple #[v, .int .i64 2]) ∧ Fz w w' b k k (N + 2) true := by
  have hs := h.size
  obtain ⟨F, S, hF, hd, h1, h2, h3, h4, h5, h6⟩ := h
  obtain ⟨r1, r2, r3, r4, r5⟩ := burn_stop h1 h2 h3
  cases dn with
  | true =>
    refine (Read_dev_shut hd n (by rw [h5, shut_down]; decide)).mono ?_
    rintro e w' ⟨rfl, rfl⟩
    exact ⟨_, by rw [h5, shut_down], F, S, hF, hd.mono (fun _ h => h) (by omega), h1, h2, h3, h4, h5, h6⟩
  | false =>
    refine (Read_dev_burnt hd n (by rw [h4]; exact hn) h5 r1 hN).mono ?_
    rintro e w' ⟨rfl, d', k'⟩
    exact ⟨_, rfl, F, S.burn, fun q hq => ⟨(hF q hq).1, Nat.lt_of_lt_of_le (hF q hq).2 k'.size⟩, d'.mono (fun _ h => h) (by omega), r2, r3, r4, h4, r5, h6.trans (k'.below hs fun q hq => (hF q hq).1)⟩
theorem Flush_go {w wr : World} {b k good N : Nat} (h : Fz w wr b k good N false) (hlt : good < k) (hN : N < 1000000) :
    Calls Try.prog 22 #[.pointer (some ⟨b, 0, none⟩)] wr fun e w' => e = .returned (.int .i64 0) ∧ Fz w w' b k (good + 1) (N + 2) false := by
  have hs := h.size
  obtain ⟨F, S, hF, hd, h1, h2, h3, h4, h5, h6⟩ := h
  obtain ⟨r1, r2, r3, r4, r5⟩ := burn_go h1 h2 h3 hlt h5
  refine (Flush_dev hd h5 r1 hN).mono ?_
  rintro e w' ⟨rfl, d', k'⟩
  exact ⟨rfl, F, S.burn.flushed, fun q hq => ⟨(hF q hq).1, Nat.lt_of_lt_of_le (hF q hq).2 k'.size⟩, d'.mono (fun _ h => h) (by omega), r2, r3, r4, by show ((List.range S.safe.length).map _).length = 64; rw [List.length_map, List.length_range]; exact h4, r5, h6.trans (k'.below hs fun q hq => (hF q hq).1)⟩
theorem Flush_dev_shut {w : World} {b : Nat} {F : Nat → Prop} {N : Nat} {S : St} (h : Dev w b F N S) (hd : S.down = true) :
    Calls Try.prog 22 #[.pointer (some ⟨b, 0, none⟩)] w fun e w' => e = .returned (.int .i64 2) ∧ w = w' := by
  obtain ⟨g, c, m, vf, D, h⟩ := h
  have h3 := h.dev
  rw [hd] at h3
  exact Flush_down h3
theorem Flush_stop {w wr : World} {b k N : Nat} {dn : Bool} (h : Fz w wr b k k N dn) (hN : N < 1000000) :
    Calls Try.prog 22 #[.pointer (some ⟨b, 0, none⟩)] wr fun e w' => e = .returned (.int .i64 2) ∧ Fz w w' b k k (N + 2) true := by
  have hs := h.size
  obtain ⟨F, S, hF, hd, h1, h2, h3, h4, h5, h6⟩ := h
  obtain ⟨r1, r2, r3, r4, r5⟩ := burn_stop h1 h2 h3
  cases dn with
  | true =>
    refine (Flush_dev_shut hd h5).mono ?_
    rintro e w' ⟨rfl, rfl⟩
    exact ⟨rfl, F, S, hF, hd.mono (fun _ h => h) (by omega), h1, h2, h3, h4, h5, h6⟩
  | false =>
    refine (Flush_dev_burnt hd h5 r1 hN).mono ?_
    rintro e w' ⟨rfl, d', k'⟩
    exact ⟨rfl, F, S.burn, fun q hq => ⟨(hF q hq).1, Nat.lt_of_lt_of_le (hF q hq).2 k'.size⟩, d'.mono (fun _ h => h) (by omega), r2, r3, r4, h4, r5, h6.trans (k'.below hs fun q hq => (hF q hq).1)⟩
theorem Write_go {w wr : World} {b k good N : Nat} (n : Nat) (v : Value) (L : List UInt8) (h : Fz w wr b k good N false) (hlt : good < k) (hn : n < 64) (hv : Sl wr v L) (hL : L.length = 512) (hN : N < 1000000) :
    Calls Try.prog 21 #[.pointer (some ⟨b, 0, none⟩), .int .i64 n, v] wr fun e w' => e = .returned (.int .i64 0) ∧ Fz w w' b k (good + 1) (N + 2) false := by
  have hs := h.size
  obtain ⟨F, S, hF, hd, h1, h2, h3, h4, h5, h6⟩ := h
  obtain ⟨r1, r2, r3, r4, r5⟩ := burn_go h1 h2 h3 hlt h5
  refine (Write_own (base := w.heap.size) hd hF hs n L v (by rw [h4]; exact hn) h5 r1 hv hL hN).mono ?_
  rintro e w' ⟨rfl, ⟨F', f', _, d'⟩, k'⟩
  exact ⟨rfl, F', _, f', d', r2, r3, r4, h4, r5, h6.trans (k'.below hs fun q hq => (hF q hq).1)⟩
theorem Write_dev_shut {w : World} {b : Nat} {F : Nat → Prop} {N : Nat} {S : St} (h : Dev w b F N S) (k : Int) (v : Value) (hE : openE S.safe.length S.down k ≠ 0) :
    Calls Try.prog 21 #[.pointer (some ⟨b, 0, none⟩), .int .i64 k, v] w fun e w' => e = .returned (.int .i64 (openE S.safe.length S.down k)) ∧ w = w' := by
  obtain ⟨g, c, m, vf, D, h⟩ := h
  exact Write_closed k v h.dev hE
theorem Write_stop {w wr : World} {b k N : Nat} {dn : Bool} (n : Nat) (a' : Option Addr) (c' : Nat) (h : Fz w wr b k k N dn) (hn : n < 64) (hN : N < 1000000) :
    Calls Try.prog 21 #[.pointer (some ⟨b, 0, none⟩), .int .i64 n, .slice a' 512 c'] wr fun e w' => e = .returned (.int .i64 2) ∧ Fz w w' b k k (N + 2) true := by
  have hs := h.size
  obtain ⟨F, S, hF, hd, h1, h2, h3, h4, h5, h6⟩ := h
  obtain ⟨r1, r2, r3, r4, r5⟩ := burn_stop h1 h2 h3
  cases dn with
  | true =>
    refine (Write_dev_shut hd n _ (by rw [h5, shut_down]; decide)).mono ?_
    rintro e w' ⟨rfl, rfl⟩
    exact ⟨by rw [h5, shut_down], F, S, hF, hd.mono (fun _ h => h) (by omega), h1, h2, h3, h4, h5, h6⟩
  | false =>
    refine (Write_dev_burnt hd n a' c' (by rw [h4]; exact hn) h5 r1 hN).mono ?_
    rintro e w' ⟨rfl, d', k'⟩
    exact ⟨rfl, F, S.burn, fun q hq => ⟨(hF q hq).1, Nat.lt_of_lt_of_le (hF q hq).2 k'.size⟩, d'.mono (fun _ h => h) (by omega), r2, r3, r4, h4, r5, h6.trans (k'.below hs fun q hq => (hF q hq).1)⟩
theorem Down_fz {w wr : World} {b k good N : Nat} {dn : Bool} (h : Fz w wr b k good N dn) : Calls Try.prog 26 #[.pointer (some ⟨b, 0, none⟩)] wr fun e w' => e = .returned (.bool dn) ∧ wr = w' := by
  obtain ⟨F, S, hF, hd, h1, h2, h3, h4, h5, h6⟩ := h
  obtain ⟨g, c, m, vf, D, hd⟩ := hd
  rw [← h5]
  exact Down_dev hd.dev

theorem idx_calls (ao : Option Addr) (n cap pb off j : Nat) (h : ao = some ⟨pb, off, none⟩) (hj : j < n) (W : World) : (Instr.indexAt 22 (.slice ao n cap) (.int .i64 (j : Nat))).run Try.prog W = .ok (.pointer (some ⟨pb, off + j * 6, none⟩)) W := by
  subst h
  have hu : Try.prog.underlying 22 = some (.slice (Try.prog.elem 22)) := by kernel_rfl
  rw [run_indexAt_slice (h := hu), if_pos (by omega)]
  have e : Try.prog.elem 22 = 37 := by kernel_rfl
  have e2 : (sizeOf 37).run Try.prog W = .ok 6 W := by kernel_rfl
  rw [e, e2, Result.andThen_ok, Int.toNat_natCast, addr_add]
theorem Pick_64' (p : Int) (w : World) (p1 : I64 p) : Calls Try.prog 19 #[.int .i64 p, .int .i64 64] w fun e w' => e = .returned (.int .i64 (pickR p 63 : Nat)) ∧ w = w' := Pick_eq p 63 w p1.1 p1.2 (by omega)
theorem Pick_40 (p : Int) (w : World) (p1 : I64 p) : Calls Try.prog 19 #[.int .i64 p, .int .i64 40] w fun e w' => e = .returned (.int .i64 (pickR p 39 : Nat)) ∧ w = w' := Pick_eq p 39 w p1.1 p1.2 (by omega)
theorem Pick_3 (p : Int) (w : World) (p1 : I64 p) : Calls Try.prog 19 #[.int .i64 p, .int .i64 3] w fun e w' => e = .returned (.int .i64 (pickR p 2 : Nat)) ∧ w = w' := Pick_eq p 2 w p1.1 p1.2 (by omega)

set_option maxRecDepth 100000 in
set_option maxHeartbeats 6400000 in
theorem Fuses.walk (k0 : Int) (v : Value) (l : List Cl) (w : World) (hv : ClL w v l) (hk0 : I64 k0) :
    Calls Try.prog 5 #[.int .i64 k0, v] w fun e w' => e = .returned (.bool true) ∧ Below w.heap.size w w' := by
  obtain ⟨ap, cp, rfl, hpl, hpc⟩ := hv
  have HP := hide hpc
  clear hpc
  go_enter Try.func5, Try.ntmps5
  go_wp2_with fail
  refine (awake_any _).mono ?_
  rintro e w1 ⟨rfl, b1⟩
  have s1 := b1.size
  have K1 := hide b1
  clear b1
  go_wp2_with fail
  refine (New_dev 64 w1 (by omega) (by omega)).mono ?_
  rintro e w2 ⟨rfl, d2, b2⟩
  have s2 := b2.size
  have H2 := hide d2
  have K2 := hide ((unhide K1).trans (b2.mono s1))
  clear d2 b2
  go_wp2_with fail
  refine (Pick_40 k0 w2 hk0).mono ?_
  rintro e w3 ⟨rfl, rfl⟩
  obtain ⟨k, hk⟩ : ∃ k, k = pickR k0 39 := ⟨_, rfl⟩
  have hk4 : k < 40 := by rw [hk]; exact pickR_lt k0 39
  rw [← hk]
  clear hk
  obtain ⟨b, hb⟩ : ∃ b, b = w1.heap.size + 2 := ⟨_, rfl⟩
  rw [← hb] at H2 ⊢
  clear hb
  go_wp2_with fail
  refine (Fuse_devS (unhide H2) k (by omega) (by omega)).mono ?_
  rintro e w4 ⟨rfl, d4, k4⟩
  have HZ : Hid (Fz w w4 b k 0 0 false) := hide ⟨_, _, fun q hq => ⟨by have := hq.1; omega, Nat.lt_of_lt_of_le hq.2 k4.size⟩, d4, by show decide ((0 : Int) ≤ (k : Int)) = true; exact decide_eq_true (by omega), by show max (k : Int) 0 = (k : Int) - ((0 : Nat) : Int); omega, rfl, List.length_replicate, rfl, (unhide K2).trans (k4.below (by omega) fun q hq => by have := hq.1; omega)⟩
  clear d4 k4
  have hdn : (St.new 64).down = false := rfl
  rw [hdn]
  clear hdn
  go_wp2_with fail
  go_loopw [8, 9] (fun g i wr => ∃ (j good : Nat) (dn : Bool), i = .int .i64 j ∧ g = .int .i64 good ∧ j ≤ l.length ∧ j ≤ 80 ∧ good ≤ k ∧ (dn = true → good = k) ∧ Fz w wr b k good (2 * j) dn) (fun _ i _ => l.length - (intOf i).toNat)
  case atStart => exact ⟨0, 0, false, rfl, rfl, Nat.zero_le _, Nat.zero_le _, Nat.zero_le _, fun h => (by cases h), unhide HZ⟩
  case round =>
    obtain ⟨j, good, dn, rfl, rfl, hj1, hj2, hg, hdn, hz⟩ := hrel
    have HZ := hide hz
    clear hz
    by_cases hend : j < l.length ∧ j < 80
    · obtain ⟨hl, h8⟩ := hend
      obtain ⟨pb, off, hap, hpw, hpcl⟩ := unhide HP (by omega)
      have hix := idx_calls ap l.length cp pb off j hap hl
      obtain ⟨c, hc⟩ : ∃ c, c = l[j] := ⟨_, rfl⟩
      have hcl := hpcl j hl
      rw [← hc] at hcl
      have hcr := hcl.below (unhide HZ).below (Nat.le_refl _) hpw
      have c0 := hcr.c0
      have c2 := hcr.c2
      have c3 := hcr.c3
      have i0 := hcr.i0
      have i2 := hcr.i2
      have i3 := hcr.i3
      have I0 := hide i0
      have I2 := hide i2
      have I3 := hide i3
      clear hcr hcl hpcl hap hc i0 i2 i3
      go_wp2_with fail
      refine (Pick_64' c.n _ (unhide I2)).mono ?_
      rintro e w' ⟨rfl, rfl⟩
      obtain ⟨n, hn⟩ : ∃ n, n = pickR c.n 63 := ⟨_, rfl⟩
      have hn4 : n < 64 := by rw [hn]; exact pickR_lt c.n 63
      rw [← hn]
      clear hn
      go_wp2_with fail
      refine (Pick_3 c.kind _ (unhide I0)).mono ?_
      rintro e w' ⟨rfl, rfl⟩
      obtain ⟨t, ht⟩ : ∃ t, t = pickR c.kind 2 := ⟨_, rfl⟩
      have ht4 : t < 3 := by rw [ht]; exact pickR_lt c.kind 2
      rw [← ht]
      clear ht
      clear c0 c2
      have hdc : good < k → dn = false := fun h => by
        cases dn with
        | false => rfl
        | true => have := hdn rfl; omega
      have HDC := hide hdc
      clear hdc hdn
      go_wp2_with fail
      · by_cases hgk : good < k
        · obtain rfl := unhide HDC hgk
          refine (Read_go n (unhide HZ) hgk hn4 (by omega)).mono ?_
          rintro e w5 ⟨v5, rfl, z5⟩
          have HZ5 : Hid (Fz w w5 b k (good + 1) (2 * (j + 1)) false) := hide z5
          clear z5
          go_wp2
          refine ⟨⟨j + 1, good + 1, false, rfl, rfl, by omega, by omega, by omega, fun h => (by cases h), unhide HZ5⟩, ?_⟩
          simp [intOf]
          omega
        · obtain rfl : good = k := by omega
          refine (Read_stop n (unhide HZ) hn4 (by omega)).mono ?_
          rintro e w5 ⟨v5, rfl, z5⟩
          have HZ5 : Hid (Fz w w5 b good good (2 * (j + 1)) true) := hide z5
          clear z5
          go_wp2_with (first | (go_at_call 26; refine (Down_fz (unhide HZ5)).mono ?_; rintro e w' ⟨rfl, rfl⟩))
          refine ⟨⟨j + 1, good, true, rfl, rfl, by omega, by omega, by omega, fun _ => rfl, unhide HZ5⟩, ?_⟩
          simp [intOf]
          omega
      · refine (Block_sl c.fill ⟨#[]⟩ _ (unhide I3).1 (unhide I3).2).mono ?_
        rintro e w6 ⟨rfl, l6, b6⟩
        have HZ6 := hide ((unhide HZ).grown b6)
        have L6 := hide l6
        clear l6 b6
        go_wp2_with fail
        by_cases hgk : good < k
        · obtain rfl := unhide HDC hgk
          refine (Write_go n _ _ (unhide HZ6) hgk hn4 (unhide L6) (headL_len _ _) (by omega)).mono ?_
          rintro e w5 ⟨rfl, z5⟩
          have HZ5 : Hid (Fz w w5 b k (good + 1) (2 * (j + 1)) false) := hide z5
          clear z5
          go_wp2
          refine ⟨⟨j + 1, good + 1, false, rfl, rfl, by omega, by omega, by omega, fun h => (by cases h), unhide HZ5⟩, ?_⟩
          simp [intOf]
          omega
        · obtain rfl : good = k := by omega
          refine (Write_stop n _ _ (unhide HZ6) hn4 (by omega)).mono ?_
          rintro e w5 ⟨rfl, z5⟩
          have HZ5 : Hid (Fz w w5 b good good (2 * (j + 1)) true) := hide z5
          clear z5
          go_wp2_with (first | (go_at_call 26; refine (Down_fz (unhide HZ5)).mono ?_; rintro e w' ⟨rfl, rfl⟩))
          refine ⟨⟨j + 1, good, true, rfl, rfl, by omega, by omega, by omega, fun _ => rfl, unhide HZ5⟩, ?_⟩
          simp [intOf]
          omega
      · by_cases hgk : good < k
        · obtain rfl := unhide HDC hgk
          refine (Flush_go (unhide HZ) hgk (by omega)).mono ?_
          rintro e w5 ⟨rfl, z5⟩
          have HZ5 : Hid (Fz w w5 b k (good + 1) (2 * (j + 1)) false) := hide z5
          clear z5
          go_wp2
          refine ⟨⟨j + 1, good + 1, false, rfl, rfl, by omega, by omega, by omega, fun h => (by cases h), unhide HZ5⟩, ?_⟩
          simp [intOf]
          omega
        · obtain rfl : good = k := by omega
          refine (Flush_stop (unhide HZ) (by omega)).mono ?_
          rintro e w5 ⟨rfl, z5⟩
          have HZ5 : Hid (Fz w w5 b good good (2 * (j + 1)) true) := hide z5
          clear z5
          go_wp2_with (first | (go_at_call 26; refine (Down_fz (unhide HZ5)).mono ?_; rintro e w' ⟨rfl, rfl⟩))
          refine ⟨⟨j + 1, good, true, rfl, rfl, by omega, by omega, by omega, fun _ => rfl, unhide HZ5⟩, ?_⟩
          simp [intOf]
          omega
    · have hb1 : ¬ (j < l.length) ∨ (j < l.length ∧ ¬ (j < 80)) := by omega
      clear hend
      have s5 := (unhide HZ).size
      obtain ⟨F, S, hF, hd, h1, h2, h3, h4, h5, h6⟩ := unhide HZ
      have HF := hide hF
      have HD := hide hd
      have HB := hide h6
      have H3 := hide h3
      have H4 := hide h4
      have H5 := hide h5
      clear hF hd h6 h1 h2 h3 h4 h5
      have HC := hide (Crash_dev (unhide HD) (by omega) [] (.slice none 0 0) ⟨none, 0, rfl, by simp, by simp, fun h => absurd rfl h⟩ (fun h => absurd rfl h))
      have HQ : Hid (∀ w', Dev w' b F (2 * j) (S.crash []) → Kept F wr w' → Calls Try.prog 23 #[.pointer (some ⟨b, 0, none⟩), .int .i64 0] w' fun e w'' => ∃ v, e = .returned (.tuple #[v, .int .i64 0]) ∧ Below w.heap.size w w'' ∧ ∃ g c m vf D, DevIn w'' b F (2 * j + 1) (S.crash []).burn g c m vf D) := hide fun w' d' k' => by
        have hl : 0 < (S.crash []).safe.length := by show 0 < (S.crashTo _ _).length; rw [St.crashTo_len, unhide H4]; omega
        refine (Read_dev d' 0 hl rfl rfl (by omega)).mono ?_
        rintro e w'' ⟨q, rfl, _, _, d'', k''⟩
        have hs' := k'.size
        exact ⟨_, rfl, ((unhide HB).trans (k'.below s5 fun q hq => (unhide HF q hq).1)).trans (k''.below (by omega) fun q hq => (unhide HF q hq).1), d''⟩
      rcases hb1 with hb1 | ⟨hb1, hb2⟩
      all_goals
        go_wp2_with fail
        refine (Down_fz (unhide HZ)).mono ?_
        rintro e w' ⟨rfl, rfl⟩
        go_wp2_with fail
        refine (unhide HC).mono ?_
        rintro e w7 ⟨rfl, d7, k7⟩
        have HR := hide (unhide HQ w7 d7 k7)
        clear d7 k7
        go_wp2_with fail
        refine (unhide HR).mono ?_
        rintro e w8 ⟨v8, rfl, b8, g8, c8, m8, vf8, D8, d8⟩
        have hops : (S.crash []).burn.ops = (good : Int) + 1 := by show S.ops + 1 = _; rw [unhide H3]
        have hd8 := d8.dev
        have hdw : (S.crash []).burn.down = false := rfl
        rw [hops, hdw] at hd8
        have HD8 := hide hd8
        have HB8 := hide b8
        clear d8 hd8 b8 hops hdw
        have hgb : (good : Int) < 1000 := by omega
        cases dn
        all_goals
          go_wp2_with (first | (go_at_call 26; refine (Down_dev (unhide HD8)).mono ?_; rintro e w' ⟨rfl, rfl⟩) | (go_at_call 27; refine (Ops_dev (unhide HD8)).mono ?_; rintro e w' ⟨rfl, rfl⟩))
          go_ret
          exact ⟨rfl, unhide HB8⟩

set_option maxRecDepth 100000 in
theorem Fuses.lifted (os : Os) (started : os.Started) (H : Type) (enc : TypeId × Value → H) :
    ReturnsInHanded {} Try.checked os 5 .any (Rows.blockdevFusesSpec.pre6 enc Try.prog Try.f5 Rows.blockdevFusesRow.domain false) (Rows.blockdevFusesSpec.post enc Try.prog Try.f5 false true false false) := by
  refine returnsInHanded_of_change (C := Try.checked) own_knob started (by kernel_rfl) Try.func5
    (ChangeSpec.witness6 (enc := enc) (C := Try.checked) false ⟨#[], #[.int .i64 0, .slice none 0 0], []⟩ 8 (by kernel_rfl) (by kernel_rfl) (by kernel_rfl) (by kernel_rfl)) ?_
  intro W base args ds gs before hval0 hW hcnd _
  have hval : ∀ (j : Nat) t v, Try.f5.params[j]? = some t → args[j]? = some v → Value.okWide Try.prog W .any base t v := hval0
  have hW' := hW
  obtain ⟨p, q, hA0, hV, rfl, hfz, hnd⟩ := hW
  have hA : DataW.TrodAll enc Try.prog W 0 (fun _ => true) true Try.f5.params.toList args.toList ds p := hA0
  rw [Try.params5] at hA hval
  obtain ⟨v0, v1, d0, d1, p0, p1, rfl, rfl, rfl, h0, h1⟩ := trodAll_two hA
  obtain ⟨rfl, rfl⟩ := trodVars_none hV
  obtain ⟨a0, rfl, rfl, rfl, w0⟩ := open_int Try.underlying3 (hval 0 3 v0 rfl rfl) h0
  have k1 := h1
  have lt1 : ∀ x ∈ p1, x.block < W.heap.size := by obtain ⟨m, hm⟩ := k1; exact DataW.trod_lt m _ _ _ hm
  obtain ⟨a1, len1, cap1, rfl⟩ := okWide_slice Try.underlying22 (hval 1 22 v1 rfl rfl)
  obtain ⟨l, hl⟩ := open_calls h1
  have b0 := bounds_i64 w0
  have B0 : I64 a0 := ⟨by omega, by omega⟩
  clear hA0 hval0
  refine (Fuses.walk a0 _ l W hl B0).mono fun e W' ⟨he, bel⟩ => ?_
  subst he
  exact ⟨_, rfl, _, _, _, [], _, [], hW', trodAll_mk1 (shut_bool Try.underlying4 _), (trodAll_cons_mk (shut_int Try.underlying3 w0) (trodAll_cons_mk (Below.trod laid_out (by kernel_rfl) (of_decide_eq_true (by kernel_rfl)) k1 bel lt1) trodAll_mk0)), rfl, bel.frame _, fun h => by cases h⟩

theorem blockdevFuses_holds : Rows.BlockdevFusesSaid :=
  OpenClaim.holds_of_wide 5 Try.f5 rfl rfl rfl rfl rfl rfl rfl ⟨rfl, rfl, rfl, rfl, rfl⟩ rfl rfl rfl rfl rfl (by kernel_rfl) Try.func5 (by kernel_rfl)
    (of_decide_eq_true (by kernel_rfl)) (by unfold Func.isWrapper; first | (rw [if_pos (by decide +kernel)]; kernel_rfl) | (rw [if_neg (by decide +kernel)]; exact ⟨rfl, rfl⟩))
    (fun os started H enc _ => Fuses.lifted os started H enc)
#print axioms blockdevFuses_holds
end Go.Proofs.Ytdcggplmoiodjaa
