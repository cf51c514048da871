/-
  DERIVED. How runs and calls that came in are opened; Pick; Take of whatever number.
-/
import Derived.Test.YtmnmciajldoabaaRows
import Derived.Test.YtmnmciajldoabaaAawake
import Derived.OpenShut
import Derived.ShutString
import Derived.SizedLaws
import Derived.Deep.Slices
import Derived.Deep.Lists
namespace Go.Proofs.Ytmnmciajldoabaa
open Go.ChangeShapes Go.WideShapes Go.ChangeAt Go.RowKit
set_option linter.unusedVariables false

theorem own_knob : ownKnob Try.prog.godebug = none := by kernel_rfl
theorem laid_out : laidOutB Try.prog = true := by kernel_rfl
theorem Try.cellsInt : Try.prog.cellsOf 3 = 1 := by kernel_rfl
theorem Try.cellsRun : Try.prog.cellsOf 36 = 2 := by kernel_rfl
theorem Try.cellsRuns : Try.prog.cellsOf 28 = 1 := by kernel_rfl
theorem Try.cellsACall : Try.prog.cellsOf 30 = 3 := by kernel_rfl
theorem Try.underRun : ∃ f0 f1, Try.prog.underlying 36 = some (.struct #[f0, f1]) ∧ (f0.offset = 0 ∧ f1.offset = 1) ∧ f0.type = 3 ∧ f1.type = 3 := ⟨_, _, Try.underlying36, ⟨rfl, rfl⟩, rfl, rfl⟩
theorem Try.underACall : ∃ f0 f1 f2, Try.prog.underlying 30 = some (.struct #[f0, f1, f2]) ∧ (f0.offset = 0 ∧ f1.offset = 1 ∧ f2.offset = 2) ∧ f0.type = 3 ∧ f1.type = 3 ∧ f2.type = 28 := ⟨_, _, _, Try.underlying30, ⟨rfl, rfl, rfl⟩, rfl, rfl, rfl⟩

theorem Pick_any (c n : Int) (w : World) (h0 : -9223372036854775808 ≤ c) (h1 : c ≤ 9223372036854775807) (hn : 0 < n) (hn2 : n ≤ 9223372036854775807) :
    Calls Try.prog 12 #[.int .i64 c, .int .i64 n] w fun e w' => ∃ k : Nat, e = .returned (.int .i64 k) ∧ (k : Int) < n ∧ w = w' := by
  by_cases hc : c < 0
  · go_enter Try.func12, Try.ntmps12
    go_wp2
    go_ret
    have h2 := Int.emod_nonneg (-(c + 1)) (show n ≠ 0 by omega)
    have h3 := Int.emod_lt_of_pos (-(c + 1)) hn
    have e : -(c + 1).tmod n = -(c + 1) % n := by rw [← Int.neg_tmod, Int.tmod_eq_emod_of_nonneg (by omega)]
    exact ⟨(-(c + 1) % n).toNat, by rw [Int.toNat_of_nonneg h2, ← e]; rfl, by omega, rfl⟩
  · go_enter Try.func12, Try.ntmps12
    go_wp2
    go_ret
    have h2 := Int.emod_nonneg c (show n ≠ 0 by omega)
    have h3 := Int.emod_lt_of_pos c hn
    exact ⟨(c % n).toNat, by rw [Int.toNat_of_nonneg h2]; rfl, by omega, rfl⟩

set_option maxRecDepth 100000 in
theorem open_runs {H : Type} {enc : TypeId × Value → H} {W : World} {v : Value} {y : DataW H × List MemPlace} {fuel : Nat}
    (hf : DataW.trod enc Try.prog W 0 (fun _ => true) true fuel 28 [v] = some y) : ∃ l : List (Int × Int), Rn W v l := by
  obtain ⟨f0, f1, hu, ⟨o0, o1⟩, t0, t1⟩ := Try.underRun
  rcases Go.Deep.open_slice Try.underlying28 hf with ⟨hcs, hx⟩ | ⟨x, n, cap, m, k, D, Pl, hcs, _, hl, hm, hz, hx, hcell⟩
  · simp at hcs
    subst hcs
    exact ⟨[], none, 0, rfl, by simp, by simp, by simp, fun h => absurd rfl h⟩
  · simp at hcs
    subst hcs
    rw [if_pos rfl] at hz
    subst hz
    unfold maxLen at hm
    have hel : ∀ i, i < n → ∃ e : Int × Int, fits e ∧ W.cell? (x.add (i * 2)) = some (.int .i64 e.1) ∧ W.cell? (x.add (i * 2 + 1)) = some (.int .i64 e.2) := by
      intro i hi
      obtain ⟨cs, q1, q2⟩ := hcell i (by omega)
      rw [Try.cellsRun] at q1
      obtain ⟨_, hlen, hc⟩ := World.cells?_some q1
      match cs, hlen with
      | [c0, c1], _ =>
        obtain ⟨xs, k', _, _, _, hxl, hfl⟩ := DataW.trod_struct hu q2
        match xs, hxl with
        | [x0, x1], _ =>
          have g0 := hfl 0 f0 rfl
          have g1 := hfl 1 f1 rfl
          rw [o0, t0, Try.cellsInt] at g0
          rw [o1, t1, Try.cellsInt] at g1
          obtain ⟨s0, e0, _, w0⟩ := DataW.trod_int Try.underlying3 g0
          obtain ⟨s1, e1, _, w1⟩ := DataW.trod_int Try.underlying3 g1
          simp at e0 e1
          subst e0 e1
          have k0 := hc 0 (by omega)
          have k1 := hc 1 (by omega)
          rw [Go.Deep.add_add] at k0 k1
          have b0 := bounds_i64 w0
          have b1 := bounds_i64 w1
          exact ⟨(s0, s1), ⟨by simp only; omega, by simp only; omega, by simp only; omega, by simp only; omega⟩, k0, k1⟩
    obtain ⟨F, hF⟩ := Go.Deep.choose_lt (α := Int × Int) hel
    have hlen : ((List.range n).map F).length = n := by simp
    refine ⟨(List.range n).map F, some x, _, by rw [hlen], by rw [hlen]; omega, by omega, fun y hy => ?_, fun hz => ?_⟩
    · obtain ⟨i, hi, rfl⟩ := List.mem_map.1 hy
      exact (hF i (List.mem_range.1 hi)).1
    · rw [hlen] at hz
      have h0 := (hF 0 (by omega)).2.1
      have hsp := World.cell?_spot h0
      obtain ⟨b, off, sp⟩ := x
      have hsp' : sp = none := by
        cases sp with
        | none => rfl
        | some k => simp [Addr.add] at hsp
      subst hsp'
      refine ⟨b, off, rfl, ?_, fun i hi => ?_⟩
      · rw [addr_add] at h0
        exact World.block_lt_of_cell? W ⟨b, off + 0 * 2, none⟩ h0
      · have hi' : i < n := by rw [hlen] at hi; exact hi
        obtain ⟨_, q0, q1⟩ := hF i hi'
        rw [addr_add] at q0 q1
        have e : ((List.range n).map F)[i] = F i := by simp
        rw [e]
        simp only [← Nat.add_assoc] at q1
        exact ⟨q0, q1⟩

/-- A call, as it reads. -/
structure ACl where
  kind : Int
  n : Int
  l : List (Int × Int)
instance : Inhabited ACl := ⟨⟨0, 0, []⟩⟩
abbrev I64 (x : Int) : Prop := -9223372036854775808 ≤ x ∧ x ≤ 9223372036854775807
structure AClAt (w : World) (b o : Nat) (c : ACl) : Prop where
  c0 : w.cell? ⟨b, o, none⟩ = some (.int .i64 c.kind)
  c1 : w.cell? ⟨b, o + 1, none⟩ = some (.int .i64 c.n)
  c2 : ∃ v, w.cell? ⟨b, o + 2, none⟩ = some v ∧ Rn w v c.l
  i0 : I64 c.kind
  i1 : I64 c.n
/-- A slice of calls. -/
def AClL (w : World) (v : Value) (l : List ACl) : Prop :=
  ∃ ao cap, v = .slice ao l.length cap ∧ l.length ≤ 9223372036854775807 ∧ (0 < l.length → ∃ b off, ao = some ⟨b, off, none⟩ ∧ b < w.heap.size ∧ ∀ i, (h : i < l.length) → AClAt w b (off + i * 3) l[i])
theorem AClAt.kept {w w' : World} {b o : Nat} {c : ACl} (h : AClAt w b o c) (hg : w.grownBy w' none) : AClAt w' b o c :=
  { c0 := hg.cell h.c0 (by simp), c1 := hg.cell h.c1 (by simp)
    c2 := by obtain ⟨v, h1, h2⟩ := h.c2; exact ⟨v, hg.cell h1 (by simp), h2.kept hg⟩
    i0 := h.i0, i1 := h.i1 }

set_option maxRecDepth 100000 in
theorem open_acalls {H : Type} {enc : TypeId × Value → H} {W : World} {a : Option Addr} {n c : Nat} {d : DataW H} {p : List MemPlace}
    (h : DataW.Trod enc Try.prog W 0 (fun _ => true) true 22 (.slice a n c) d p) : ∃ l : List ACl, AClL W (.slice a n c) l := by
  obtain ⟨fuel, hf⟩ := h
  obtain ⟨f0, f1, f2, hu, ⟨o0, o1, o2⟩, t0, t1, t2⟩ := Try.underACall
  rcases Go.Deep.open_slice Try.underlying22 hf with ⟨hcs, hx⟩ | ⟨x, n', cap, m, k, D, Pl, hcs, _, hl, hm, hz, hx, hcell⟩
  · simp [Value.cells] at hcs
    obtain ⟨rfl, rfl, rfl⟩ := hcs
    exact ⟨[], none, 0, rfl, by simp, fun h => by simp at h⟩
  · simp [Value.cells] at hcs
    obtain ⟨rfl, rfl, rfl⟩ := hcs
    rw [if_pos rfl] at hz
    subst hz
    unfold maxLen at hm
    have hel : ∀ i, i < n → ∃ e : ACl, I64 e.kind ∧ I64 e.n ∧ W.cell? (x.add (i * 3)) = some (.int .i64 e.kind) ∧ W.cell? (x.add (i * 3 + 1)) = some (.int .i64 e.n) ∧ ∃ v, W.cell? (x.add (i * 3 + 2)) = some v ∧ Rn W v e.l := by
      intro i hi
      obtain ⟨cs, q1, q2⟩ := hcell i (by omega)
      rw [Try.cellsACall] at q1
      obtain ⟨_, hlen, hc⟩ := World.cells?_some q1
      match cs, hlen with
      | [c0, c1, c2], _ =>
        obtain ⟨xs, k', _, _, _, hxl, hfl⟩ := DataW.trod_struct hu q2
        match xs, hxl with
        | [x0, x1, x2], _ =>
          have g0 := hfl 0 f0 rfl
          have g1 := hfl 1 f1 rfl
          have g2 := hfl 2 f2 rfl
          rw [o0, t0, Try.cellsInt] at g0
          rw [o1, t1, Try.cellsInt] at g1
          rw [o2, t2, Try.cellsRuns] at g2
          obtain ⟨s0, e0, _, w0⟩ := DataW.trod_int Try.underlying3 g0
          obtain ⟨s1, e1, _, w1⟩ := DataW.trod_int Try.underlying3 g1
          simp at e0 e1
          subst e0 e1
          simp at g2
          obtain ⟨l2, h2⟩ := open_runs g2
          have k0 := hc 0 (by omega)
          have k1 := hc 1 (by omega)
          have k2 := hc 2 (by omega)
          rw [Go.Deep.add_add] at k0 k1 k2
          have b0 := bounds_i64 w0
          have b1 := bounds_i64 w1
          exact ⟨⟨s0, s1, l2⟩, ⟨by simp only; omega, by simp only; omega⟩, ⟨by simp only; omega, by simp only; omega⟩, k0, k1, c2, k2, h2⟩
    obtain ⟨F, hF⟩ := Go.Deep.choose_lt (α := ACl) hel
    have hlen : ((List.range n).map F).length = n := by simp
    refine ⟨(List.range n).map F, some x, _, by rw [hlen], by rw [hlen]; omega, fun hz => ?_⟩
    rw [hlen] at hz
    have h0 := (hF 0 (by omega)).2.2.1
    have hsp := World.cell?_spot h0
    obtain ⟨b, off, sp⟩ := x
    have hsp' : sp = none := by
      cases sp with
      | none => rfl
      | some k => simp [Addr.add] at hsp
    subst hsp'
    refine ⟨b, off, rfl, ?_, fun i hi => ?_⟩
    · rw [addr_add] at h0
      exact World.block_lt_of_cell? W ⟨b, off + 0 * 3, none⟩ h0
    · have hi' : i < n := by rw [hlen] at hi; exact hi
      obtain ⟨j0, j1, q0, q1, v, q2, q3⟩ := hF i hi'
      rw [addr_add] at q0 q1 q2
      have e : ((List.range n).map F)[i] = F i := by simp
      rw [e]
      simp only [← Nat.add_assoc] at q1 q2
      exact { c0 := q0, c1 := q1, c2 := ⟨v, q2, q3⟩, i0 := j0, i1 := j1 }

/-! ### Take of whatever number -/
set_option maxRecDepth 100000 in
set_option maxHeartbeats 2000000 in
theorem Take_full (w : World) (b B n : Nat) (U V : Nat → Bool) (h : MapAt w b B U V) (hn : total (runsOf B U V) < n) (hn2 : (n : Int) ≤ 9223372036854775807) :
    Calls Try.prog 8 #[.pointer (some ⟨b, 0, none⟩), .int .i64 (n : Int)] w fun e w' => e = .returned (.tuple #[.slice none 0 0, .int .i64 50]) ∧ w.grownBy w' none := by
  have bM := Boxed.new w 24 (.pointer (some ⟨b, 0, none⟩))
  have bN := Boxed.new (w.alloc (.cells #[.pointer (some ⟨b, 0, none⟩)] 24)) 3 (.int .i64 (n : Int))
  rw [World.size_alloc] at bN
  have hg1 : w.grownBy ((w.alloc (.cells #[.pointer (some ⟨b, 0, none⟩)] 24)).alloc (.cells #[.int .i64 (n : Int)] 3)) none := (World.grownBy_alloc _ _ _).trans (World.grownBy_alloc _ _ _)
  have bM1 := bM.alloc (.cells #[.int .i64 (n : Int)] 3)
  have hn0 : ¬ (n : Int) < 0 := by omega
  have hgt : decide ((total (runsOf B U V) : Int) < (n : Int)) = true := decide_eq_true (by omega)
  have HM := hide (h.grown hg1 (by simp))
  clear h
  go_enter Try.func8, Try.ntmps8
  go_wp2_with fail
  obtain ⟨W1, hW1⟩ : ∃ W1, W1 = (w.alloc (.cells #[.pointer (some ⟨b, 0, none⟩)] 24)).alloc (.cells #[.int .i64 (n : Int)] 3) := ⟨_, rfl⟩
  rw [← hW1] at bN bM1 hg1 HM ⊢
  have cM := bM1.cell
  have cN := bN.cell
  have HG1 := hide hg1
  clear hW1 bM bM1 bN hg1
  go_region_with (go_at_call 22; refine (Free_any _ b B U V ((unhide HM).drewN _)).mono ?_; rintro e w2 ⟨rfl, hg2⟩; have c2 : w2.cell? ⟨w.heap.size + 1, 0, none⟩ = some (.int .i64 (n : Int)) := hg2.cell cN (by simp); have c3 : w2.cell? ⟨w.heap.size, 0, none⟩ = some (.pointer (some ⟨b, 0, none⟩)) := hg2.cell cM (by simp); have HG2 := hide hg2; clear hg2)
  all_goals go_wp2
  all_goals go_ret2
  all_goals exact ⟨rfl, (unhide HG1).trans ⟨(unhide HG2).os, (unhide HG2).tape, (unhide HG2).output, (unhide HG2).size, (unhide HG2).block⟩⟩

/-- What Take answers, and what is in use behind it. -/
def takeU (B n : Nat) (U V : Nat → Bool) : Nat → Bool := if n ≤ total (runsOf B U V) then marks U (cut n (runsOf B U V)) else U
theorem Take_any (w : World) (b B n : Nat) (U V : Nat → Bool) (h : MapAt w b B U V) (hn2 : (n : Int) ≤ 9223372036854775807) :
    Calls Try.prog 8 #[.pointer (some ⟨b, 0, none⟩), .int .i64 (n : Int)] w fun e w' => (∃ v, (e = .returned (.tuple #[v, .int .i64 0]) ∧ n ≤ total (runsOf B U V) ∧ ROwn w' w.heap.size v (cut n (runsOf B U V))) ∨ (e = .returned (.tuple #[v, .int .i64 50]) ∧ total (runsOf B U V) < n ∧ v = .slice none 0 0)) ∧ MapAt w' b B (takeU B n U V) V ∧ w.grownBy w' (some b) := by
  by_cases hn : n ≤ total (runsOf B U V)
  · refine (Take_ok w b B n U V h hn).mono fun e w' h1 => ?_
    obtain ⟨v, rfl, h2, h3, h4⟩ := h1
    exact ⟨⟨v, .inl ⟨rfl, hn, h2⟩⟩, by rw [takeU, if_pos hn]; exact h3, h4⟩
  · refine (Take_full w b B n U V h (by omega) hn2).mono fun e w' h1 => ?_
    obtain ⟨rfl, h2⟩ := h1
    exact ⟨⟨_, .inr ⟨rfl, by omega, rfl⟩⟩, by rw [takeU, if_neg hn]; exact h.grown h2 (by simp), h2.but _⟩
end Go.Proofs.Ytmnmciajldoabaa
