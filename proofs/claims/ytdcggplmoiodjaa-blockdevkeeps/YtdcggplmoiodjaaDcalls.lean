/-
  DERIVED. How a slice of the law's calls is opened.
-/
import Derived.Test.YtdcggplmoiodjaaDflush
import Derived.Deep.Slices
import Derived.Deep.Lists
import Derived.Test.YtdcggplmoiodjaaDawake
namespace Go.Proofs.Ytdcggplmoiodjaa
open Go.ChangeShapes Go.WideShapes Go.ChangeAt Go.RowKit
set_option linter.unusedVariables false

/-- A call, as it reads. -/
structure Cl where
  kind : Int
  two : Bool
  n : Int
  fill : Int
  head : ByteArray
  picks : List Int
instance : Inhabited Cl := ⟨⟨0, false, 0, 0, ByteArray.empty, []⟩⟩

abbrev I64 (x : Int) : Prop := -9223372036854775808 ≤ x ∧ x < 9223372036854775808
structure ClAt (w : World) (b o : Nat) (c : Cl) : Prop where
  c0 : w.cell? ⟨b, o, none⟩ = some (.int .i64 c.kind)
  c1 : w.cell? ⟨b, o + 1, none⟩ = some (.bool c.two)
  c2 : w.cell? ⟨b, o + 2, none⟩ = some (.int .i64 c.n)
  c3 : w.cell? ⟨b, o + 3, none⟩ = some (.int .i64 c.fill)
  c4 : w.cell? ⟨b, o + 4, none⟩ = some (.string c.head)
  c5 : ∃ v, w.cell? ⟨b, o + 5, none⟩ = some v ∧ Ints w v c.picks
  i0 : I64 c.kind
  i2 : I64 c.n
  i3 : I64 c.fill

/-- A slice of calls. -/
def ClL (w : World) (v : Value) (l : List Cl) : Prop :=
  ∃ ao cap, v = .slice ao l.length cap ∧ l.length ≤ 9223372036854775807 ∧ (0 < l.length → ∃ b off, ao = some ⟨b, off, none⟩ ∧ b < w.heap.size ∧ ∀ i, (h : i < l.length) → ClAt w b (off + i * 6) l[i])

theorem Ints.below {B : Nat} {w w' : World} {v : Value} {l : List Int} (h : Ints w v l) (hb : Below B w w') (hB : w.heap.size ≤ B) : Ints w' v l := by
  obtain ⟨ao, cap, rfl, h1, h2, h3⟩ := h
  refine ⟨ao, cap, rfl, h1, h2, fun hne => ?_⟩
  obtain ⟨pb, off, e, hp, hc⟩ := h3 hne
  exact ⟨pb, off, e, by have := hb.size; omega, fun i hi => (hb.cell (p := ⟨pb, off + i, none⟩) (by show pb < B; omega)).trans (hc i hi)⟩
theorem ClAt.below {B : Nat} {w w' : World} {b o : Nat} {c : Cl} (h : ClAt w b o c) (hb : Below B w w') (hB : w.heap.size ≤ B) (hlt : b < B) : ClAt w' b o c :=
  { c0 := (hb.cell (p := ⟨b, _, none⟩) hlt).trans h.c0, c1 := (hb.cell (p := ⟨b, _, none⟩) hlt).trans h.c1, c2 := (hb.cell (p := ⟨b, _, none⟩) hlt).trans h.c2, c3 := (hb.cell (p := ⟨b, _, none⟩) hlt).trans h.c3, c4 := (hb.cell (p := ⟨b, _, none⟩) hlt).trans h.c4
    c5 := by obtain ⟨v, h1, h2⟩ := h.c5; exact ⟨v, (hb.cell (p := ⟨b, _, none⟩) hlt).trans h1, h2.below hb hB⟩
    i0 := h.i0, i2 := h.i2, i3 := h.i3 }

theorem Try.cellsCl : Try.prog.cellsOf 37 = 6 := by kernel_rfl
theorem Try.cellsStr : Try.prog.cellsOf 9 = 1 := by kernel_rfl
theorem Try.cellsBool : Try.prog.cellsOf 4 = 1 := by kernel_rfl
theorem Try.cellsInts : Try.prog.cellsOf 35 = 1 := by kernel_rfl
theorem Try.underCl : ∃ f0 f1 f2 f3 f4 f5, Try.prog.underlying 37 = some (.struct #[f0, f1, f2, f3, f4, f5]) ∧ (f0.offset = 0 ∧ f1.offset = 1 ∧ f2.offset = 2 ∧ f3.offset = 3 ∧ f4.offset = 4 ∧ f5.offset = 5) ∧ f0.type = 3 ∧ f1.type = 4 ∧ f2.type = 3 ∧ f3.type = 3 ∧ f4.type = 9 ∧ f5.type = 35 := ⟨_, _, _, _, _, _, Try.underlying37, ⟨rfl, rfl, rfl, rfl, rfl, rfl⟩, rfl, rfl, rfl, rfl, rfl, rfl⟩

theorem open_intl' {H : Type} {enc : TypeId × Value → H} {W : World} {v : Value} {y : DataW H × List MemPlace} {fuel : Nat}
    (hf : DataW.trod enc Try.prog W 0 (fun _ => true) true fuel 35 [v] = some y) : ∃ l : List Int, Ints W v l := by
  rcases open_ints Try.underlying35 Try.underlying3 Try.cellsInt hf with ⟨hcs, hx⟩ | ⟨x, l, cp, zs, hcs, _, hl, hm, hz, hx, hcell, hwz⟩
  · simp at hcs
    subst hcs
    exact ⟨[], none, 0, rfl, by simp, by simp, fun h => absurd rfl h⟩
  · simp at hcs
    subst hcs
    exact open_intl (enc := enc) (d := y.1) (p := y.2) ⟨fuel, by simpa [Value.cells] using hf⟩

set_option maxRecDepth 100000 in
theorem open_calls {H : Type} {enc : TypeId × Value → H} {W : World} {a : Option Addr} {n c : Nat} {d : DataW H} {p : List MemPlace}
    (h : DataW.Trod enc Try.prog W 0 (fun _ => true) true 22 (.slice a n c) d p) : ∃ l : List Cl, ClL W (.slice a n c) l := by
  obtain ⟨fuel, hf⟩ := h
  obtain ⟨f0, f1, f2, f3, f4, f5, hu, ⟨o0, o1, o2, o3, o4, o5⟩, t0, t1, t2, t3, t4, t5⟩ := Try.underCl
  rcases Go.Deep.open_slice Try.underlying22 hf with ⟨hcs, hx⟩ | ⟨x, n', cap, m, k, D, Pl, hcs, _, hl, hm, hz, hx, hcell⟩
  · simp [Value.cells] at hcs
    obtain ⟨rfl, rfl, rfl⟩ := hcs
    exact ⟨[], none, 0, rfl, by simp, fun h => by simp at h⟩
  · simp [Value.cells] at hcs
    obtain ⟨rfl, rfl, rfl⟩ := hcs
    rw [if_pos rfl] at hz
    subst hz
    unfold maxLen at hm
    have hel : ∀ i, i < n → ∃ e : Cl, I64 e.kind ∧ I64 e.n ∧ I64 e.fill ∧ W.cell? (x.add (i * 6)) = some (.int .i64 e.kind) ∧ W.cell? (x.add (i * 6 + 1)) = some (.bool e.two) ∧ W.cell? (x.add (i * 6 + 2)) = some (.int .i64 e.n) ∧ W.cell? (x.add (i * 6 + 3)) = some (.int .i64 e.fill) ∧ W.cell? (x.add (i * 6 + 4)) = some (.string e.head) ∧ ∃ v, W.cell? (x.add (i * 6 + 5)) = some v ∧ Ints W v e.picks := by
      intro i hi
      obtain ⟨cs, q1, q2⟩ := hcell i (by omega)
      rw [Try.cellsCl] at q1
      obtain ⟨_, hlen, hc⟩ := World.cells?_some q1
      match cs, hlen with
      | [c0, c1, c2, c3, c4, c5], _ =>
        obtain ⟨xs, k', _, _, _, hxl, hfl⟩ := DataW.trod_struct hu q2
        match xs, hxl with
        | [x0, x1, x2, x3, x4, x5], _ =>
          have g0 := hfl 0 f0 rfl
          have g1 := hfl 1 f1 rfl
          have g2 := hfl 2 f2 rfl
          have g3 := hfl 3 f3 rfl
          have g4 := hfl 4 f4 rfl
          have g5 := hfl 5 f5 rfl
          rw [o0, t0, Try.cellsInt] at g0
          rw [o1, t1, Try.cellsBool] at g1
          rw [o2, t2, Try.cellsInt] at g2
          rw [o3, t3, Try.cellsInt] at g3
          rw [o4, t4, Try.cellsStr] at g4
          rw [o5, t5, Try.cellsInts] at g5
          obtain ⟨s0, e0, _, w0⟩ := DataW.trod_int Try.underlying3 g0
          obtain ⟨s1, e1, _⟩ := DataW.trod_bool Try.underlying4 g1
          obtain ⟨s2, e2, _, w2⟩ := DataW.trod_int Try.underlying3 g2
          obtain ⟨s3, e3, _, w3⟩ := DataW.trod_int Try.underlying3 g3
          obtain ⟨s4, e4, _, w4⟩ := DataW.trod_string Try.underlying9 g4
          simp at e0 e1 e2 e3 e4
          subst e0 e1 e2 e3 e4
          simp at g5
          obtain ⟨l5, h5⟩ := open_intl' g5
          have k0 := hc 0 (by omega)
          have k1 := hc 1 (by omega)
          have k2 := hc 2 (by omega)
          have k3 := hc 3 (by omega)
          have k4 := hc 4 (by omega)
          have k5 := hc 5 (by omega)
          rw [Go.Deep.add_add] at k0 k1 k2 k3 k4 k5
          have b0 := bounds_i64 w0
          have b2 := bounds_i64 w2
          have b3 := bounds_i64 w3
          have B0 : I64 s0 := ⟨by omega, by omega⟩
          have B2 : I64 s2 := ⟨by omega, by omega⟩
          have B3 : I64 s3 := ⟨by omega, by omega⟩
          exact ⟨⟨s0, s1, s2, s3, s4, l5⟩, B0, B2, B3, k0, k1, k2, k3, k4, c5, k5, h5⟩
    obtain ⟨F, hF⟩ := Go.Deep.choose_lt (α := Cl) hel
    have hlen : ((List.range n).map F).length = n := by simp
    refine ⟨(List.range n).map F, some x, _, by rw [hlen], by rw [hlen]; omega, fun hz => ?_⟩
    rw [hlen] at hz
    have h0 := (hF 0 (by omega)).2.2.2.1
    have hsp := World.cell?_spot h0
    obtain ⟨b, off, sp⟩ := x
    have hsp' : sp = none := by
      cases sp with
      | none => rfl
      | some k => simp [Addr.add] at hsp
    subst hsp'
    refine ⟨b, off, rfl, ?_, fun i hi => ?_⟩
    · rw [addr_add] at h0
      exact World.block_lt_of_cell? W ⟨b, off + 0 * 6, none⟩ h0
    · have hi' : i < n := by rw [hlen] at hi; exact hi
      obtain ⟨j0, j2, j3, q0, q1, q2, q3, q4, v, q5, q6⟩ := hF i hi'
      rw [addr_add] at q0 q1 q2 q3 q4 q5
      have e : ((List.range n).map F)[i] = F i := by simp
      rw [e]
      simp only [← Nat.add_assoc] at q1 q2 q3 q4 q5
      exact { c0 := q0, c1 := q1, c2 := q2, c3 := q3, c4 := q4, c5 := ⟨v, q5, q6⟩, i0 := j0, i2 := j2, i3 := j3 }
end Go.Proofs.Ytdcggplmoiodjaa
