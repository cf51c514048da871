/-
  DERIVED. How runs, ints and calls that came in are opened.
-/
import Derived.Test.YthjcdibblhcgpaaRows
import Derived.Test.YthjcdibblhcgpaaM1
import Derived.OpenShut
import Derived.ShutString
import Derived.SizedLaws
import Derived.Deep.Slices
import Derived.Deep.Lists
import Derived.Laws.Bits64b
import Derived.Laws.Closers25b
import Derived.Deep.RegionLaw
import Derived.Deep.Cut
import Derived.Deep.CutRange
namespace Go.Proofs.Ythjcdibblhcgpaa
open Go.ChangeShapes Go.WideShapes Go.ChangeAt Go.RowKit
set_option linter.unusedVariables false

theorem own_knob : ownKnob Try.prog.godebug = none := by kernel_rfl
theorem laid_out : laidOutB Try.prog = true := by kernel_rfl
theorem Try.cellsInt : Try.prog.cellsOf 3 = 1 := by kernel_rfl
theorem Try.cellsRun : Try.prog.cellsOf 36 = 2 := by kernel_rfl
theorem Try.cellsRuns : Try.prog.cellsOf 28 = 1 := by kernel_rfl
theorem Try.underRun : ∃ f0 f1, Try.prog.underlying 36 = some (.struct #[f0, f1]) ∧ (f0.offset = 0 ∧ f1.offset = 1) ∧ f0.type = 3 ∧ f1.type = 3 := ⟨_, _, Try.underlying36, ⟨rfl, rfl⟩, rfl, rfl⟩

set_option maxRecDepth 100000 in
theorem open_runs {H : Type} {enc : TypeId × Value → H} {W : World} {v : Value} {y : DataW H × List MemPlace} {fuel : Nat}
    (hf : DataW.trod enc Try.prog W 0 (fun _ => true) true fuel 28 [v] = some y) : ∃ l : List (Int × Int), Rn W v l := by
  obtain ⟨f0, f1, hu, ⟨o0, o1⟩, t0, t1⟩ := Try.underRun
  rcases Go.Deep.open_slice Try.underlying28 hf with ⟨hcs, hx⟩ | ⟨x, n, cap, m, k, D, Pl, hcs, _, hl, hm, hz, hx, hcell⟩
  · simp at hcs
    subst hcs
    exact ⟨[], none, 0, rfl, by simp, by simp, by simp, fun h => absurd rfl h⟩
  · simp at hcs
    subst hcs
    rw [if_pos rfl] at hz
    subst hz
    unfold maxLen at hm
    have hel : ∀ i, i < n → ∃ e : Int × Int, fits e ∧ W.cell? (x.add (i * 2)) = some (.int .i64 e.1) ∧ W.cell? (x.add (i * 2 + 1)) = some (.int .i64 e.2) := by
      intro i hi
      obtain ⟨cs, q1, q2⟩ := hcell i (by omega)
      rw [Try.cellsRun] at q1
      obtain ⟨_, hlen, hc⟩ := World.cells?_some q1
      match cs, hlen with
      | [c0, c1], _ =>
        obtain ⟨xs, k', _, _, _, hxl, hfl⟩ := DataW.trod_struct hu q2
        match xs, hxl with
        | [x0, x1], _ =>
          have g0 := hfl 0 f0 rfl
          have g1 := hfl 1 f1 rfl
          rw [o0, t0, Try.cellsInt] at g0
          rw [o1, t1, Try.cellsInt] at g1
          obtain ⟨s0, e0, _, w0⟩ := DataW.trod_int Try.underlying3 g0
          obtain ⟨s1, e1, _, w1⟩ := DataW.trod_int Try.underlying3 g1
          simp at e0 e1
          subst e0 e1
          have k0 := hc 0 (by omega)
          have k1 := hc 1 (by omega)
          rw [Go.Deep.add_add] at k0 k1
          have b0 := bounds_i64 w0
          have b1 := bounds_i64 w1
          exact ⟨(s0, s1), ⟨by simp only; omega, by simp only; omega, by simp only; omega, by simp only; omega⟩, k0, k1⟩
    obtain ⟨F, hF⟩ := Go.Deep.choose_lt (α := Int × Int) hel
    have hlen : ((List.range n).map F).length = n := by simp
    refine ⟨(List.range n).map F, some x, _, by rw [hlen], by rw [hlen]; omega, by omega, fun y hy => ?_, fun hz => ?_⟩
    · obtain ⟨i, hi, rfl⟩ := List.mem_map.1 hy
      exact (hF i (List.mem_range.1 hi)).1
    · rw [hlen] at hz
      have h0 := (hF 0 (by omega)).2.1
      have hsp := World.cell?_spot h0
      obtain ⟨b, off, sp⟩ := x
      have hsp' : sp = none := by
        cases sp with
        | none => rfl
        | some k => simp [Addr.add] at hsp
      subst hsp'
      refine ⟨b, off, rfl, ?_, fun i hi => ?_⟩
      · rw [addr_add] at h0
        exact World.block_lt_of_cell? W ⟨b, off + 0 * 2, none⟩ h0
      · have hi' : i < n := by rw [hlen] at hi; exact hi
        obtain ⟨_, q0, q1⟩ := hF i hi'
        rw [addr_add] at q0 q1
        have e : ((List.range n).map F)[i] = F i := by simp
        rw [e]
        simp only [← Nat.add_assoc] at q1
        exact ⟨q0, q1⟩

/-- A slice of numbers. -/
def Ints (w : World) (v : Value) (l : List Int) : Prop :=
  ∃ ao cap, v = .slice ao l.length cap ∧ l.length ≤ 9223372036854775807 ∧ (∀ x ∈ l, I64 x) ∧ (l ≠ [] → ∃ pb off, ao = some ⟨pb, off, none⟩ ∧ pb < w.heap.size ∧ ∀ i, (h : i < l.length) → w.cell? ⟨pb, off + i, none⟩ = some (.int .i64 l[i]))
theorem open_intl {H : Type} {enc : TypeId × Value → H} {W : World} {a : Option Addr} {n c : Nat} {d : DataW H} {p : List MemPlace}
    (h : DataW.Trod enc Try.prog W 0 (fun _ => true) true 50 (.slice a n c) d p) : ∃ l : List Int, Ints W (.slice a n c) l := by
  obtain ⟨fuel, hf⟩ := h
  rcases open_ints Try.underlying50 Try.underlying3 Try.cellsInt hf with ⟨hcs, hx⟩ | ⟨x, l, cp, zs, hcs, _, hl, hm, hz, hx, hcell, hwz⟩
  · simp [Value.cells] at hcs
    obtain ⟨rfl, rfl, rfl⟩ := hcs
    exact ⟨[], none, 0, rfl, by simp, by simp, fun h => absurd rfl h⟩
  · simp [Value.cells] at hcs
    obtain ⟨rfl, rfl, rfl⟩ := hcs
    rw [if_pos rfl] at hz
    unfold maxLen at hm
    have hlen : (zs.take n).length = n := by simp; omega
    refine ⟨zs.take n, some x, c, by rw [hlen], by rw [hlen]; omega, fun y hy => ?_, fun hne => ?_⟩
    · have := bounds_i64 (hwz y (List.mem_of_mem_take hy)); exact ⟨by omega, by omega⟩
    · have hn0 : 0 < n := by rw [← hlen]; exact List.length_pos_iff.2 hne
      have h0 := hcell 0 (by omega)
      have hsp := World.cell?_spot h0
      obtain ⟨b, off, sp⟩ := x
      have hsp' : sp = none := by
        cases sp with
        | none => rfl
        | some k => simp [Addr.add] at hsp
      subst hsp'
      refine ⟨b, off, rfl, ?_, fun i hi => ?_⟩
      · rw [addr_add] at h0
        exact World.block_lt_of_cell? W ⟨b, off + 0, none⟩ h0
      · have hi' : i < n := by rw [hlen] at hi; exact hi
        have := hcell i (by omega)
        rw [addr_add] at this
        rw [this]
        simp [List.getD_eq_getElem?_getD, List.getElem?_eq_getElem (show i < zs.length by omega)]

/-- A call, as it reads. -/
structure ICl where
  kind : Int
  n : Int
  l : List (Int × Int)
  two : Bool
instance : Inhabited ICl := ⟨⟨0, 0, [], false⟩⟩
theorem Try.cellsICall : Try.prog.cellsOf 30 = 4 := by kernel_rfl
theorem Try.cellsBool : Try.prog.cellsOf 4 = 1 := by kernel_rfl
theorem Try.underICall : ∃ f0 f1 f2 f3, Try.prog.underlying 30 = some (.struct #[f0, f1, f2, f3]) ∧ (f0.offset = 0 ∧ f1.offset = 1 ∧ f2.offset = 2 ∧ f3.offset = 3) ∧ f0.type = 3 ∧ f1.type = 3 ∧ f2.type = 28 ∧ f3.type = 4 := ⟨_, _, _, _, Try.underlying30, ⟨rfl, rfl, rfl, rfl⟩, rfl, rfl, rfl, rfl⟩
structure IClAt (w : World) (b o : Nat) (c : ICl) : Prop where
  c0 : w.cell? ⟨b, o, none⟩ = some (.int .i64 c.kind)
  c1 : w.cell? ⟨b, o + 1, none⟩ = some (.int .i64 c.n)
  c2 : ∃ v, w.cell? ⟨b, o + 2, none⟩ = some v ∧ Rn w v c.l
  c3 : w.cell? ⟨b, o + 3, none⟩ = some (.bool c.two)
  i0 : I64 c.kind
  i1 : I64 c.n
/-- A slice of calls. -/
def IClL (w : World) (v : Value) (l : List ICl) : Prop :=
  ∃ ao cap, v = .slice ao l.length cap ∧ l.length ≤ 9223372036854775807 ∧ (0 < l.length → ∃ b off, ao = some ⟨b, off, none⟩ ∧ b < w.heap.size ∧ ∀ i, (h : i < l.length) → IClAt w b (off + i * 4) l[i])
theorem IClAt.kept {w w' : World} {b o : Nat} {c : ICl} (h : IClAt w b o c) (hg : w.grownBy w' none) : IClAt w' b o c :=
  { c0 := hg.cell h.c0 (by simp), c1 := hg.cell h.c1 (by simp)
    c2 := by obtain ⟨v, h1, h2⟩ := h.c2; exact ⟨v, hg.cell h1 (by simp), h2.kept hg⟩
    c3 := hg.cell h.c3 (by simp)
    i0 := h.i0, i1 := h.i1 }
theorem IClL.at {w : World} {ao : Option Addr} {n cap : Nat} {l : List ICl} (h : IClL w (.slice ao n cap) l) {i : Nat} (hi : i < l.length) : ∃ b off, ao = some ⟨b, off, none⟩ ∧ IClAt w b (off + i * 4) l[i] := by
  obtain ⟨ao', cap', e, _, h4⟩ := h
  cases e
  obtain ⟨b, off, e2, _, h5⟩ := h4 (by omega)
  exact ⟨b, off, e2, h5 i hi⟩

set_option maxRecDepth 100000 in
theorem open_icalls {H : Type} {enc : TypeId × Value → H} {W : World} {a : Option Addr} {n c : Nat} {d : DataW H} {p : List MemPlace}
    (h : DataW.Trod enc Try.prog W 0 (fun _ => true) true 22 (.slice a n c) d p) : ∃ l : List ICl, IClL W (.slice a n c) l := by
  obtain ⟨fuel, hf⟩ := h
  obtain ⟨f0, f1, f2, f3, hu, ⟨o0, o1, o2, o3⟩, t0, t1, t2, t3⟩ := Try.underICall
  rcases Go.Deep.open_slice Try.underlying22 hf with ⟨hcs, hx⟩ | ⟨x, n', cap, m, k, D, Pl, hcs, _, hl, hm, hz, hx, hcell⟩
  · simp [Value.cells] at hcs
    obtain ⟨rfl, rfl, rfl⟩ := hcs
    exact ⟨[], none, 0, rfl, by simp, fun h => by simp at h⟩
  · simp [Value.cells] at hcs
    obtain ⟨rfl, rfl, rfl⟩ := hcs
    rw [if_pos rfl] at hz
    subst hz
    unfold maxLen at hm
    have hel : ∀ i, i < n → ∃ e : ICl, I64 e.kind ∧ I64 e.n ∧ W.cell? (x.add (i * 4)) = some (.int .i64 e.kind) ∧ W.cell? (x.add (i * 4 + 1)) = some (.int .i64 e.n) ∧ (∃ v, W.cell? (x.add (i * 4 + 2)) = some v ∧ Rn W v e.l) ∧ W.cell? (x.add (i * 4 + 3)) = some (.bool e.two) := by
      intro i hi
      obtain ⟨cs, q1, q2⟩ := hcell i (by omega)
      rw [Try.cellsICall] at q1
      obtain ⟨_, hlen, hc⟩ := World.cells?_some q1
      match cs, hlen with
      | [c0, c1, c2, c3], _ =>
        obtain ⟨xs, k', _, _, _, hxl, hfl⟩ := DataW.trod_struct hu q2
        match xs, hxl with
        | [x0, x1, x2, x3], _ =>
          have g0 := hfl 0 f0 rfl
          have g1 := hfl 1 f1 rfl
          have g2 := hfl 2 f2 rfl
          have g3 := hfl 3 f3 rfl
          rw [o0, t0, Try.cellsInt] at g0
          rw [o1, t1, Try.cellsInt] at g1
          rw [o2, t2, Try.cellsRuns] at g2
          rw [o3, t3, Try.cellsBool] at g3
          obtain ⟨s0, e0, _, w0⟩ := DataW.trod_int Try.underlying3 g0
          obtain ⟨s1, e1, _, w1⟩ := DataW.trod_int Try.underlying3 g1
          obtain ⟨s3, e3, _⟩ := DataW.trod_bool Try.underlying4 g3
          simp at e0 e1 e3
          subst e0 e1 e3
          simp at g2
          obtain ⟨l2, h2⟩ := open_runs g2
          have k0 := hc 0 (by omega)
          have k1 := hc 1 (by omega)
          have k2 := hc 2 (by omega)
          have k3 := hc 3 (by omega)
          rw [Go.Deep.add_add] at k0 k1 k2 k3
          have b0 := bounds_i64 w0
          have b1 := bounds_i64 w1
          exact ⟨⟨s0, s1, l2, s3⟩, ⟨by simp only; omega, by simp only; omega⟩, ⟨by simp only; omega, by simp only; omega⟩, k0, k1, ⟨c2, k2, h2⟩, k3⟩
    obtain ⟨F, hF⟩ := Go.Deep.choose_lt (α := ICl) hel
    have hlen : ((List.range n).map F).length = n := by simp
    refine ⟨(List.range n).map F, some x, _, by rw [hlen], by rw [hlen]; omega, fun hz => ?_⟩
    rw [hlen] at hz
    have h0 := (hF 0 (by omega)).2.2.1
    have hsp := World.cell?_spot h0
    obtain ⟨b, off, sp⟩ := x
    have hsp' : sp = none := by
      cases sp with
      | none => rfl
      | some k => simp [Addr.add] at hsp
    subst hsp'
    refine ⟨b, off, rfl, ?_, fun i hi => ?_⟩
    · rw [addr_add] at h0
      exact World.block_lt_of_cell? W ⟨b, off + 0 * 4, none⟩ h0
    · have hi' : i < n := by rw [hlen] at hi; exact hi
      obtain ⟨j0, j1, q0, q1, ⟨v, q2, q3⟩, q4⟩ := hF i hi'
      rw [addr_add] at q0 q1 q2 q4
      have e : ((List.range n).map F)[i] = F i := by simp
      rw [e]
      simp only [← Nat.add_assoc] at q1 q2 q4
      exact { c0 := q0, c1 := q1, c2 := ⟨v, q2, q3⟩, c3 := q4, i0 := j0, i1 := j1 }
end Go.Proofs.Ythjcdibblhcgpaa

/-
  DERIVED. The law's 'grown': a node that was extended by some sizes, and its blocks in a slice of ints.
-/
namespace Go.Proofs.Ythjcdibblhcgpaa
open Go.RowKit
set_option linter.unusedVariables false

theorem Try.infoInt : (Try.prog.info? 3).map (fun i => (i.zero, i.size, i.bytes)) = some (some (.int .i64 0), 1, 8) := by kernel_rfl
abbrev nv (n : Nat) : Value := .int .i64 (n : Int)
/-- A slice of numbers of one's own. -/
def NOwn (w : World) (base : Nat) (v : Value) (L : List Nat) : Prop := w.ownsRow base 3 1 v L.length (L.map nv)
theorem NOwn.nil (w : World) (base : Nat) : NOwn w base (.slice none 0 0) [] := World.ownsRow_nil w _ _ _
theorem NOwn.kept {W W' : World} {base : Nat} {v : Value} {xs : List Nat} {row : Option Nat} (h : NOwn W base v xs) (hg : W.grownBy W' row) (hne : ∀ q, v.ownBlock = some q → some q ≠ row) : NOwn W' base v xs := by
  obtain ⟨h1, h2⟩ := h
  refine ⟨h1, ?_⟩
  rcases h2 with h2 | ⟨g, cap, cur, rfl, hb, hgb, r⟩
  · exact .inl h2
  · exact .inr ⟨g, cap, cur, rfl, hb, (hg.block g (lt_of_block hgb) (hne g rfl)).trans hgb, r⟩
theorem NOwn.grown {W W' : World} {base : Nat} {v : Value} {xs : List Nat} (h : NOwn W base v xs) (hg : W.grownBy W' none) : NOwn W' base v xs := h.kept hg (fun q _ e => by cases e)
theorem NOwn.row {W : World} {base : Nat} {v : Value} {xs : List Nat} (h : NOwn W base v xs) {q : Nat} (hq : v.ownBlock = some q) : base ≤ q ∧ ∃ cur, W.heap[q]? = some (.cells cur 3 (0, 0)) := by
  rcases h.2 with ⟨rfl, _⟩ | ⟨g, cap, cur, rfl, hb, hg, r⟩
  · cases hq
  · cases hq; exact ⟨hb, cur, hg⟩
theorem NOwn.ne {W : World} {base : Nat} {v : Value} {xs : List Nat} (h : NOwn W base v xs) {q j : Nat} {C : Array Value} {t : TypeId} {fr : Nat × Nat} (hq : v.ownBlock = some q) (hj : W.heap[j]? = some (.cells C t fr)) (ht : t ≠ 3) : q ≠ j := by
  rintro rfl
  obtain ⟨_, cur, hc⟩ := h.row hq
  rw [hc] at hj
  cases hj
  exact ht rfl
theorem NOwn.form {w : World} {base : Nat} {v : Value} {xs : List Nat} (h : NOwn w base v xs) : ∃ ao cap, v = .slice ao xs.length cap ∧ xs.length ≤ cap ∧ cap ≤ 9223372036854775807 ∧ (xs.length ≠ 0 → ∃ g, ao = some ⟨g, 0, none⟩ ∧ g < w.heap.size ∧ ∀ i, (h : i < xs.length) → w.cell? ⟨g, i, none⟩ = some (.int .i64 (xs[i] : Int))) := by
  rcases h.2 with ⟨rfl, h0⟩ | ⟨g, cap, cur, rfl, hb, hg, hn, hm, hs, ht⟩
  · exact ⟨none, 0, by rw [h0], by omega, by omega, fun h => absurd h0 h⟩
  · refine ⟨some ⟨g, 0, none⟩, cap, rfl, hn, by unfold maxLen at hm; omega, fun _ => ⟨g, rfl, lt_of_block hg, fun i hi => ?_⟩⟩
    have e : (cur.toList.take (xs.length * 1))[i]? = (xs.map nv)[i]? := by rw [ht]
    rw [List.getElem?_take_of_lt (by omega)] at e
    rw [cell_of_row _ _ _ _ _ _ hg]
    simpa [hi] using e
theorem NOwn.far {W W' : World} {base b n : Nat} {u v : Value} {L xs : List Nat} (h : NOwn W base v xs) (hm : NdAt W b n u L) (hg : W.grownBy W' (some b)) : NOwn W' base v xs :=
  h.kept hg (fun q hq e => h.ne hq hm.blk (by decide) (by simpa using e))
/-- A node, where a slice of numbers is appended to. -/
theorem NdAt.ints {W W' : World} {base b n : Nat} {u v : Value} {L xs : List Nat} (hm : NdAt W b n u L) (h : NOwn W base v xs) (hg : W.grownBy W' v.ownBlock) : NdAt W' b n u L := by
  refine ⟨(hg.block b hm.lt (fun e => h.ne e.symm hm.blk (by decide) rfl)).trans hm.blk, hm.runs.kept hg (fun q hq e => ?_), hm.le, hm.len, hm.lw⟩
  obtain ⟨_, cur, hc⟩ := hm.runs.row hq
  exact h.ne e.symm hc (by decide) rfl
theorem ROwn.ints {W W' : World} {base b2 : Nat} {u v : Value} {X : List (Nat × Nat)} {xs : List Nat} (hm : ROwn W b2 u X) (h : NOwn W base v xs) (hg : W.grownBy W' v.ownBlock) : ROwn W' b2 u X :=
  hm.kept hg (fun q hq e => by
    obtain ⟨_, cur, hc⟩ := hm.row hq
    exact h.ne e.symm hc (by decide) rfl)
theorem ROwn.one (w : World) (x1 x2 : Nat) : ROwn (w.alloc (.cells #[.int .i64 (x1 : Int), .int .i64 (x2 : Int)] 36)) w.heap.size (.slice (some ⟨w.heap.size, 0, none⟩) 1 1) [(x1, x2)] :=
  ⟨rfl, .inr ⟨w.heap.size, 1, _, rfl, Nat.le_refl _, heap_alloc_new _ _, by simp, by unfold maxLen; omega, by simp, by simp [rcells]⟩⟩

theorem wpList_append_int {ops : Array Oper} {rest : List Oper} {o : Oper} {a : Act} {w : World} {Q : Exit → Act → World → Prop} (hgd : o.guard = none) (s x : Operand)
    (hop : o.op = Op.call { callee := Callee.builtin Builtin.append, args := #[s, x], argTypes := #[50, 50] }) (base : Nat) (v : Value) (xs : List Nat) (hs : a.eval s = v) (hown : NOwn w base v xs) (hb : base ≤ w.heap.size) (hl : xs.length ≤ 65536) (ad : Addr) (c : Nat) (y : Nat)
    (hx : a.eval x = .slice (some ad) 1 c) (hc : w.cell? ad = some (.int .i64 (y : Int)))
    (hK : ∀ v' w', NOwn w' base v' (xs ++ [y]) → w.grownBy w' v.ownBlock → wpList Try.prog ops Q rest (a.put o.dst v') w') :
    wpList Try.prog ops Q (o :: rest) a w := by
  obtain ⟨i0, hi, hz0, hz1, hz2⟩ := info_parts Try.infoInt
  refine wpList_append_own w hgd s x 50 hop base 3 i0 (.int .i64 0) 1 8 Try.underlying50 hi hz0 hz1 hz2 rfl (by decide) v xs.length (xs.map nv) hs hown ad 1 c [nv y] hx rfl ?_ ?_ (by unfold maxLen; omega) (by omega) hb ?_
  · intro j u hj
    match j with
    | 0 =>
      simp at hj
      subst hj
      simpa [Addr.add] using hc
    | j + 1 => simp at hj
  · intro u hu
    simp at hu
    subst hu
    rfl
  intro v' w' ho' hgr _
  refine hK v' w' ?_ hgr
  unfold NOwn
  rw [List.map_append, List.length_append]
  exact ho'

theorem Ints.kept {w w' : World} {v : Value} {l : List Int} (h : Ints w v l) (hg : w.grownBy w' none) : Ints w' v l := by
  obtain ⟨ao, cap, rfl, h1, h2, h3⟩ := h
  refine ⟨ao, cap, rfl, h1, h2, fun hne => ?_⟩
  obtain ⟨pb, off, e, hp, hc⟩ := h3 hne
  exact ⟨pb, off, e, by have := hg.size; omega, fun i hi => hg.cell (hc i hi) (by simp)⟩
theorem Ints.at {w : World} {ao : Option Addr} {n cap : Nat} {l : List Int} (h : Ints w (.slice ao n cap) l) {i : Nat} (hi : i < l.length) : ∃ b off, ao = some ⟨b, off, none⟩ ∧ w.cell? ⟨b, off + i, none⟩ = some (.int .i64 l[i]) ∧ I64 l[i] := by
  obtain ⟨ao', cap', e, _, h3, h4⟩ := h
  cases e
  obtain ⟨b, off, e2, _, h5⟩ := h4 (by rintro rfl; simp at hi)
  exact ⟨b, off, e2, h5 i hi, h3 _ (List.getElem_mem hi)⟩
theorem range_snoc (a m : Nat) : List.range' a (m + 1) = List.range' a m ++ [a + m] := by
  rw [List.range'_concat, Nat.one_mul]

/-- Where 'grown' stands. -/
structure GSt (w : World) (b i nx n : Nat) (vn vl : Value) (L : List Nat) (W : World) : Prop where
  node : NdAt W b n vn L
  list : NOwn W w.heap.size vl L
  grown : w.grownBy W none
  le : n ≤ 1199 * i
  nxle : nx ≤ L.length + 3 * i

def GPost (w : World) (e : Ending) (w' : World) : Prop := ∃ (b n : Nat) (vn vl : Value) (L : List Nat), e = .returned (.tuple #[.pointer (some ⟨b, 0, none⟩), vl, .bool true]) ∧ w.heap.size ≤ b ∧ NdAt w' b n vn L ∧ NOwn w' w.heap.size vl L ∧ n ≤ 23980 ∧ w.grownBy w' none
end Go.Proofs.Ythjcdibblhcgpaa

/-
  DERIVED. The walks of Uint and Int.
-/
namespace Go.Proofs.Ythjcdibblhcgpaa
open Go.RowKit

theorem ret3 {k1 k2 k3 : IntKind} {a a' b b' c c' : Int} (h1 : a = a') (h2 : b = b') (h3 : c = c') : Ending.returned (.tuple #[.int k1 a, .int k2 b, .int k3 c]) = .returned (.tuple #[.int k1 a', .int k2 b', .int k3 c']) := by rw [h1, h2, h3]

theorem and127 (c : UInt8) : bits BinOp.and IntKind.u8 (c.toNat : Int) 127 = ((c.toNat % 128 : Nat) : Int) :=
  beq_iff_eq.1 (byte_all (fun k => bits BinOp.and IntKind.u8 (k : Int) 127 == ((k % 128 : Nat) : Int)) (by decide +kernel) c.toNat c.toNat_lt)

theorem pow_bd (k m : Nat) (hk : k ≤ 8) (hm : m < 128) : m * 2 ^ (7 * k) < 9223372036854775808 := by
  have h : 2 ^ (7 * k) ≤ 2 ^ 56 := Nat.pow_le_pow_right (by decide) (by omega)
  have h2 : m * 2 ^ (7 * k) ≤ 127 * 2 ^ 56 := Nat.mul_le_mul (by omega) h
  omega
theorem pow_bd9 (k m : Nat) (hk : k ≤ 9) (hm : m ≤ 1) : m * 2 ^ (7 * k) ≤ 9223372036854775808 := by
  have h : 2 ^ (7 * k) ≤ 2 ^ 63 := Nat.pow_le_pow_right (by decide) (by omega)
  have h2 : m * 2 ^ (7 * k) ≤ 1 * 2 ^ 63 := Nat.mul_le_mul (by omega) h
  omega
theorem pow9 (k : Nat) (hk : k ≤ 9) : 2 ^ (7 * k) ≤ 9223372036854775808 := Nat.pow_le_pow_right (by decide) (by omega : 7 * k ≤ 63)

theorem orv (k x : Nat) (c : UInt8) (hk : k ≤ 9) (hx : x < 2 ^ (7 * k)) (h : k ≤ 8 ∨ c.toNat ≤ 1) :
    bits BinOp.or IntKind.u64 (x : Int) (IntKind.u64.wrap (IntKind.u64.wrap (bits BinOp.and IntKind.u8 (c.toNat : Int) 127) * 2 ^ (7 * k))) = ((x + c.toNat % 128 * 2 ^ (7 * k) : Nat) : Int) := by
  have hp := pow9 k hk
  have hm : c.toNat % 128 < 128 := Nat.mod_lt _ (by decide)
  have hb : c.toNat % 128 * 2 ^ (7 * k) ≤ 9223372036854775808 := by
    rcases h with h | h
    · have := pow_bd k _ h hm; omega
    · exact pow_bd9 k _ hk (by omega)
  rw [and127]
  have e1 : IntKind.u64.wrap ((c.toNat % 128 : Nat) : Int) = ((c.toNat % 128 : Nat) : Int) := by rw [IntKind.wrap_u64]; omega
  have e2 : ((c.toNat % 128 : Nat) : Int) * 2 ^ (7 * k) = ((c.toNat % 128 * 2 ^ (7 * k) : Nat) : Int) := by rw [Int.natCast_mul, Int.natCast_pow]; rfl
  rw [e1, e2]
  have e3 : IntKind.u64.wrap ((c.toNat % 128 * 2 ^ (7 * k) : Nat) : Int) = ((c.toNat % 128 * 2 ^ (7 * k) : Nat) : Int) := by rw [IntKind.wrap_u64]; omega
  rw [e3, bits_or_u64_nat _ _ (by omega) (by omega)]
  have := Nat.two_pow_add_eq_or_of_lt hx (c.toNat % 128)
  rw [Nat.or_comm, Nat.mul_comm (c.toNat % 128), ← this, Nat.add_comm]

theorem orv_any (x y : Int) : ∃ n : Nat, n ≤ 18446744073709551615 ∧ bits BinOp.or IntKind.u64 x y = (n : Int) := by
  have h1 := bits_lo_u64 .or x y
  have h2 := bits_hi_u64 .or x y
  exact ⟨(bits BinOp.or IntKind.u64 x y).toNat, by omega, by omega⟩

theorem drop_at {l : List UInt8} {k : Nat} (h : k < l.length) : l.drop k = l[k] :: l.drop (k + 1) := List.drop_eq_getElem_cons h

theorem acc_next (k x m : Nat) (hx : x < 2 ^ (7 * k)) (hm : m < 128) : x + m * 2 ^ (7 * k) < 2 ^ (7 * (k + 1)) := by
  have e : 2 ^ (7 * (k + 1)) = 128 * 2 ^ (7 * k) := by rw [Nat.mul_add, Nat.pow_add]; omega
  have h2 : m * 2 ^ (7 * k) ≤ 127 * 2 ^ (7 * k) := Nat.mul_le_mul_right _ (by omega)
  omega

theorem rd_next {l : List UInt8} {k x : Nat} {c : UInt8} (hk : k < 10) (hl : k < l.length) (hc : c = l[k]) (h : rd l = rdGo k x (l.drop k)) (h1 : 128 ≤ c.toNat) : rd l = rdGo (k + 1) (x + c.toNat % 128 * 2 ^ (7 * k)) (l.drop (k + 1)) := by
  rw [h, drop_at hl, ← hc, rdGo, if_neg (by omega), if_pos h1]
theorem rd_bad {l : List UInt8} {k x : Nat} {c : UInt8} (hk : k < 10) (hl : k < l.length) (hc : c = l[k]) (h : rd l = rdGo k x (l.drop k)) (h1 : c.toNat < 128) (h2 : (0 < k ∧ c.toNat = 0) ∨ (k = 9 ∧ 1 < c.toNat)) : rd l = (0, 0, 11) := by
  rw [h, drop_at hl, ← hc, rdGo, if_neg (by omega), if_neg (by omega), if_pos h2]
theorem rd_good {l : List UInt8} {k x : Nat} {c : UInt8} (hk : k < 10) (hl : k < l.length) (hc : c = l[k]) (h : rd l = rdGo k x (l.drop k)) (h1 : c.toNat < 128) (h2 : ¬ ((0 < k ∧ c.toNat = 0) ∨ (k = 9 ∧ 1 < c.toNat))) : rd l = (x + c.toNat % 128 * 2 ^ (7 * k), k + 1, 0) := by
  rw [h, drop_at hl, ← hc, rdGo, if_neg (by omega), if_neg (by omega), if_neg h2, Nat.mod_eq_of_lt h1]
theorem rd_end {l : List UInt8} {k x : Nat} (h : rd l = rdGo k x (l.drop k)) (hk : ¬ (k < 10 ∧ k < l.length)) (hk1 : k ≤ 10) (hk2 : k ≤ l.length) : rd l = (0, 0, if l.length < 10 then 10 else 11) := by
  rw [h]
  by_cases h1 : k < l.length
  · have : k = 10 := by omega
    subst this
    rw [drop_at h1, rdGo, if_pos (by omega), if_neg (by omega)]
  · rw [List.drop_eq_nil_of_le (by omega), rdGo]
    by_cases h2 : k < 10
    · rw [if_pos h2, if_pos (by omega)]
    · rw [if_neg h2, if_neg (by omega)]

set_option maxHeartbeats 2000000 in
set_option maxRecDepth 100000 in
theorem Uint_some (b off cap : Nat) (l : List UInt8) (w : World) (_h1 : l.length ≤ cap) (_h2 : cap ≤ 9223372036854775807)
    (hc : ∀ i, (h : i < l.length) → w.cell? ⟨b, off + i, none⟩ = some (bv l[i])) :
    Calls Try.prog 50 #[.slice (some ⟨b, off, none⟩) l.length cap] w fun e w' => e = .returned (.tuple #[.int .u64 (rd l).1, .int .i64 (rd l).2.1, .int .i64 (rd l).2.2]) ∧ w = w' := by
  go_enter Try.func50, Try.ntmps50
  go_wp2
  all_goals
    go_loop [5, 11] (fun n i => ∃ k x acc : Nat, k ≤ 10 ∧ k ≤ l.length ∧ i = .int .i64 k ∧ n = .int .u64 x ∧ x ≤ 18446744073709551615 ∧ (k ≤ 9 → x = acc) ∧ Hid (acc < 2 ^ (7 * k)) ∧ Hid (rd l = rdGo k acc (l.drop k))) (fun _ i => 10 - (intOf i).toNat)
    case atStart => exact ⟨0, 0, 0, by omega, by omega, rfl, rfl, by omega, fun _ => rfl, hide (by decide), hide rfl⟩
    case round =>
      obtain ⟨k, x, acc, hk1, hk2, rfl, rfl, hx, hxa, hacc, HR⟩ := hrel
      by_cases hk : k < 10 ∧ k < l.length
      · obtain ⟨hk3, hk4⟩ := hk
        obtain rfl := hxa (by omega)
        have hcx := hc k hk4
        obtain ⟨c, hcc⟩ : ∃ c, c = l[k] := ⟨_, rfl⟩
        rw [← hcc] at hcx
        have Hcc := hide hcc
        clear hcc hc hxa
        by_cases hA : 128 ≤ c.toNat
        · go_wp2
          go_round
          case rel =>
            by_cases h8 : k ≤ 8
            · exact ⟨k + 1, x + c.toNat % 128 * 2 ^ (7 * k), _, by omega, by omega, by go_num, by rw [orv k x c (by omega) (unhide hacc) (.inl h8)], by have := pow_bd k _ h8 (Nat.mod_lt c.toNat (by decide : 128 > 0)); have := pow9 k (by omega); have := unhide hacc; omega, fun _ => rfl, hide (acc_next k x _ (unhide hacc) (Nat.mod_lt _ (by decide))), hide (rd_next hk3 hk4 (unhide Hcc) (unhide HR) hA)⟩
            · obtain ⟨n, hn, en⟩ := orv_any (x : Int) (IntKind.u64.wrap (IntKind.u64.wrap (bits BinOp.and IntKind.u8 (c.toNat : Int) 127) * 2 ^ (7 * k)))
              exact ⟨k + 1, n, _, by omega, by omega, by go_num, by rw [en], hn, fun h => by omega, hide (acc_next k x _ (unhide hacc) (Nat.mod_lt _ (by decide))), hide (rd_next hk3 hk4 (unhide Hcc) (unhide HR) hA)⟩
          case measure => simp [intOf]; omega
        · by_cases hB : (0 < k ∧ c.toNat = 0) ∨ (k = 9 ∧ 1 < c.toNat)
          · have hrd := rd_bad hk3 hk4 (unhide Hcc) (unhide HR) (by omega) hB
            have HF : Hid (rd l = (0, 0, 11)) := hide hrd
            clear hrd
            go_wp2
            all_goals first | (exfalso; omega) | skip
            all_goals
              go_ret3
              rw [unhide HF]
              exact ⟨rfl, rfl⟩
          · have HF : Hid (rd l = (x + c.toNat % 128 * 2 ^ (7 * k), k + 1, 0)) := hide (rd_good hk3 hk4 (unhide Hcc) (unhide HR) (by omega) hB)
            have HO : Hid (bits BinOp.or IntKind.u64 (x : Int) (IntKind.u64.wrap (IntKind.u64.wrap (bits BinOp.and IntKind.u8 (c.toNat : Int) 127) * 2 ^ (7 * k))) = ((x + c.toNat % 128 * 2 ^ (7 * k) : Nat) : Int)) := hide (orv k x c (by omega) (unhide hacc) (by omega))
            rcases (show k < 1 ∨ (1 ≤ k ∧ 1 ≤ c.toNat ∧ k ≤ 8) ∨ (1 ≤ k ∧ 1 ≤ c.toNat ∧ 9 ≤ k ∧ c.toNat ≤ 1) from by omega) with hG | ⟨hG1, hG2, hG3⟩ | ⟨hG1, hG2, hG3, hG4⟩
            rotate_left
            all_goals try have hb0 : ((c.toNat : Int) == 0) = false := beq_eq_false_iff_ne.2 (by omega)
            all_goals
              clear hB hx
              go_wp2
              go_ret3
              rw [unhide HF]
              exact ⟨ret3 (unhide HO) (by show _ = ((k + 1 : Nat) : Int); omega) rfl, rfl⟩
      · have HF := hide (rd_end (unhide HR) hk hk1 hk2)
        by_cases hA : k < l.length
        all_goals go_wp2
        all_goals
          go_ret3
          rw [unhide HF]
          exact ⟨ret3 rfl rfl (by show _ = ((if l.length < 10 then 10 else 11 : Nat) : Int); split <;> omega), rfl⟩

theorem Uint_any (v : Value) (l : List UInt8) (w : World) (hv : Sl w v l) :
    Calls Try.prog 50 #[v] w fun e w' => e = .returned (.tuple #[.int .u64 (rd l).1, .int .i64 (rd l).2.1, .int .i64 (rd l).2.2]) ∧ w = w' := by
  rcases hv.cases with ⟨rfl, ao, rfl⟩ | ⟨b, off, cap, rfl, h1, h2, h3, hc⟩
  rotate_left
  · exact Uint_some b off cap l w h1 h2 hc
  · go_enter Try.func50, Try.ntmps50
    go_wp2
    refine wp_loop_rounds 1 ?_
    rw [rounds_succ]
    go_wp2
    go_ret3
    exact ⟨rfl, rfl⟩
end Go.Proofs.Ythjcdibblhcgpaa

/-
  DERIVED. numbers: so many numbers off bytes.
-/
namespace Go.Proofs.Ythjcdibblhcgpaa
open Go.RowKit
set_option linter.unusedVariables false

theorem gr_da (w : World) (o : Obj) : w.grownBy (w.drew.alloc o) none := ⟨rfl, rfl, rfl, by simp, fun k hk _ => Below.heap_alloc w.drew o k hk⟩
theorem gr_ad (w : World) (o : Obj) : w.grownBy ((w.alloc o).drew) none := ⟨rfl, rfl, rfl, by simp, fun k hk _ => Below.heap_alloc w o k hk⟩
theorem gr_d (w : World) : w.grownBy w.drew none := ⟨rfl, rfl, rfl, Nat.le_refl _, fun _ _ _ => rfl⟩
theorem Sl.kept {w w' : World} {v : Value} {l : List UInt8} (h : Sl w v l) (hg : w.grownBy w' none) : Sl w' v l := h.below (below_of_grown hg) (Nat.le_refl _)

/-- An append of a number, as one step of a region that draws. -/
theorem step_append_int {ops : Array Oper} {o : Oper} {a : Act} {w : World} {K : Act → World → Prop} {Q : Exit → Act → World → Prop} {E : Prop}
    (hg : o.guard = none) (s x : Operand) (ho : o.op = .call { callee := .builtin .append, args := #[s, x], argTypes := #[50, 50] })
    (base : Nat) (v : Value) (xs : List Nat) (hs : a.eval s = v) (hown : NOwn w base v xs) (hl : xs.length ≤ 131072) (hbase : base ≤ w.heap.size)
    (ad : Addr) (c y : Nat) (hx : a.eval x = .slice (some ad) 1 c) (hy : w.cell? ad = some (.int .i64 (y : Int)))
    (hK : ∀ v' w', NOwn w' base v' (xs ++ [y]) → w.grownBy w' v.ownBlock → K (a.put o.dst v') w') :
    if Region.wanted o (yielded ops a.tmps) = true then Oper.wp Try.prog o a w K Q else E := by
  have hw : Region.wanted o (yielded ops a.tmps) = true := by simp [Region.wanted, hg]
  rw [if_pos hw]
  obtain ⟨i0, hi, hz0, hz1, hz2⟩ := info_parts Try.infoInt
  obtain ⟨v', w', hrun, r1, r2, _⟩ := run_append_own (P := Try.prog) w base 50 o.type 3 i0 (.int .i64 0) 1 8 Try.underlying50 hi hz0 hz1 hz2 rfl (by decide) v xs.length (xs.map nv) hown ad 1 c [nv y] rfl (fun j u hj => by
    match j with
    | 0 =>
      simp at hj
      subst hj
      simpa [Addr.add] using hy
    | j + 1 => simp at hj) (fun u hu => by
    simp at hu
    subst hu
    rfl) (by unfold maxLen; omega) (by omega) hbase
  unfold Oper.wp
  simp [execOp, ho, resolve, invoke, builtin, hs, hx, hrun, Result.andThen]
  refine hK v' w' ?_ r2
  unfold NOwn
  rw [List.map_append, List.length_append]
  exact r1
/-- An append of a run, as one step of a region that draws. -/
theorem step_append_run {ops : Array Oper} {o : Oper} {a : Act} {w : World} {K : Act → World → Prop} {Q : Exit → Act → World → Prop} {E : Prop}
    (hg : o.guard = none) (s x : Operand) (ho : o.op = .call { callee := .builtin .append, args := #[s, x], argTypes := #[28, 28] })
    (base : Nat) (v : Value) (xs : List (Nat × Nat)) (hs : a.eval s = v) (hown : ROwn w base v xs) (hl : xs.length ≤ 65536) (hbase : base ≤ w.heap.size)
    (ad : Addr) (c : Nat) (y : Nat × Nat) (hx : a.eval x = .slice (some ad) 1 c) (hc : ∀ j u, ([.int .i64 (y.1 : Int), .int .i64 (y.2 : Int)] : List Value)[j]? = some u → w.cell? (ad.add j) = some u)
    (hK : ∀ v' w', ROwn w' base v' (xs ++ [y]) → w.grownBy w' v.ownBlock → K (a.put o.dst v') w') :
    if Region.wanted o (yielded ops a.tmps) = true then Oper.wp Try.prog o a w K Q else E := by
  have hw : Region.wanted o (yielded ops a.tmps) = true := by simp [Region.wanted, hg]
  rw [if_pos hw]
  obtain ⟨v', w', hrun, r1, r2⟩ := run_append_run w base o.type v xs hown hbase hl ad c y hc
  unfold Oper.wp
  simp [execOp, ho, resolve, invoke, builtin, hs, hx, hrun, Result.andThen]
  exact hK v' w' r1 r2

/-- So many numbers off bytes, each at most 32768, and what is behind them. -/
def nums : Nat → List UInt8 → Option (List Nat × List UInt8)
  | 0, l => some ([], l)
  | k + 1, l => if (rd l).2.2 = 0 ∧ (rd l).1 ≤ 32768 then (nums k (l.drop (rd l).2.1)).map (fun p => ((rd l).1 :: p.1, p.2)) else none
theorem nums_len : ∀ (k : Nat) (l : List UInt8) (xs : List Nat) (r : List UInt8), nums k l = some (xs, r) → xs.length = k ∧ ∀ x ∈ xs, x ≤ 32768
  | 0, l, xs, r, h => by
    simp [nums] at h
    obtain ⟨rfl, _⟩ := h
    exact ⟨rfl, fun x hx => by cases hx⟩
  | k + 1, l, xs, r, h => by
    unfold nums at h
    by_cases hc : (rd l).2.2 = 0 ∧ (rd l).1 ≤ 32768
    · rw [if_pos hc] at h
      obtain ⟨p, hp, e⟩ := Option.map_eq_some_iff.1 h
      obtain ⟨ys, r2⟩ := p
      simp only [Prod.mk.injEq] at e
      obtain ⟨rfl, rfl⟩ := e
      obtain ⟨h1, h2⟩ := nums_len k _ ys r2 hp
      refine ⟨by simp [h1], fun x hx => ?_⟩
      rcases List.mem_cons.1 hx with rfl | hx
      · exact hc.2
      · exact h2 x hx
    · rw [if_neg hc] at h
      cases h
def NumPost (w : World) (c : Nat) (l : List UInt8) (e : Ending) (w' : World) : Prop :=
  w.grownBy w' none ∧ ((nums c l = none ∧ e = .returned (.tuple #[.slice none 0 0, .slice none 0 0, .bool false])) ∨ ∃ xs r vx vr, nums c l = some (xs, r) ∧ e = .returned (.tuple #[vx, vr, .bool true]) ∧ NOwn w' w.heap.size vx xs ∧ Sl w' vr r)

set_option maxRecDepth 20000 in
set_option maxHeartbeats 4000000 in
theorem numbers_any (w : World) (v : Value) (l : List UInt8) (c : Nat) (hv : Sl w v l) (hc : c ≤ 65536) :
    Calls Try.prog 41 #[v, .int .i64 (c : Int)] w (NumPost w c l) := by
  have HV := hide hv
  have hcI : (c : Int) ≤ 65536 := by omega
  clear hv
  go_enter Try.func41, Try.ntmps41
  go_wp2
  go_loopw [0, 7, 12] (fun b a i wr => ∃ (k : Nat) (xs : List Nat) (r : List UInt8), i = .int .i64 (k : Int) ∧ k ≤ c ∧ xs.length = k ∧ NOwn wr w.heap.size a xs ∧ Sl w b r ∧ Hid (nums c l = (nums (c - k) r).map (fun p => (xs ++ p.1, p.2))) ∧ w.grownBy wr none) (fun _ _ i _ => c - (intOf i).toNat)
  case atStart => exact ⟨0, [], l, rfl, by omega, rfl, NOwn.nil _ _, unhide HV, hide (by simp), World.grownBy.refl _ _⟩
  case round =>
    obtain ⟨k, xs, r, rfl, hk, hxl, hN, hS, HE, hg⟩ := hrel
    have HN := hide hN
    have HS := hide hS
    have HG := hide hg
    have HXl := hide hxl
    clear hN hg hxl
    by_cases hlt : k < c
    · have hlt' : (k : Int) < (c : Int) := by omega
      have hck : c - k = (c - (k + 1)) + 1 := by omega
      have hrf := rd_facts r
      have HSt : Hid (nums (c - k) r = if (rd r).2.2 = 0 ∧ (rd r).1 ≤ 32768 then (nums (c - (k + 1)) (r.drop (rd r).2.1)).map (fun p => ((rd r).1 :: p.1, p.2)) else none) := hide (by rw [hck]; rfl)
      go_wp2_with fail
      refine (Uint_any _ r wr ((unhide HS).kept (unhide HG))).mono ?_
      rintro e wr' ⟨rfl, rfl⟩
      obtain ⟨⟨N, K, E⟩, hrd⟩ : ∃ t, t = rd r := ⟨_, rfl⟩
      rw [← hrd] at hrf HSt ⊢
      simp only at hrf HSt ⊢
      clear hrd hck
      by_cases hok : E = 0 ∧ N ≤ 32768
      · obtain ⟨hE, hN32⟩ := hok
        subst hE
        have HE2 : Hid (nums c l = (nums (c - (k + 1)) (r.drop K)).map (fun p => ((xs ++ [N]) ++ p.1, p.2))) := hide (by
          rw [unhide HE, unhide HSt, if_pos ⟨rfl, hN32⟩]
          cases nums (c - (k + 1)) (r.drop K) with
          | none => rfl
          | some p => simp)
        have hKl : K ≤ r.length := by omega
        have hNI : (N : Int) ≤ 32768 := by omega
        have HSd : Hid (∀ (ao : Option Addr) (n cap : Nat), u0 = .slice ao n cap → ∀ (A : Option Addr) (m c2 : Nat), m = n - K → c2 = cap - K → (A = ao.map (fun x => x.add K) ∨ c2 = 0) → Sl w (.slice A m c2) (r.drop K)) := hide (by
          rintro ao n cap rfl A m c2 rfl rfl hA
          obtain ⟨ao', cap', e, h1, h2, h4⟩ := unhide HS
          injection e with e1 e2 e3
          subst e1 e2 e3
          refine ⟨A, cap - K, by rw [List.length_drop], by rw [List.length_drop]; omega, by omega, fun hne => ?_⟩
          obtain ⟨b, off, rfl, hb, hcc⟩ := h4 (by omega)
          rcases hA with rfl | h0
          · refine ⟨b, off + K, by simp [addr_add], hb, fun i hi => ?_⟩
            rw [List.length_drop] at hi
            rw [List.getElem_drop]
            rw [Nat.add_assoc]
            exact hcc (K + i) (by omega)
          · omega)
        obtain ⟨ao, cap, hu0, hr1, hr2, _⟩ := unhide HS
        unfold maxLen at hr2
        have HSd2 := hide (unhide HSd ao r.length cap hu0)
        subst hu0
        clear HSd HE HSt HS hrf
        obtain ⟨n, hn⟩ : ∃ n, n = r.length := ⟨_, rfl⟩
        rw [← hn] at hKl hr1 HSd2 ⊢
        clear hn
        have hKI : (K : Int) ≤ (n : Int) := by omega
        have hnI : (n : Int) ≤ (cap : Int) := by omega
        have hcapI : (cap : Int) ≤ 9223372036854775807 := by omega
        have hxl2 : xs.length ≤ 131072 := by have := unhide HXl; omega
        have HSz := hide (unhide HG).size
        go_wp2_with fail
        have HWr : Hid (IntKind.i64.wrap (N : Int) = (N : Int)) := hide (by rw [IntKind.wrap_i64]; omega)
        by_cases hkc : cap = K
        · subst hkc
          go_region_law (first | (refine step_append_int rfl (.tmp 26) (.tmp 29) rfl w.heap.size u7 xs rfl ?own hxl2 ?hb ⟨_, 0, none⟩ 1 N rfl ?hy ?_; (case own => (first | exact (unhide HN).grown (gr_da _ _) | exact (unhide HN).grown (gr_ad _ _))); (case hb => (have h7 := unhide HSz; simp; omega)); (case hy => exact (cell_of_row _ _ _ _ _ _ (heap_alloc_new _ _)).trans (by simp [unhide HWr])); intro v3 w3 o3 g3; have N3 := hide o3; have G3 : Hid (w.grownBy w3 none) := hide (by first | exact ((unhide HG).trans (gr_ad _ _)).andThen g3 (fun q e => .inl ((unhide HN).row e).1) | exact ((unhide HG).trans (gr_da _ _)).andThen g3 (fun q e => .inl ((unhide HN).row e).1)); clear o3 g3))
          all_goals
            go_wp2
            go_roundw
            case rel => exact ⟨k + 1, xs ++ [N], _, rfl, by omega, by rw [List.length_append, unhide HXl]; rfl, unhide N3, unhide HSd2 _ _ _ (by omega) (by omega) (.inr rfl), HE2, unhide G3⟩
            case measure => simp [intOf]; omega
        · go_region_law (first | (refine step_append_int rfl (.tmp 26) (.tmp 29) rfl w.heap.size u7 xs rfl ?own hxl2 ?hb ⟨_, 0, none⟩ 1 N rfl ?hy ?_; (case own => (first | exact (unhide HN).grown (gr_da _ _) | exact (unhide HN).grown (gr_ad _ _))); (case hb => (have h7 := unhide HSz; simp; omega)); (case hy => exact (cell_of_row _ _ _ _ _ _ (heap_alloc_new _ _)).trans (by simp [unhide HWr])); intro v3 w3 o3 g3; have N3 := hide o3; have G3 : Hid (w.grownBy w3 none) := hide (by first | exact ((unhide HG).trans (gr_ad _ _)).andThen g3 (fun q e => .inl ((unhide HN).row e).1) | exact ((unhide HG).trans (gr_da _ _)).andThen g3 (fun q e => .inl ((unhide HN).row e).1)); clear o3 g3))
          all_goals
            go_wp2
            go_roundw
            case rel => exact ⟨k + 1, xs ++ [N], _, rfl, by omega, by rw [List.length_append, unhide HXl]; rfl, unhide N3, unhide HSd2 _ _ _ rfl rfl (.inl rfl), HE2, unhide G3⟩
            case measure => simp [intOf]; omega
      · have HNo : Hid (nums c l = none) := hide (by rw [unhide HE, unhide HSt, if_neg hok]; rfl)
        have hrf1 := hrf.1
        by_cases hE : E = 0
        · have hN32 : (32768 : Int) < (N : Int) := by omega
          subst hE
          clear hok hrf
          go_wp2
          go_ret3
          exact ⟨unhide HG, .inl ⟨unhide HNo, rfl⟩⟩
        · have hE' : ¬ (E : Int) = 0 := by omega
          clear hok hrf
          go_wp2
          go_ret3
          exact ⟨unhide HG, .inl ⟨unhide HNo, rfl⟩⟩
    · have hlt' : ¬ (k : Int) < (c : Int) := by omega
      have HF : Hid (nums c l = some (xs, r)) := hide (by
        rw [unhide HE, show c - k = 0 by omega]
        simp [nums])
      go_wp2
      go_ret3
      exact ⟨unhide HG, .inr ⟨xs, r, _, _, unhide HF, rfl, unhide HN, (unhide HS).kept (unhide HG)⟩⟩
end Go.Proofs.Ythjcdibblhcgpaa

/-
  DERIVED. parts, bytes.Equal, bytes.HasPrefix.
-/
namespace Go.Proofs.Ythjcdibblhcgpaa
open Go.RowKit
set_option linter.unusedVariables false

def pairs : List Nat → List (Nat × Nat)
  | a :: b :: r => (a, b) :: pairs r
  | _ => []
theorem pairs_step : ∀ (xs : List Nat) (k : Nat), 2 * k + 1 < xs.length → pairs (xs.take (2 * (k + 1))) = pairs (xs.take (2 * k)) ++ [(xs.getD (2 * k) 0, xs.getD (2 * k + 1) 0)]
  | [], k, h => by simp at h
  | [a], k, h => by simp at h
  | a :: b :: r, 0, h => by simp [pairs]
  | a :: b :: r, k + 1, h => by
    have h' : 2 * k + 1 < r.length := by simp at h; omega
    have ih := pairs_step r k h'
    rw [show 2 * (k + 1 + 1) = 2 * (k + 1) + 1 + 1 by omega, List.take_succ_cons, List.take_succ_cons, show 2 * (k + 1) = 2 * k + 1 + 1 by omega, List.take_succ_cons, List.take_succ_cons, show 2 * k + 1 + 1 = 2 * (k + 1) by omega]
    simp only [pairs]
    rw [ih, List.cons_append]
    congr 3
theorem pairs_len : ∀ (n : Nat) (xs : List Nat), xs.length = 2 * n → (pairs xs).length = n
  | 0, xs, h => by
    have e : xs = [] := List.eq_nil_of_length_eq_zero (by omega)
    subst e
    rfl
  | n + 1, xs, h => by
    match xs, h with
    | a :: b :: r, h =>
      have := pairs_len n r (by simp at h; omega)
      simp [pairs, this]
    | [a], h => simp at h; omega
    | [], h => simp at h
theorem pairs_mem : ∀ (xs : List Nat), (∀ x ∈ xs, x ≤ 32768) → ∀ y ∈ pairs xs, y.1 ≤ 32768 ∧ y.2 ≤ 32768
  | [], _, y, hy => by cases hy
  | [a], _, y, hy => by cases hy
  | a :: b :: r, h, y, hy => by
    rcases List.mem_cons.1 hy with rfl | hy
    · exact ⟨h _ (by simp), h _ (by simp)⟩
    · exact pairs_mem r (fun x hx => h x (by simp [hx])) y hy

/-- A size and runs off bytes, and what is behind them. -/
def prt (l : List UInt8) : Option (Nat × List (Nat × Nat) × List UInt8) :=
  match nums 2 l with
  | none => none
  | some (hd, r) => (nums (2 * hd.getD 1 0) r).map fun p => (hd.getD 0 0, pairs p.1, p.2)
theorem prt_facts {l : List UInt8} {a : Nat} {X : List (Nat × Nat)} {r : List UInt8} (h : prt l = some (a, X, r)) : a ≤ 32768 ∧ X.length ≤ 32768 ∧ ∀ y ∈ X, y.1 ≤ 32768 ∧ y.2 ≤ 32768 := by
  unfold prt at h
  cases h2 : nums 2 l with
  | none => rw [h2] at h; cases h
  | some p =>
    rw [h2] at h
    obtain ⟨hd, r0⟩ := p
    simp only at h
    obtain ⟨p, hp, e⟩ := Option.map_eq_some_iff.1 h
    obtain ⟨xs, r2⟩ := p
    simp only [Prod.mk.injEq] at e
    obtain ⟨rfl, rfl, rfl⟩ := e
    obtain ⟨l1, m1⟩ := nums_len _ _ _ _ h2
    obtain ⟨l2, m2⟩ := nums_len _ _ _ _ hp
    match hd, l1 with
    | [x, y], _ =>
      refine ⟨m1 x (by simp), ?_, pairs_mem xs m2⟩
      rw [pairs_len y xs (by simpa using l2)]
      exact m1 y (by simp)

def PrtPost (w : World) (l : List UInt8) (e : Ending) (w' : World) : Prop :=
  w.grownBy w' none ∧ ((prt l = none ∧ ∃ (z : Int) (vx : Value), e = .returned (.tuple #[.int .i64 z, vx, .bool false])) ∨ ∃ a X r vx, prt l = some (a, X, r) ∧ e = .returned (.tuple #[.int .i64 (a : Int), vx, .bool true]) ∧ ROwn w' w.heap.size vx X)

set_option maxRecDepth 20000 in
set_option maxHeartbeats 4000000 in
theorem parts_any (w : World) (v : Value) (l : List UInt8) (hv : Sl w v l) : Calls Try.prog 25 #[v] w (PrtPost w l) := by
  have HV := hide hv
  clear hv
  have e2 : ((2 : Nat) : Int) = 2 := rfl
  go_enter Try.func25, Try.ntmps25
  go_wp2_with fail
  refine (numbers_any w v l 2 (unhide HV) (by omega)).mono ?_
  rintro e w1 ⟨g1, h1⟩
  have G1 := hide g1
  rcases h1 with ⟨h1, rfl⟩ | ⟨hd, r, vx, vr, h1, rfl, o1, s1⟩
  · have HNo : Hid (prt l = none) := hide (by unfold prt; rw [h1])
    clear g1 h1
    go_wp2
    go_ret3
    exact ⟨unhide G1, .inl ⟨unhide HNo, _, _, rfl⟩⟩
  · obtain ⟨hl2, hm2⟩ := nums_len _ _ _ _ h1
    have H1 := hide h1
    match hd, hl2 with
    | [a, m], _ =>
      have ha : a ≤ 32768 := hm2 a (by simp)
      have hm : m ≤ 32768 := hm2 m (by simp)
      have hmI : (m : Int) ≤ 32768 := by omega
      obtain ⟨ao, cap, rfl, hc1, hc2, h4⟩ := o1.form
      obtain ⟨g, rfl, hgl, hcell⟩ := h4 (by simp)
      have HC0 := hide (hcell 0 (by simp))
      have HC1 := hide (hcell 1 (by simp))
      have c1 := hcell 1 (by simp)
      simp only [List.length_cons, List.length_nil, Nat.zero_add, Nat.reduceAdd, List.getElem_cons_succ, List.getElem_cons_zero] at c1 HC0 HC1 hc1 ⊢
      have S1 := hide s1
      clear g1 o1 s1 h4 hcell hm2 h1 e2
      go_wp2_with fail
      refine (show Calls Try.prog 41 #[vr, .int .i64 (2 * (m : Int))] w1 _ from ?_)
      have := numbers_any w1 vr r (2 * m) (unhide S1) (by omega)
      rw [show (((2 * m : Nat)) : Int) = 2 * (m : Int) by omega] at this
      refine this.mono ?_
      clear this c1
      rintro e w2 ⟨g2, h2⟩
      have G2 : Hid (w.grownBy w2 none) := hide ((unhide G1).trans g2)
      have d0 := g2.cell (unhide HC0) (by simp)
      have SZ := hide (unhide G1).size
      rcases h2 with ⟨h2, rfl⟩ | ⟨xs, r2, vy, vr2, h2, rfl, o2, s2⟩
      · have HNo : Hid (prt l = none) := hide (by unfold prt; rw [unhide H1]; simp only; rw [show 2 * [a, m].getD 1 0 = 2 * m from rfl, h2]; rfl)
        clear g2 h2
        go_wp2
        go_loopw [10, 11] (fun x i wr => i = .int .i64 0 ∧ x = .slice none 0 0 ∧ wr = w2) (fun _ i _ => 0)
        case atStart => exact ⟨rfl, rfl, rfl⟩
        case round =>
          obtain ⟨rfl, rfl, rfl⟩ := hrel
          go_wp2
          go_ret3
          exact ⟨unhide G2, .inl ⟨unhide HNo, _, _, rfl⟩⟩
      · have HYes : Hid (prt l = some (a, pairs xs, r2)) := hide (by unfold prt; rw [unhide H1]; simp only; rw [show 2 * [a, m].getD 1 0 = 2 * m from rfl, h2]; rfl)
        obtain ⟨hl3, hm3⟩ := nums_len _ _ _ _ h2
        obtain ⟨bo, bcap, rfl, hb1, hb2, hb4⟩ := o2.form
        have O2 := hide o2
        obtain ⟨n, hn⟩ : ∃ n, n = xs.length := ⟨_, rfl⟩
        rw [← hn] at hb1 hl3 O2 ⊢
        have HNn := hide hn
        have hnI : (n : Int) ≤ 65536 := by omega
        have hnm : n = 2 * m := hl3
        have HNm := hide hnm
        clear hn g2 h2 o2 s2 hb4 hl3 hnm
        go_wp2
        go_loopw [10, 11] (fun x i wr => ∃ k : Nat, i = .int .i64 ((2 * k : Nat) : Int) ∧ k ≤ m ∧ ROwn wr w2.heap.size x (pairs (xs.take (2 * k))) ∧ w2.grownBy wr none) (fun _ i _ => n - (intOf i).toNat)
        case atStart => exact ⟨0, rfl, by omega, by simpa [pairs] using ROwn.nil w2 w2.heap.size, World.grownBy.refl _ _⟩
        case round =>
          obtain ⟨k, rfl, hk, hR, hG⟩ := hrel
          have HR := hide hR
          have HGi := hide hG
          obtain ⟨i, hi⟩ : ∃ i, i = 2 * k := ⟨_, rfl⟩
          rw [← hi] at HR ⊢
          have HIk := hide hi
          have hiI : (i : Int) ≤ 65536 := by omega
          clear hR hG
          by_cases hlt : k < m
          · have hlt' : (i : Int) < (n : Int) := by have := unhide HNm; omega
            have hlt2 : (i : Int) + 1 < (n : Int) := by have := unhide HNm; omega
            have hk1 : i + 1 < xs.length := by have := unhide HNm; have := unhide HNn; omega
            have hpl : (pairs (xs.take i)).length ≤ 65536 := by rw [pairs_len k _ (by rw [List.length_take]; omega)]; omega
            obtain ⟨ao', cap', e, _, _, h4⟩ := ((unhide O2).grown (unhide HGi)).form
            injection e with e1 e2 e3
            obtain ⟨g2, hbo, hg2l, hcell⟩ := h4 (by omega)
            rw [← e1] at hbo
            subst hbo
            have d1 := hcell i (by omega)
            have d2 := hcell (i + 1) hk1
            have HPs : Hid (pairs (xs.take (2 * (k + 1))) = pairs (xs.take i) ++ [(xs[i], xs[i + 1])]) := hide (by
              have h := pairs_step xs k (by omega)
              rw [← hi] at h
              rw [h]
              simp [List.getD_eq_getElem?_getD, List.getElem?_eq_getElem hk1, List.getElem?_eq_getElem (show i < xs.length by omega)])
            have hy1 := hm3 xs[i] (List.getElem_mem _)
            have hy2 := hm3 xs[i + 1] (List.getElem_mem _)
            obtain ⟨y1, hy1e⟩ : ∃ y, y = xs[i] := ⟨_, rfl⟩
            obtain ⟨y2, hy2e⟩ : ∃ y, y = xs[i + 1] := ⟨_, rfl⟩
            rw [← hy1e] at d1 HPs hy1
            rw [← hy2e] at d2 HPs hy2
            clear e1 e2 e3 h4 hcell hy1e hy2e hi
            have HSz : Hid (w2.heap.size ≤ wr.heap.size) := hide (unhide HGi).size
            have hyI1 : (y1 : Int) ≤ 32768 := by omega
            have hwi : IntKind.i64.wrap ((i : Int) + 1) = (i : Int) + 1 := by rw [IntKind.wrap_i64]; omega
            have hi0 : (0 : Int) ≤ (i : Int) + 1 := by omega
            have hyI2 : (y2 : Int) ≤ 32768 := by omega
            go_wp2_with fail
            go_region_law (first | (refine step_append_run rfl (.tmp 36) (.tmp 47) rfl w2.heap.size u10 (pairs (xs.take i)) rfl ?own hpl ?hb ⟨_, 0, none⟩ 1 (y1, y2) rfl ?hy ?_; (case own => (first | exact (unhide HR).grown (gr_da _ _) | exact (unhide HR).grown (gr_ad _ _))); (case hb => (have h7 := unhide HSz; simp; omega)); (case hy => (first | exact one_cells _ _ _ | exact one_cells (wr.drew) _ _)); intro v3 w3 o3 g3; have R3 : Hid (ROwn w3 w2.heap.size v3 (pairs (xs.take (2 * (k + 1))))) := hide (by rw [unhide HPs]; exact o3); have G3 : Hid (w2.grownBy w3 none) := hide (by first | exact ((unhide HGi).trans (gr_ad _ _)).andThen g3 (fun q e => .inl ((unhide HR).row e).1) | exact ((unhide HGi).trans (gr_da _ _)).andThen g3 (fun q e => .inl ((unhide HR).row e).1)); clear o3 g3))
            all_goals
              go_wp2
              go_roundw
              case rel => exact ⟨k + 1, by have := unhide HIk; congr 1; omega, by omega, unhide R3, unhide G3⟩
              case measure => simp [intOf]; omega
          · have hlt' : ¬ (i : Int) < (n : Int) := by have := unhide HNm; omega
            have HF : Hid (ROwn wr w.heap.size u10 (pairs xs)) := hide (by
              have h := (unhide HR).mono (unhide G2).size
              rw [List.take_of_length_le (by have := unhide HNm; have := unhide HNn; omega)] at h
              exact h)
            clear hi
            have d3 := (unhide HGi).cell d0 (by simp)
            go_wp2
            go_ret3
            exact ⟨(unhide G2).trans (unhide HGi), .inr ⟨a, pairs xs, r2, _, unhide HYes, rfl, unhide HF⟩⟩
end Go.Proofs.Ythjcdibblhcgpaa

/-
  DERIVED. bytes.Equal, bytes.HasPrefix, Extend that is refused, Read.
-/
namespace Go.Proofs.Ythjcdibblhcgpaa
open Go.RowKit
set_option linter.unusedVariables false

theorem list_beq (l m : List UInt8) : (l == m) = decide (l = m) := by
  by_cases h : l = m
  · rw [decide_eq_true h]
    exact beq_iff_eq.2 h
  · rw [decide_eq_false h]
    exact beq_eq_false_iff_ne.2 h
theorem Equal_any (w : World) (v u : Value) (l m : List UInt8) (hv : Sl w v l) (hu : Sl w u m) :
    Calls Try.prog 42 #[v, u] w fun e w' => e = .returned (.bool (decide (l = m))) ∧ w' = w := by
  have s1 := hv.str
  have s2 := hu.str
  have HE := hide (list_beq l m)
  clear hv hu
  go_enter Try.func42, Try.ntmps42
  go_wp2
  go_ret
  rw [← unhide HE]
  exact ⟨rfl, rfl⟩
theorem HasPrefix_any (w : World) (v u : Value) (l m : List UInt8) (hv : Sl w v l) (hu : Sl w u m) :
    Calls Try.prog 26 #[v, u] w fun e w' => e = .returned (.bool (decide (l.take m.length = m))) ∧ w' = w := by
  have HV := hide hv
  have HU := hide hu
  obtain ⟨ao, cap, rfl, h1, h2, h4⟩ := hv
  obtain ⟨bo, bap, rfl, k1, k2, k4⟩ := hu
  unfold maxLen at h2 k2
  have hl1 : (l.length : Int) ≤ (cap : Int) := by omega
  have hl2 : (cap : Int) ≤ 9223372036854775807 := by omega
  clear h4 k4
  by_cases hle : m.length ≤ l.length
  · have hle' : (m.length : Int) ≤ (l.length : Int) := by omega
    have HT : Hid (Sl w (.slice ao m.length cap) (l.take m.length)) := hide (by
      obtain ⟨ao', cap', e, a1, a2, a4⟩ := unhide HV
      injection e with e1 e2 e3
      subst e1 e3
      have hl : (l.take m.length).length = m.length := by rw [List.length_take]; omega
      refine ⟨ao, cap, by rw [hl], by rw [hl]; omega, a2, fun hne => ?_⟩
      obtain ⟨b, off, e, hb, hc⟩ := a4 hne
      exact ⟨b, off, e, hb, fun i hi => by rw [List.getElem_take]; exact hc i (by rw [hl] at hi; omega)⟩)
    go_enter Try.func26, Try.ntmps26
    go_wp2_with fail
    refine (Equal_any w _ _ (l.take m.length) m (unhide HT) (unhide HU)).mono ?_
    rintro e w1 ⟨rfl, rfl⟩
    go_wp2
    go_ret
    exact ⟨rfl, rfl⟩
  · have hle' : ¬ (m.length : Int) ≤ (l.length : Int) := by omega
    have HF : Hid (decide (l.take m.length = m) = false) := hide (decide_eq_false (fun e => by
      have := congrArg List.length e
      rw [List.length_take] at this
      omega))
    go_enter Try.func26, Try.ntmps26
    go_wp2
    go_ret
    rw [unhide HF]
    exact ⟨rfl, rfl⟩

theorem Extend_bad (w : World) (b n m : Nat) (v u : Value) (L : List Nat) (l : List (Int × Int)) (h : NdAt w b n v L) (hm : n + m ≤ 32768) (hu : Rn w u l) (hl : l.length ≤ 1125899906842624) (hno : ¬ okL l ((bf (n + m) - bf n : Nat) : Int)) :
    Calls Try.prog 10 #[.pointer (some ⟨b, 0, none⟩), .int .i64 (m : Int), u] w fun e w' => e = .returned (.int .i64 1) ∧ w.grownBy w' none := by
  have HM := hide h
  have HU := hide hu
  have HNo := hide (decide_eq_false hno)
  have hbl := bf_le hm
  clear h hu hno
  go_enter Try.func10, Try.ntmps10
  go_wp2_with fail
  refine (Need_ok w b n v L (unhide HM) m hm).mono ?_
  rintro e w1 ⟨rfl, rfl⟩
  obtain ⟨d, hd⟩ : ∃ d, d = bf (n + m) - bf n := ⟨_, rfl⟩
  rw [← hd] at HNo ⊢
  have hd64 : d ≤ 64 := by omega
  clear hd
  go_wp2_with fail
  refine (haveJust_any w1 u l d (unhide HU) (by omega) hl).mono ?_
  rintro e w2 ⟨rfl, g2⟩
  rw [unhide HNo]
  go_wp2
  go_ret
  exact ⟨rfl, g2⟩

/-- What Read reads: the size, the blocks, how many bytes. -/
def rdN (l : List UInt8) : Option (Nat × List Nat × Nat) :=
  match prt l with
  | none => none
  | some (a, X, _) => if okL (X.map toI) ((bf a : Nat) : Int) ∧ l.take (tellN a (bks X)).length = tellN a (bks X) then some (a, bks X, (tellN a (bks X)).length) else none
def ReadPost (w : World) (l : List UInt8) (e : Ending) (w' : World) : Prop :=
  w.grownBy w' none ∧ ((rdN l = none ∧ e = .returned (.tuple #[.pointer none, .int .i64 0, .int .i64 61])) ∨ ∃ a L n b v, rdN l = some (a, L, n) ∧ e = .returned (.tuple #[.pointer (some ⟨b, 0, none⟩), .int .i64 (n : Int), .int .i64 0]) ∧ w.heap.size ≤ b ∧ NdAt w' b a v L)

set_option maxRecDepth 20000 in
set_option maxHeartbeats 4000000 in
theorem Read_any (w : World) (v : Value) (l : List UInt8) (hv : Sl w v l) : Calls Try.prog 12 #[v] w (ReadPost w l) := by
  have HV := hide hv
  clear hv
  go_enter Try.func12, Try.ntmps12
  go_wp2_with fail
  refine (parts_any w v l (unhide HV)).mono ?_
  rintro e w1 ⟨g1, h1⟩
  have G1 := hide g1
  rcases h1 with ⟨h1, z, vx, rfl⟩ | ⟨a, X, r, vx, h1, rfl, o1⟩
  · have HNo : Hid (rdN l = none) := hide (by unfold rdN; rw [h1])
    clear g1 h1
    go_wp2_with fail
    refine (New_any w1).mono ?_
    rintro e w2 ⟨rfl, _, g2⟩
    have G2 : Hid (w.grownBy w2 none) := hide ((unhide G1).trans g2)
    clear g2
    go_wp2
    go_ret3
    exact ⟨unhide G2, .inl ⟨unhide HNo, rfl⟩⟩
  · obtain ⟨ha, hXl, hXm⟩ := prt_facts h1
    have H1 := hide h1
    have O1 := hide o1
    clear g1 h1 o1
    go_wp2_with fail
    refine (New_any w1).mono ?_
    rintro e w2 ⟨rfl, m2, g2⟩
    have SB : Hid (w.heap.size ≤ w1.heap.size) := hide (unhide G1).size
    obtain ⟨b, hb⟩ : ∃ b, b = w1.heap.size := ⟨_, rfl⟩
    rw [← hb] at m2 SB ⊢
    have M2 := hide m2
    have G2 : Hid (w.grownBy w2 none) := hide ((unhide G1).trans g2)
    have R2 : Hid (Rn w2 vx (X.map toI)) := hide (((unhide O1).grown g2).rn (fun x hx => by have := hXm x hx; omega))
    have HB0 : Hid (bf (0 + a) - bf 0 = bf a) := hide (by rw [Nat.zero_add]; unfold bf; omega)
    clear hb m2 g2 O1 hXm
    by_cases hok : okL (X.map toI) ((bf a : Nat) : Int)
    · obtain ⟨Y, hY, hY2, hYt⟩ := of_okL hok
      have hXY : X = Y := by
        have inj : ∀ (A B : List (Nat × Nat)), A.map toI = B.map toI → A = B := by
          intro A
          induction A with
          | nil => intro B h; cases B with
            | nil => rfl
            | cons _ _ => cases h
          | cons x A ih => intro B h; cases B with
            | nil => cases h
            | cons y B =>
              simp only [List.map_cons, List.cons.injEq, toI, Prod.mk.injEq] at h
              obtain ⟨⟨h1, h2⟩, h3⟩ := h
              rw [ih B h3]
              congr 1
              exact Prod.ext (by omega) (by omega)
        exact inj X Y hY
      subst hXY
      have HY2 := hide hY2
      have HOk := hide hok
      clear hok hY
      go_wp2_with fail
      refine (Extend_ok w2 b 0 a _ vx [] X (unhide M2) (by omega) (unhide R2) (unhide HY2) (by rw [hYt]; exact (unhide HB0).symm)).mono ?_
      rintro e w3 ⟨rfl, v3, m3, _, g3⟩
      rw [Nat.zero_add, List.nil_append] at m3
      have M3 := hide m3
      have G3 := hide (own_step (unhide G2) (unhide SB) g3)
      have hcl := m3.small.2
      clear m3 g3 M2 G2 R2
      go_wp2_with fail
      refine (Bytes_any w3 b a v3 (bks X) (unhide M3)).mono ?_
      rintro e w4 ⟨u4, rfl, o4, g4⟩
      have M4 := hide ((unhide M3).grown g4)
      have G4 : Hid (w.grownBy w4 none) := hide ((unhide G3).trans g4)
      have S4 := hide o4.sl
      obtain ⟨co, ccap, hu4, _, _, _⟩ := o4.sl
      clear o4 g4 M3 G3
      subst hu4
      have hTl : ((tellN a (bks X)).length : Int) ≤ 1400 := by have := tellN_len (n := a) hcl; omega
      go_wp2_with fail
      refine (HasPrefix_any w4 v _ l (tellN a (bks X)) ((unhide HV).kept (unhide G4)) (unhide S4)).mono ?_
      rintro e w5 ⟨rfl, rfl⟩
      by_cases hp : l.take (tellN a (bks X)).length = tellN a (bks X)
      · have hD : decide (l.take (tellN a (bks X)).length = tellN a (bks X)) = true := decide_eq_true hp
        have HYes : Hid (rdN l = some (a, bks X, (tellN a (bks X)).length)) := hide (by unfold rdN; rw [unhide H1]; simp only; rw [if_pos ⟨unhide HOk, hp⟩])
        rw [hD]
        clear hp hD
        go_wp2
        go_ret3
        exact ⟨unhide G4, .inr ⟨a, bks X, _, b, v3, unhide HYes, rfl, unhide SB, unhide M4⟩⟩
      · have hD : decide (l.take (tellN a (bks X)).length = tellN a (bks X)) = false := decide_eq_false hp
        have HNo : Hid (rdN l = none) := hide (by unfold rdN; rw [unhide H1]; simp only; rw [if_neg (fun h => hp h.2)])
        rw [hD]
        clear hp hD
        go_wp2
        go_ret3
        exact ⟨unhide G4, .inl ⟨unhide HNo, rfl⟩⟩
    · have HNo : Hid (rdN l = none) := hide (by unfold rdN; rw [unhide H1]; simp only; rw [if_neg (fun h => hok h.1)])
      have HOk := hide hok
      clear hok
      go_wp2_with fail
      refine (Extend_bad w2 b 0 a _ vx [] (X.map toI) (unhide M2) (by omega) (unhide R2) (by rw [List.length_map]; omega) (by rw [unhide HB0]; exact unhide HOk)).mono ?_
      rintro e w3 ⟨rfl, g3⟩
      have G3 : Hid (w.grownBy w3 none) := hide ((unhide G2).trans g3)
      clear g3
      go_wp2
      go_ret3
      exact ⟨unhide G3, .inl ⟨unhide HNo, rfl⟩⟩
end Go.Proofs.Ythjcdibblhcgpaa

/-
  DERIVED. The plain mathematics of the checksum: the table's way and the document's way are one; a byte that is another one gives another sum.
-/
namespace Go.Proofs.Ythjcdibblhcgpaa

theorem xor_half (a b : Nat) : (a ^^^ b) / 2 = a / 2 ^^^ b / 2 := by
  have := Nat.shiftRight_xor_distrib (a := a) (b := b) (i := 1)
  simpa [Nat.shiftRight_eq_div_pow] using this
theorem xor_odd (a b : Nat) : (a ^^^ b) % 2 = (a % 2 + b % 2) % 2 := by
  have h := Nat.xor_mod_two_pow (a := a) (b := b) (n := 1)
  rw [show 2 ^ 1 = 2 from rfl] at h
  rw [h]
  rcases Nat.mod_two_eq_zero_or_one a with ha | ha <;> rcases Nat.mod_two_eq_zero_or_one b with hb | hb <;> rw [ha, hb] <;> rfl
theorem stp_eq (r : Nat) : stp r = r / 2 ^^^ (if r % 2 = 1 then 2197175160 else 0) := by
  unfold stp; split <;> simp
theorem stp_xor (a b : Nat) : stp (a ^^^ b) = stp a ^^^ stp b := by
  rw [stp_eq, stp_eq a, stp_eq b, xor_half, xor_odd]
  rcases Nat.mod_two_eq_zero_or_one a with ha | ha <;> rcases Nat.mod_two_eq_zero_or_one b with hb | hb <;> simp only [ha, hb]
  · simp
  · simp [Nat.xor_assoc]
  · have : ∀ x y p : Nat, x ^^^ y ^^^ p = x ^^^ p ^^^ y := by
      intro x y p
      rw [Nat.xor_assoc, Nat.xor_comm y p, ← Nat.xor_assoc]
    simp [this]
  · have : ∀ x y p : Nat, x ^^^ p ^^^ (y ^^^ p) = x ^^^ y := by
      intro x y p
      rw [Nat.xor_assoc, Nat.xor_comm y p, ← Nat.xor_assoc p p y, Nat.xor_self, Nat.zero_xor]
    simp [this]
theorem stp8_xor (a b : Nat) : stp8 (a ^^^ b) = stp8 a ^^^ stp8 b := by simp only [stp8, stp_xor]
theorem stp_even (z : Nat) : stp (2 * z) = z := by
  unfold stp; rw [if_neg (by omega)]; omega
theorem stp8_high (y : Nat) : stp8 (256 * y) = y := by
  have : 256 * y = 2 * (2 * (2 * (2 * (2 * (2 * (2 * (2 * y))))))) := by omega
  rw [this]; simp only [stp8, stp_even]
theorem split_byte (x : Nat) : x = 256 * (x / 256) ^^^ x % 256 := by
  have h := Nat.two_pow_add_eq_or_of_lt (i := 8) (show x % 256 < 2 ^ 8 from Nat.mod_lt _ (by decide)) (x / 256)
  have h2 : 2 ^ 8 * (x / 256) ^^^ x % 256 = 2 ^ 8 * (x / 256) ||| x % 256 := by
    apply Nat.eq_of_testBit_eq
    intro i
    rw [Nat.testBit_xor, Nat.testBit_or]
    by_cases hi : i < 8
    · have : (2 ^ 8 * (x / 256)).testBit i = false := by rw [Nat.testBit_two_pow_mul]; simp [show ¬ 8 ≤ i by omega]
      rw [this]; simp
    · have : (x % 256).testBit i = false := by
        rw [show 256 = 2 ^ 8 from rfl, Nat.testBit_mod_two_pow]; simp [hi]
      rw [this]; simp
  show x = 2 ^ 8 * (x / 256) ^^^ x % 256
  rw [h2, ← h]; omega
theorem stp8_split (x : Nat) : stp8 x = x / 256 ^^^ stp8 (x % 256) := by
  conv => lhs; rw [split_byte x]
  rw [stp8_xor, stp8_high]
theorem tab_at (k : Nat) (h : k < 256) : crcTab.getD k 0 = stp8 k := by
  rw [crcTab_eq, List.getD_eq_getElem?_getD, List.getElem?_map, List.getElem?_range h]; rfl
theorem xor_high (r c : Nat) (hc : c < 256) : (r ^^^ c) / 256 = r / 256 := by
  have := Nat.shiftRight_xor_distrib (a := r) (b := c) (i := 8)
  rw [Nat.shiftRight_eq_div_pow, Nat.shiftRight_eq_div_pow, Nat.shiftRight_eq_div_pow] at this
  have e : c / 2 ^ 8 = 0 := by omega
  rw [e, Nat.xor_zero] at this
  exact this
theorem xor_low (r c : Nat) (hc : c < 256) : (r ^^^ c) % 256 = (r % 256) ^^^ c := by
  have := Nat.xor_mod_two_pow (a := r) (b := c) (n := 8)
  rw [show 2 ^ 8 = 256 from rfl, Nat.mod_eq_of_lt hc] at this
  exact this
/-- The table's step is eight steps of the document's. -/
theorem crc_step (r : Nat) (c : UInt8) : (r / 256) ^^^ crcTab.getD ((r % 256) ^^^ c.toNat) 0 = stp8 (r ^^^ c.toNat) := by
  have hc := c.toNat_lt
  rw [tab_at _ (Nat.xor_lt_two_pow (n := 8) (by omega) hc), stp8_split (r ^^^ c.toNat), xor_high r _ hc, xor_low r _ hc]

def crcRR (r : Nat) (l : List UInt8) : Nat := l.foldl (fun r c => stp8 (r ^^^ c.toNat)) r
theorem crcR_eq (r : Nat) (l : List UInt8) : crcR r l = crcRR r l := by
  unfold crcR crcRR
  congr 1
  funext r c
  exact crc_step r c
theorem crcRR_snoc (r : Nat) (l : List UInt8) (c : UInt8) : crcRR r (l ++ [c]) = stp8 (crcRR r l ^^^ c.toNat) := by
  simp [crcRR, List.foldl_append]

theorem stp8_lt {r : Nat} (h : r < 4294967296) : stp8 r < 4294967296 := by
  unfold stp8
  exact stp_lt (stp_lt (stp_lt (stp_lt (stp_lt (stp_lt (stp_lt (stp_lt h)))))))
theorem crcRR_lt : ∀ (l : List UInt8) (r : Nat), r < 4294967296 → crcRR r l < 4294967296
  | [], r, h => h
  | c :: l, r, h => crcRR_lt l _ (stp8_lt (xor_lt32 h (by have := c.toNat_lt; omega)))

theorem xor_ne (a b P : Nat) (ha : a < 2147483648) (hb : b < 2147483648) (hP : 2147483648 ≤ P) : a ^^^ P ≠ b := by
  intro h
  have h1 : a ^^^ b < 2147483648 := Nat.xor_lt_two_pow (n := 31) ha hb
  have h2 : a ^^^ b = P := by rw [← h, ← Nat.xor_assoc, Nat.xor_self, Nat.zero_xor]
  omega
theorem xor_cancel {a b p : Nat} (h : a ^^^ p = b ^^^ p) : a = b := by
  have := congrArg (· ^^^ p) h
  simpa [Nat.xor_assoc] using this
theorem stp_inj {a b : Nat} (ha : a < 4294967296) (hb : b < 4294967296) (h : stp a = stp b) : a = b := by
  unfold stp at h
  by_cases h1 : a % 2 = 1 <;> by_cases h2 : b % 2 = 1
  · rw [if_pos h1, if_pos h2] at h
    have := xor_cancel h
    omega
  · rw [if_pos h1, if_neg h2] at h
    exact absurd h (xor_ne _ _ _ (by omega) (by omega) (by decide))
  · rw [if_neg h1, if_pos h2] at h
    exact absurd h.symm (xor_ne _ _ _ (by omega) (by omega) (by decide))
  · rw [if_neg h1, if_neg h2] at h
    omega
theorem stp8_inj {a b : Nat} (ha : a < 4294967296) (hb : b < 4294967296) (h : stp8 a = stp8 b) : a = b := by
  have l1 := stp_lt ha; have l2 := stp_lt l1; have l3 := stp_lt l2; have l4 := stp_lt l3; have l5 := stp_lt l4; have l6 := stp_lt l5; have l7 := stp_lt l6
  have m1 := stp_lt hb; have m2 := stp_lt m1; have m3 := stp_lt m2; have m4 := stp_lt m3; have m5 := stp_lt m4; have m6 := stp_lt m5; have m7 := stp_lt m6
  exact stp_inj ha hb (stp_inj l1 m1 (stp_inj l2 m2 (stp_inj l3 m3 (stp_inj l4 m4 (stp_inj l5 m5 (stp_inj l6 m6 (stp_inj l7 m7 h)))))))
theorem xor_byte_lt {r : Nat} (h : r < 4294967296) (c : UInt8) : r ^^^ c.toNat < 4294967296 := xor_lt32 h (by have := c.toNat_lt; omega)
theorem crcRR_inj : ∀ (l : List UInt8) {a b : Nat}, a < 4294967296 → b < 4294967296 → crcRR a l = crcRR b l → a = b
  | [], _, _, _, _, h => h
  | c :: l, a, b, ha, hb, h => by
    have := crcRR_inj l (stp8_lt (xor_byte_lt ha c)) (stp8_lt (xor_byte_lt hb c)) h
    exact xor_cancel (stp8_inj (xor_byte_lt ha c) (xor_byte_lt hb c) this)
theorem crcRR_byte (p q : List UInt8) {c c' : UInt8} (hc : c ≠ c') {r : Nat} (hr : r < 4294967296) : crcRR r (p ++ c :: q) ≠ crcRR r (p ++ c' :: q) := by
  intro h
  have e : ∀ x : UInt8, crcRR r (p ++ x :: q) = crcRR (stp8 (crcRR r p ^^^ x.toNat)) q := fun x => by simp [crcRR, List.foldl_append]
  rw [e, e] at h
  have hp := crcRR_lt p r hr
  have h1 := crcRR_inj q (stp8_lt (xor_byte_lt hp c)) (stp8_lt (xor_byte_lt hp c')) h
  have h2 := stp8_inj (xor_byte_lt hp c) (xor_byte_lt hp c') h1
  rw [Nat.xor_comm _ c.toNat, Nat.xor_comm _ c'.toNat] at h2
  exact hc (UInt8.toNat_inj.1 (xor_cancel h2))
/-- A byte that is another one gives another sum. -/
theorem crc_byte (p q : List UInt8) {c c' : UInt8} (hc : c ≠ c') : crc (p ++ c :: q) ≠ crc (p ++ c' :: q) := by
  unfold crc
  intro h
  have := xor_cancel h
  rw [crcR_eq, crcR_eq] at this
  exact crcRR_byte p q hc (by decide) this
theorem crc_set (l : List UInt8) (i : Nat) (hi : i < l.length) (c : UInt8) (hc : c ≠ l[i]) : crc (l.set i c) ≠ crc l := by
  have e1 : l = l.take i ++ l[i] :: l.drop (i + 1) := by rw [← List.drop_eq_getElem_cons hi, List.take_append_drop]
  have e2 : l.set i c = l.take i ++ c :: l.drop (i + 1) := by rw [List.set_eq_take_append_cons_drop, if_pos hi]
  rw [e2]
  conv => rhs; rw [e1]
  exact crc_byte _ _ hc
end Go.Proofs.Ythjcdibblhcgpaa

/-
  DERIVED. The plain mathematics of what is laid and read again: numbers, integers, four bytes, frames.
-/
namespace Go.Proofs.Ythjcdibblhcgpaa

theorem ofNat_toNat (c : UInt8) : UInt8.ofNat c.toNat = c := by simp
theorem pow_next (i : Nat) : 2 ^ (7 * (i + 1)) = 128 * 2 ^ (7 * i) := by rw [Nat.mul_add, Nat.pow_add]; omega

theorem rdGo_canon : ∀ (l : List UInt8) (i acc n k : Nat), i ≤ 10 → acc < 2 ^ (7 * i) → rdGo i acc l = (n, k, 0) →
    ∃ m, n = acc + m * 2 ^ (7 * i) ∧ i + 1 ≤ k ∧ l.take (k - i) = lay m ∧ (0 < i → m ≠ 0) ∧ (m < 18446744073709551616)
  | [], i, acc, n, k, hi, ha, h => by
    rw [rdGo] at h
    split at h <;> simp at h
  | c :: r, i, acc, n, k, hi, ha, h => by
    have hc := c.toNat_lt
    have hf := rdGo_facts (c :: r) i acc hi ha
    rw [h] at hf
    have hn : n < 18446744073709551616 := hf.1
    rw [rdGo] at h
    split at h
    · simp at h
    · split at h
      · rename_i h1 h2
        have hm : c.toNat % 128 < 128 := Nat.mod_lt _ (by decide)
        have h3 : c.toNat % 128 * 2 ^ (7 * i) ≤ 127 * 2 ^ (7 * i) := Nat.mul_le_mul_right _ (by omega)
        have e := pow_next i
        obtain ⟨m', e1, e2, e3, e4, e5⟩ := rdGo_canon r (i + 1) _ n k (by omega) (by omega) h
        have hm' := e4 (by omega)
        have e6 : n = acc + (c.toNat % 128 + 128 * m') * 2 ^ (7 * i) := by
          rw [e1, e, Nat.add_mul, Nat.mul_assoc, Nat.mul_left_comm m' 128]
          omega
        have hp : 0 < 2 ^ (7 * i) := Nat.two_pow_pos _
        have h7 : c.toNat % 128 + 128 * m' ≤ (c.toNat % 128 + 128 * m') * 2 ^ (7 * i) := Nat.le_mul_of_pos_right _ hp
        refine ⟨c.toNat % 128 + 128 * m', e6, by omega, ?_, fun _ => by omega, by omega⟩
        rw [lay_big (by omega) (by omega)]
        have q1 : (c.toNat % 128 + 128 * m') % 128 = c.toNat % 128 := by omega
        have q2 : (c.toNat % 128 + 128 * m') / 128 = m' := by omega
        have q3 : 128 + c.toNat % 128 = c.toNat := by omega
        rw [q1, q2, q3, ofNat_toNat]
        have q4 : k - i = (k - (i + 1)) + 1 := by omega
        rw [q4, List.take_succ_cons, e3]
      · split at h
        · simp at h
        · rename_i h1 h2 h3
          simp only [Prod.mk.injEq] at h
          obtain ⟨h4, h5, _⟩ := h
          have hp : 0 < 2 ^ (7 * i) := Nat.two_pow_pos _
          refine ⟨c.toNat, h4.symm, by omega, ?_, fun _ => by omega, by omega⟩
          rw [← h5, show i + 1 - i = 1 by omega, lay_small (by omega), ofNat_toNat]
          rfl
theorem rd_canon {l : List UInt8} {n k : Nat} (h : rd l = (n, k, 0)) : l.take k = lay n := by
  obtain ⟨m, e1, _, e3, _⟩ := rdGo_canon l 0 0 n k (by omega) (by decide) h
  simp at e1
  rw [e1]; exact e3

theorem rdGo_lay : ∀ (f m : Nat), m < 128 ^ (f + 1) → ∀ (i acc : Nat) (r : List UInt8), (0 < i → m ≠ 0) → m * 2 ^ (7 * i) < 18446744073709551616 → i ≤ 9 →
    rdGo i acc (lay m ++ r) = (acc + m * 2 ^ (7 * i), i + (lay m).length, 0) := by
  intro f
  induction f with
  | zero =>
    intro m hm i acc r h0 h1 hi
    have hm : m < 128 := by simpa using hm
    rw [lay_small hm]
    have hb : (UInt8.ofNat m).toNat = m := by simp only [UInt8.toNat_ofNat']; omega
    show rdGo i acc (UInt8.ofNat m :: r) = _
    rw [rdGo, hb, if_neg (by omega), if_neg (by omega), if_neg ?_]
    · rfl
    · intro h
      rcases h with ⟨a, b⟩ | ⟨a, b⟩
      · exact h0 a b
      · subst a
        have : 2 * 2 ^ (7 * 9) ≤ m * 2 ^ (7 * 9) := Nat.mul_le_mul_right _ (by omega)
        have e : 2 * 2 ^ (7 * 9) = 18446744073709551616 := by decide
        omega
  | succ f ih =>
    intro m hm i acc r h0 h1 hi
    by_cases hs : m < 128
    · exact ih m (by have : 128 ≤ 128 ^ (f + 1) := Nat.le_self_pow (by omega) 128; omega) i acc r h0 h1 hi
    · have hp : 0 < 2 ^ (7 * i) := Nat.two_pow_pos _
      have hml : m ≤ m * 2 ^ (7 * i) := Nat.le_mul_of_pos_right _ hp
      rw [lay_big (by omega) (by omega)]
      have hb : (UInt8.ofNat (128 + m % 128)).toNat = 128 + m % 128 := by simp only [UInt8.toNat_ofNat']; omega
      show rdGo i acc (UInt8.ofNat (128 + m % 128) :: (lay (m / 128) ++ r)) = _
      have e := pow_next i
      have key : (m / 128) * 2 ^ (7 * (i + 1)) + m % 128 * 2 ^ (7 * i) = m * 2 ^ (7 * i) := by
        rw [e, ← Nat.mul_assoc, ← Nat.add_mul]
        congr 1
        omega
      have hi8 : i ≤ 8 := by
        by_cases h9 : i = 9
        · subst h9
          have : 128 * 2 ^ (7 * 9) ≤ m * 2 ^ (7 * 9) := Nat.mul_le_mul_right _ (by omega)
          have e : 128 * 2 ^ (7 * 9) = 1180591620717411303424 := by decide
          omega
        · omega
      rw [rdGo, hb, if_neg (by omega), if_pos (by omega), show (128 + m % 128) % 128 = m % 128 by omega,
        ih (m / 128) (by rw [Nat.pow_succ] at hm; omega) (i + 1) _ r (fun _ => by omega) (by omega) (by omega)]
      simp only [Prod.mk.injEq, List.length_cons, and_true]
      omega
theorem rd_lay (n : Nat) (hn : n < 18446744073709551616) (r : List UInt8) : rd (lay n ++ r) = (n, (lay n).length, 0) := by
  have := rdGo_lay 9 n (by have : 18446744073709551616 < 128 ^ (9 + 1) := by decide
                           omega) 0 0 r (fun h => by omega) (by simpa using hn) (by omega)
  simpa [rd] using this
theorem lay_inj {a b : Nat} (ha : a < 18446744073709551616) (hb : b < 18446744073709551616) (h : lay a = lay b) : a = b := by
  have h1 := rd_lay a ha []
  rw [h, rd_lay b hb []] at h1
  simp only [Prod.mk.injEq] at h1
  exact h1.1.symm
theorem unz_zig (n : Int) : unz (zig n) = n := by
  unfold unz zig
  by_cases h : n < 0
  · rw [if_pos h, if_pos (by omega)]; omega
  · rw [if_neg h, if_neg (by omega)]; omega
theorem zig_lt (n : Int) (h : -9223372036854775808 ≤ n) (h2 : n ≤ 9223372036854775807) : zig n < 18446744073709551616 := by
  unfold zig; split <;> omega

theorem rd4_le4 (n : Nat) (hn : n < 4294967296) (r : List UInt8) : rd4 (le4 n ++ r) = n := by
  show (UInt8.ofNat n).toNat + 256 * (UInt8.ofNat (n / 256)).toNat + 65536 * (UInt8.ofNat (n / 65536)).toNat + 16777216 * (UInt8.ofNat (n / 16777216)).toNat = n
  simp only [UInt8.toNat_ofNat']
  omega
theorem le4_rd4 : ∀ (l : List UInt8), 4 ≤ l.length → l.take 4 = le4 (rd4 l)
  | a :: b :: c :: d :: r, _ => by
    have h0 := a.toNat_lt
    have h1 := b.toNat_lt
    have h2 := c.toNat_lt
    have h3 := d.toNat_lt
    have e : ∀ (x : UInt8) (n : Nat), n % 256 = x.toNat → UInt8.ofNat n = x := fun x n h => by
      apply UInt8.toNat_inj.1
      simp only [UInt8.toNat_ofNat']
      omega
    simp only [rd4, le4, List.take_succ_cons, List.take_zero, List.cons.injEq, and_true]
    refine ⟨(e a _ (by omega)).symm, (e b _ (by omega)).symm, (e c _ (by omega)).symm, (e d _ (by omega)).symm⟩
  | [], h => by simp at h
  | [_], h => by simp at h
  | [_, _], h => by simp at h
  | [_, _, _], h => by simp at h

theorem pc_zero {l : List UInt8} {most : Int} (h : pcE l most = 0) : ∃ n k, rd l = (n, k, 0) ∧ (n : Int) ≤ most ∧ k + n ≤ l.length ∧ pcK l most = k + n ∧ pcD l most = (l.drop k).take n := by
  have hf := rd_facts l
  have h' := h
  unfold pcE at h'
  obtain ⟨n, k, e, hr⟩ : ∃ n k e, rd l = (n, k, e) := ⟨_, _, _, rfl⟩
  have hK : pcK l most = (rd l).2.1 + (rd l).1 := by unfold pcK; rw [if_pos h]
  have hD : pcD l most = (l.drop (rd l).2.1).take (rd l).1 := by unfold pcD; rw [if_pos h]
  rw [hr] at h' hf hK hD
  simp only at h' hf hK hD
  by_cases h0 : e = 0
  · subst h0
    rw [if_neg (by simp)] at h'
    by_cases h1 : most < 0 ∨ most < n
    · rw [if_pos h1] at h'; cases h'
    · rw [if_neg h1] at h'
      by_cases h2 : l.length - k < n
      · rw [if_pos h2] at h'; cases h'
      · have := hf.2.2.2 rfl
        exact ⟨n, k, hr, by omega, by omega, hK, hD⟩
  · rw [if_pos h0] at h'; exact absurd h' h0

/-- What is read as a frame is laid as that frame. -/
theorem fr_canon {l : List UInt8} (h : frE l = 0) : l.take (frK l) = frLay (frKind l) (frD l) ∧ frK l ≤ l.length ∧ (frD l).length ≤ 2000 := by
  have hK : frK l = 5 + pcK (l.drop 5) 2000 := by unfold frK; rw [if_pos h]
  have hD : frD l = pcD (l.drop 5) 2000 := by unfold frD; rw [if_pos h]
  have hk : frKind l = l.getD 4 0 := by unfold frKind; rw [if_pos h]
  unfold frE at h
  by_cases h1 : l.length < 5
  · rw [if_pos h1] at h; cases h
  · rw [if_neg h1] at h
    by_cases h2 : pcE (l.drop 5) 2000 = 0
    · rw [if_neg (by simpa using h2)] at h
      by_cases h3 : rd4 l = crc ((l.drop 4).take (1 + pcK (l.drop 5) 2000))
      · obtain ⟨n, k, hr, hn, hkn, eK, eD⟩ := pc_zero h2
        have hc := rd_canon hr
        rw [eK] at hK h3
        rw [eD] at hD
        simp only [List.length_drop] at hkn
        have hDl : (frD l).length = n := by rw [hD]; simp; omega
        have e4 : l.drop 4 = l.getD 4 0 :: l.drop 5 := by
          rw [List.drop_eq_getElem_cons (by omega), List.getD_eq_getElem?_getD, List.getElem?_eq_getElem (by omega)]; rfl
        have hbody : (l.drop 4).take (1 + (k + n)) = frBody (frKind l) (frD l) := by
          rw [e4, Nat.add_comm 1, List.take_succ_cons, frBody, hDl, ← hk, List.take_add, hc, hD]
          rfl
        refine ⟨?_, by omega, by omega⟩
        rw [hK, show 5 + (k + n) = 4 + (1 + (k + n)) by omega, List.take_add, le4_rd4 l (by omega), h3, hbody]
        rfl
      · rw [if_pos h3] at h; cases h
    · rw [if_pos h2] at h; exact absurd h h2

/-- What is laid as a frame is read as that frame, whatever stands behind it. -/
theorem fr_back (kind : UInt8) (d r : List UInt8) (hd : d.length ≤ 2000) : frE (frLay kind d ++ r) = 0 ∧ frK (frLay kind d ++ r) = (frLay kind d).length ∧ frKind (frLay kind d ++ r) = kind ∧ frD (frLay kind d ++ r) = d := by
  have hl := lay_len d.length
  have e5 : (frLay kind d ++ r).drop 5 = lay d.length ++ (d ++ r) := by
    simp [frLay, le4, frBody]
  have e4 : (frLay kind d ++ r).drop 4 = frBody kind d ++ r := by simp [frLay, le4]
  have hr : rd (lay d.length ++ (d ++ r)) = (d.length, (lay d.length).length, 0) := rd_lay _ (by omega) _
  have hE : pcE (lay d.length ++ (d ++ r)) 2000 = 0 := by
    unfold pcE
    rw [hr]
    simp only
    rw [if_neg (by simp), if_neg (by omega), if_neg (by simp only [List.length_append]; omega)]
  have hK : pcK (lay d.length ++ (d ++ r)) 2000 = (lay d.length).length + d.length := by unfold pcK; rw [if_pos hE, hr]
  have hD : pcD (lay d.length ++ (d ++ r)) 2000 = d := by unfold pcD; rw [if_pos hE, hr]; simp
  have hb : (frBody kind d).length = 1 + ((lay d.length).length + d.length) := by simp [frBody]; omega
  have hln : (frLay kind d).length = 5 + ((lay d.length).length + d.length) := by simp [frLay, le4, hb]; omega
  have h0 : frE (frLay kind d ++ r) = 0 := by
    unfold frE
    rw [e5, e4, hE, hK, if_neg (by simp only [List.length_append]; omega), if_neg (by simp), if_neg]
    rw [← hb, List.take_left]
    have : rd4 (frLay kind d ++ r) = crc (frBody kind d) := by
      unfold frLay
      rw [List.append_assoc]
      exact rd4_le4 _ (crc_lt _) _
    rw [this]; simp
  refine ⟨h0, ?_, ?_, ?_⟩
  · unfold frK; rw [if_pos h0, e5, hK, hln]
  · unfold frKind; rw [if_pos h0]; simp [frLay, le4, frBody]
  · unfold frD; rw [if_pos h0, e5, hD]
end Go.Proofs.Ythjcdibblhcgpaa

/-
  DERIVED. What a node is told as is read as that node, plainly.
-/
namespace Go.Proofs.Ythjcdibblhcgpaa
open Go.RowKit
set_option linter.unusedVariables false

def layNs (xs : List Nat) : List UInt8 := xs.flatMap lay
theorem nums_lay : ∀ (xs : List Nat) (r : List UInt8), (∀ x ∈ xs, x ≤ 32768) → nums xs.length (layNs xs ++ r) = some (xs, r)
  | [], r, _ => by simp [nums, layNs]
  | x :: xs, r, h => by
    have hx := h x (List.mem_cons_self ..)
    have ih := nums_lay xs r fun y hy => h y (List.mem_cons_of_mem _ hy)
    have e : layNs (x :: xs) ++ r = lay x ++ (layNs xs ++ r) := by simp [layNs]
    have hrd := rd_lay x (by omega) (layNs xs ++ r)
    rw [e, List.length_cons, nums, hrd]
    simp only
    rw [if_pos ⟨by first | rfl | trivial, hx⟩, List.drop_left, ih]
    rfl
def flatX (X : List (Nat × Nat)) : List Nat := X.flatMap fun x => [x.1, x.2]
theorem flatX_cons (x : Nat × Nat) (X : List (Nat × Nat)) : flatX (x :: X) = x.1 :: x.2 :: flatX X := by simp [flatX]
theorem flatX_len : ∀ X : List (Nat × Nat), (flatX X).length = 2 * X.length
  | [] => rfl
  | x :: X => by rw [flatX_cons, List.length_cons, List.length_cons, flatX_len X, List.length_cons]; omega
theorem layNs_flat : ∀ X : List (Nat × Nat), layNs (flatX X) = layR X
  | [] => rfl
  | x :: X => by
    have ih := layNs_flat X
    unfold layNs at ih ⊢
    rw [flatX_cons, List.flatMap_cons, List.flatMap_cons, ih]
    simp [layR]
theorem pairs_flat : ∀ X : List (Nat × Nat), pairs (flatX X) = X
  | [] => rfl
  | x :: X => by rw [flatX_cons, pairs, pairs_flat X]
theorem flatX_mem {X : List (Nat × Nat)} (h : ∀ x ∈ X, x.1 + x.2 ≤ 512) : ∀ y ∈ flatX X, y ≤ 32768 := by
  intro y hy
  unfold flatX at hy
  rw [List.mem_flatMap] at hy
  obtain ⟨x, hx, hy⟩ := hy
  have := h x hx
  rcases List.mem_cons.1 hy with rfl | hy
  · omega
  · rcases List.mem_cons.1 hy with rfl | hy
    · omega
    · cases hy
theorem prt_tell (n : Nat) (L : List Nat) (r : List UInt8) (hn : n ≤ 32768) (hl : L.length = bf n) (hw : low L) : prt (tellN n L ++ r) = some (n, canon L, r) := by
  have hb := bf_le hn
  have hc := canon_len L
  have e : tellN n L ++ r = layNs [n, (canon L).length] ++ (layR (canon L) ++ r) := by simp [tellN, layNs]
  have h1 := nums_lay [n, (canon L).length] (layR (canon L) ++ r) (fun x hx => by
    rcases List.mem_cons.1 hx with rfl | hx
    · exact hn
    · rcases List.mem_cons.1 hx with rfl | hx
      · omega
      · cases hx)
  have h2 := nums_lay (flatX (canon L)) r (flatX_mem fun x hx => ((low_canon hw) x hx).2)
  rw [flatX_len, layNs_flat] at h2
  unfold prt
  rw [e]
  rw [show ([n, (canon L).length] : List Nat).length = 2 from rfl] at h1
  rw [h1]
  simp only
  rw [show 2 * [n, (canon L).length].getD 1 0 = 2 * (canon L).length from rfl, h2]
  simp [pairs_flat]
theorem rdN_tell (n : Nat) (L : List Nat) (r : List UInt8) (hn : n ≤ 32768) (hl : L.length = bf n) (hw : low L) : rdN (tellN n L ++ r) = some (n, L, (tellN n L).length) := by
  unfold rdN
  rw [prt_tell n L r hn hl hw]
  simp only
  rw [bks_canon, if_pos ⟨okL_of _ (fun y hy => low_canon hw y hy) _ (by rw [tot_canon, hl]), List.take_left⟩]
end Go.Proofs.Ythjcdibblhcgpaa

/-
  DERIVED. How bytes that came in are opened, and how long they may be.
-/
namespace Go.Proofs.Ythjcdibblhcgpaa
open Go.ChangeShapes Go.WideShapes Go.ChangeAt Go.RowKit
set_option linter.unusedVariables false

theorem nil_sl (w : World) : Sl w (.slice none 0 0) [] := ⟨none, 0, rfl, by simp, by simp [maxLen], fun h => absurd rfl h⟩
theorem Try.bytes5 : Try.prog.bytesOf 5 = 1 := by kernel_rfl
theorem Try.cells5 : Try.prog.cellsOf 5 = 1 := by kernel_rfl

theorem byte_wf {n : Int} (h : (Lit.int .u8 n).wf = true) : n = ((UInt8.ofNat n.toNat).toNat : Int) := by
  have := bounds_u8 h
  simp only [UInt8.toNat_ofNat']
  omega

theorem open_bytes {H : Type} {enc : TypeId × Value → H} {W : World} {a : Option Addr} {n c : Nat} {d : DataW H} {p : List MemPlace}
    (h : DataW.Trod enc Try.prog W 0 (fun _ => true) true 23 (.slice a n c) d p) :
    ∃ l : List UInt8, Sl W (.slice a n c) l ∧ ((d = .nil ∧ l = []) ∨ ∃ es sp, d = .slice es sp ∧ l.length ≤ es.length + sp.length) := by
  obtain ⟨fuel, hf⟩ := h
  rcases open_ints Try.underlying23 Try.underlying5 Try.cells5 hf with ⟨hcs, hx⟩ | ⟨x, l, cp, zs, hcs, _, hl, hm, hz, hx, hcell, hwz⟩
  · simp [Value.cells] at hcs
    obtain ⟨rfl, rfl, rfl⟩ := hcs
    simp only [Prod.mk.injEq] at hx
    exact ⟨[], nil_sl W, .inl ⟨hx.1, rfl⟩⟩
  · simp [Value.cells] at hcs
    obtain ⟨rfl, rfl, rfl⟩ := hcs
    simp only [Prod.mk.injEq] at hx
    rw [if_pos rfl] at hz
    have hlen : ((zs.take n).map (fun z => UInt8.ofNat z.toNat)).length = n := by simp; omega
    refine ⟨(zs.take n).map (fun z => UInt8.ofNat z.toNat), ⟨some x, c, by rw [hlen], by rw [hlen]; exact hl, hm, fun hc => ?_⟩, .inr ⟨_, _, hx.1, ?_⟩⟩
    · have h0 := hcell 0 (by omega)
      have hsp := World.cell?_spot h0
      obtain ⟨b, off, sp⟩ := x
      have hsp' : sp = none := by
        cases sp with
        | none => rfl
        | some k => simp [Addr.add] at hsp
      subst hsp'
      refine ⟨b, off, rfl, ?_, fun i hi => ?_⟩
      · rw [addr_add] at h0
        exact World.block_lt_of_cell? W ⟨b, off + 0, none⟩ h0
      · have hi' : i < n := by rw [hlen] at hi; exact hi
        have := hcell i (by omega)
        rw [addr_add] at this
        rw [this]
        have hmem : zs.getD i 0 ∈ zs := by
          rw [List.getD_eq_getElem?_getD, List.getElem?_eq_getElem (by omega)]; exact List.getElem_mem _
        have hb := byte_wf (hwz _ hmem)
        have e : ((zs.take n).map (fun z => UInt8.ofNat z.toNat))[i] = UInt8.ofNat (zs.getD i 0).toNat := by
          simp [List.getD_eq_getElem?_getD, List.getElem?_eq_getElem (show i < zs.length by omega)]
        rw [e]
        show _ = some (Value.int .u8 _)
        rw [← hb]
    · rw [hlen]; simp only [lits, List.length_map, List.length_take, List.length_drop]; omega
theorem bulkAll_len {H : Type} : ∀ (l : List (DataW H)), l.length ≤ Rows.uptoBulkAll l
  | [] => by simp
  | d :: r => by
    have h1 : 1 ≤ Rows.uptoBulk d := by
      cases d with
      | lit l => cases l <;> simp [Rows.uptoBulk]
      | nil => simp [Rows.uptoBulk]
      | ptr d => simp [Rows.uptoBulk]
      | slice elems spare => simp [Rows.uptoBulk]
      | agg parts => simp [Rows.uptoBulk]
      | iface t d => simp [Rows.uptoBulk]
      | map entries => simp [Rows.uptoBulk]
      | held h => simp [Rows.uptoBulk]
    have := bulkAll_len r
    simp only [Rows.uptoBulkAll, List.length_cons]; omega

end Go.Proofs.Ythjcdibblhcgpaa
