/-
  DERIVED. How runs, ints and calls that came in are opened.
-/
import Derived.Test.YthjcdibblhcgpaaRows
import Derived.Test.YthjcdibblhcgpaaM1
import Derived.OpenShut
import Derived.ShutString
import Derived.SizedLaws
import Derived.Deep.Slices
import Derived.Deep.Lists
import Derived.Laws.Bits64b
import Derived.Laws.Closers25b
import Derived.Deep.RegionLaw
import Derived.Deep.Cut
import Derived.Deep.CutRange
namespace Go.Proofs.Ythjcdibblhcgpaa
open Go.ChangeShapes Go.WideShapes Go.ChangeAt Go.RowKit
set_option linter.unusedVariables false

theorem own_knob : ownKnob Try.prog.godebug = none := by kernel_rfl
theorem laid_out : laidOutB Try.prog = true := by kernel_rfl
theorem Try.cellsInt : Try.prog.cellsOf 3 = 1 := by kernel_rfl
theorem Try.cellsRun : Try.prog.cellsOf 36 = 2 := by kernel_rfl
theorem Try.cellsRuns : Try.prog.cellsOf 28 = 1 := by kernel_rfl
theorem Try.underRun : ∃ f0 f1, Try.prog.underlying 36 = some (.struct #[f0, f1]) ∧ (f0.offset = 0 ∧ f1.offset = 1) ∧ f0.type = 3 ∧ f1.type = 3 := ⟨_, _, Try.underlying36, ⟨rfl, rfl⟩, rfl, rfl⟩

set_option maxRecDepth 100000 in
theorem open_runs {H : Type} {enc : TypeId × Value → H} {W : World} {v : Value} {y : DataW H × List MemPlace} {fuel : Nat}
    (hf : DataW.trod enc Try.prog W 0 (fun _ => true) true fuel 28 [v] = some y) : ∃ l : List (Int × Int), Rn W v l := by
  obtain ⟨f0, f1, hu, ⟨o0, o1⟩, t0, t1⟩ := Try.underRun
  rcases Go.Deep.open_slice Try.underlying28 hf with ⟨hcs, hx⟩ | ⟨x, n, cap, m, k, D, Pl, hcs, _, hl, hm, hz, hx, hcell⟩
  · simp at hcs
    subst hcs
    exact ⟨[], none, 0, rfl, by simp, by simp, by simp, fun h => absurd rfl h⟩
  · simp at hcs
    subst hcs
    rw [if_pos rfl] at hz
    subst hz
    unfold maxLen at hm
    have hel : ∀ i, i < n → ∃ e : Int × Int, fits e ∧ W.cell? (x.add (i * 2)) = some (.int .i64 e.1) ∧ W.cell? (x.add (i * 2 + 1)) = some (.int .i64 e.2) := by
      intro i hi
      obtain ⟨cs, q1, q2⟩ := hcell i (by omega)
      rw [Try.cellsRun] at q1
      obtain ⟨_, hlen, hc⟩ := World.cells?_some q1
      match cs, hlen with
      | [c0, c1], _ =>
        obtain ⟨xs, k', _, _, _, hxl, hfl⟩ := DataW.trod_struct hu q2
        match xs, hxl with
        | [x0, x1], _ =>
          have g0 := hfl 0 f0 rfl
          have g1 := hfl 1 f1 rfl
          rw [o0, t0, Try.cellsInt] at g0
          rw [o1, t1, Try.cellsInt] at g1
          obtain ⟨s0, e0, _, w0⟩ := DataW.trod_int Try.underlying3 g0
          obtain ⟨s1, e1, _, w1⟩ := DataW.trod_int Try.underlying3 g1
          simp at e0 e1
          subst e0 e1
          have k0 := hc 0 (by omega)
          have k1 := hc 1 (by omega)
          rw [Go.Deep.add_add] at k0 k1
          have b0 := bounds_i64 w0
          have b1 := bounds_i64 w1
          exact ⟨(s0, s1), ⟨by simp only; omega, by simp only; omega, by simp only; omega, by simp only; omega⟩, k0, k1⟩
    obtain ⟨F, hF⟩ := Go.Deep.choose_lt (α := Int × Int) hel
    have hlen : ((List.range n).map F).length = n := by simp
    refine ⟨(List.range n).map F, some x, _, by rw [hlen], by rw [hlen]; omega, by omega, fun y hy => ?_, fun hz => ?_⟩
    · obtain ⟨i, hi, rfl⟩ := List.mem_map.1 hy
      exact (hF i (List.mem_range.1 hi)).1
    · rw [hlen] at hz
      have h0 := (hF 0 (by omega)).2.1
      have hsp := World.cell?_spot h0
      obtain ⟨b, off, sp⟩ := x
      have hsp' : sp = none := by
        cases sp with
        | none => rfl
        | some k => simp [Addr.add] at hsp
      subst hsp'
      refine ⟨b, off, rfl, ?_, fun i hi => ?_⟩
      · rw [addr_add] at h0
        exact World.block_lt_of_cell? W ⟨b, off + 0 * 2, none⟩ h0
      · have hi' : i < n := by rw [hlen] at hi; exact hi
        obtain ⟨_, q0, q1⟩ := hF i hi'
        rw [addr_add] at q0 q1
        have e : ((List.range n).map F)[i] = F i := by simp
        rw [e]
        simp only [← Nat.add_assoc] at q1
        exact ⟨q0, q1⟩

/-- A slice of numbers. -/
def Ints (w : World) (v : Value) (l : List Int) : Prop :=
  ∃ ao cap, v = .slice ao l.length cap ∧ l.length ≤ 9223372036854775807 ∧ (∀ x ∈ l, I64 x) ∧ (l ≠ [] → ∃ pb off, ao = some ⟨pb, off, none⟩ ∧ pb < w.heap.size ∧ ∀ i, (h : i < l.length) → w.cell? ⟨pb, off + i, none⟩ = some (.int .i64 l[i]))
theorem open_intl {H : Type} {enc : TypeId × Value → H} {W : World} {a : Option Addr} {n c : Nat} {d : DataW H} {p : List MemPlace}
    (h : DataW.Trod enc Try.prog W 0 (fun _ => true) true 50 (.slice a n c) d p) : ∃ l : List Int, Ints W (.slice a n c) l := by
  obtain ⟨fuel, hf⟩ := h
  rcases open_ints Try.underlying50 Try.underlying3 Try.cellsInt hf with ⟨hcs, hx⟩ | ⟨x, l, cp, zs, hcs, _, hl, hm, hz, hx, hcell, hwz⟩
  · simp [Value.cells] at hcs
    obtain ⟨rfl, rfl, rfl⟩ := hcs
    exact ⟨[], none, 0, rfl, by simp, by simp, fun h => absurd rfl h⟩
  · simp [Value.cells] at hcs
    obtain ⟨rfl, rfl, rfl⟩ := hcs
    rw [if_pos rfl] at hz
    unfold maxLen at hm
    have hlen : (zs.take n).length = n := by simp; omega
    refine ⟨zs.take n, some x, c, by rw [hlen], by rw [hlen]; omega, fun y hy => ?_, fun hne => ?_⟩
    · have := bounds_i64 (hwz y (List.mem_of_mem_take hy)); exact ⟨by omega, by omega⟩
    · have hn0 : 0 < n := by rw [← hlen]; exact List.length_pos_iff.2 hne
      have h0 := hcell 0 (by omega)
      have hsp := World.cell?_spot h0
      obtain ⟨b, off, sp⟩ := x
      have hsp' : sp = none := by
        cases sp with
        | none => rfl
        | some k => simp [Addr.add] at hsp
      subst hsp'
      refine ⟨b, off, rfl, ?_, fun i hi => ?_⟩
      · rw [addr_add] at h0
        exact World.block_lt_of_cell? W ⟨b, off + 0, none⟩ h0
      · have hi' : i < n := by rw [hlen] at hi; exact hi
        have := hcell i (by omega)
        rw [addr_add] at this
        rw [this]
        simp [List.getD_eq_getElem?_getD, List.getElem?_eq_getElem (show i < zs.length by omega)]

/-- A call, as it reads. -/
structure ICl where
  kind : Int
  n : Int
  l : List (Int × Int)
  two : Bool
instance : Inhabited ICl := ⟨⟨0, 0, [], false⟩⟩
theorem Try.cellsICall : Try.prog.cellsOf 30 = 4 := by kernel_rfl
theorem Try.cellsBool : Try.prog.cellsOf 4 = 1 := by kernel_rfl
theorem Try.underICall : ∃ f0 f1 f2 f3, Try.prog.underlying 30 = some (.struct #[f0, f1, f2, f3]) ∧ (f0.offset = 0 ∧ f1.offset = 1 ∧ f2.offset = 2 ∧ f3.offset = 3) ∧ f0.type = 3 ∧ f1.type = 3 ∧ f2.type = 28 ∧ f3.type = 4 := ⟨_, _, _, _, Try.underlying30, ⟨rfl, rfl, rfl, rfl⟩, rfl, rfl, rfl, rfl⟩
structure IClAt (w : World) (b o : Nat) (c : ICl) : Prop where
  c0 : w.cell? ⟨b, o, none⟩ = some (.int .i64 c.kind)
  c1 : w.cell? ⟨b, o + 1, none⟩ = some (.int .i64 c.n)
  c2 : ∃ v, w.cell? ⟨b, o + 2, none⟩ = some v ∧ Rn w v c.l
  c3 : w.cell? ⟨b, o + 3, none⟩ = some (.bool c.two)
  i0 : I64 c.kind
  i1 : I64 c.n
/-- A slice of calls. -/
def IClL (w : World) (v : Value) (l : List ICl) : Prop :=
  ∃ ao cap, v = .slice ao l.length cap ∧ l.length ≤ 9223372036854775807 ∧ (0 < l.length → ∃ b off, ao = some ⟨b, off, none⟩ ∧ b < w.heap.size ∧ ∀ i, (h : i < l.length) → IClAt w b (off + i * 4) l[i])
theorem IClAt.kept {w w' : World} {b o : Nat} {c : ICl} (h : IClAt w b o c) (hg : w.grownBy w' none) : IClAt w' b o c :=
  { c0 := hg.cell h.c0 (by simp), c1 := hg.cell h.c1 (by simp)
    c2 := by obtain ⟨v, h1, h2⟩ := h.c2; exact ⟨v, hg.cell h1 (by simp), h2.kept hg⟩
    c3 := hg.cell h.c3 (by simp)
    i0 := h.i0, i1 := h.i1 }
theorem IClL.at {w : World} {ao : Option Addr} {n cap : Nat} {l : List ICl} (h : IClL w (.slice ao n cap) l) {i : Nat} (hi : i < l.length) : ∃ b off, ao = some ⟨b, off, none⟩ ∧ IClAt w b (off + i * 4) l[i] := by
  obtain ⟨ao', cap', e, _, h4⟩ := h
  cases e
  obtain ⟨b, off, e2, _, h5⟩ := h4 (by omega)
  exact ⟨b, off, e2, h5 i hi⟩

set_option maxRecDepth 100000 in
theorem open_icalls {H : Type} {enc : TypeId × Value → H} {W : World} {a : Option Addr} {n c : Nat} {d : DataW H} {p : List MemPlace}
    (h : DataW.Trod enc Try.prog W 0 (fun _ => true) true 22 (.slice a n c) d p) : ∃ l : List ICl, IClL W (.slice a n c) l := by
  obtain ⟨fuel, hf⟩ := h
  obtain ⟨f0, f1, f2, f3, hu, ⟨o0, o1, o2, o3⟩, t0, t1, t2, t3⟩ := Try.underICall
  rcases Go.Deep.open_slice Try.underlying22 hf with ⟨hcs, hx⟩ | ⟨x, n', cap, m, k, D, Pl, hcs, _, hl, hm, hz, hx, hcell⟩
  · simp [Value.cells] at hcs
    obtain ⟨rfl, rfl, rfl⟩ := hcs
    exact ⟨[], none, 0, rfl, by simp, fun h => by simp at h⟩
  · simp [Value.cells] at hcs
    obtain ⟨rfl, rfl, rfl⟩ := hcs
    rw [if_pos rfl] at hz
    subst hz
    unfold maxLen at hm
    have hel : ∀ i, i < n → ∃ e : ICl, I64 e.kind ∧ I64 e.n ∧ W.cell? (x.add (i * 4)) = some (.int .i64 e.kind) ∧ W.cell? (x.add (i * 4 + 1)) = some (.int .i64 e.n) ∧ (∃ v, W.cell? (x.add (i * 4 + 2)) = some v ∧ Rn W v e.l) ∧ W.cell? (x.add (i * 4 + 3)) = some (.bool e.two) := by
      intro i hi
      obtain ⟨cs, q1, q2⟩ := hcell i (by omega)
      rw [Try.cellsICall] at q1
      obtain ⟨_, hlen, hc⟩ := World.cells?_some q1
      match cs, hlen with
      | [c0, c1, c2, c3], _ =>
        obtain ⟨xs, k', _, _, _, hxl, hfl⟩ := DataW.trod_struct hu q2
        match xs, hxl with
        | [x0, x1, x2, x3], _ =>
          have g0 := hfl 0 f0 rfl
          have g1 := hfl 1 f1 rfl
          have g2 := hfl 2 f2 rfl
          have g3 := hfl 3 f3 rfl
          rw [o0, t0, Try.cellsInt] at g0
          rw [o1, t1, Try.cellsInt] at g1
          rw [o2, t2, Try.cellsRuns] at g2
          rw [o3, t3, Try.cellsBool] at g3
          obtain ⟨s0, e0, _, w0⟩ := DataW.trod_int Try.underlying3 g0
          obtain ⟨s1, e1, _, w1⟩ := DataW.trod_int Try.underlying3 g1
          obtain ⟨s3, e3, _⟩ := DataW.trod_bool Try.underlying4 g3
          simp at e0 e1 e3
          subst e0 e1 e3
          simp at g2
          obtain ⟨l2, h2⟩ := open_runs g2
          have k0 := hc 0 (by omega)
          have k1 := hc 1 (by omega)
          have k2 := hc 2 (by omega)
          have k3 := hc 3 (by omega)
          rw [Go.Deep.add_add] at k0 k1 k2 k3
          have b0 := bounds_i64 w0
          have b1 := bounds_i64 w1
          exact ⟨⟨s0, s1, l2, s3⟩, ⟨by simp only; omega, by simp only; omega⟩, ⟨by simp only; omega, by simp only; omega⟩, k0, k1, ⟨c2, k2, h2⟩, k3⟩
    obtain ⟨F, hF⟩ := Go.Deep.choose_lt (α := ICl) hel
    have hlen : ((List.range n).map F).length = n := by simp
    refine ⟨(List.range n).map F, some x, _, by rw [hlen], by rw [hlen]; omega, fun hz => ?_⟩
    rw [hlen] at hz
    have h0 := (hF 0 (by omega)).2.2.1
    have hsp := World.cell?_spot h0
    obtain ⟨b, off, sp⟩ := x
    have hsp' : sp = none := by
      cases sp with
      | none => rfl
      | some k => simp [Addr.add] at hsp
    subst hsp'
    refine ⟨b, off, rfl, ?_, fun i hi => ?_⟩
    · rw [addr_add] at h0
      exact World.block_lt_of_cell? W ⟨b, off + 0 * 4, none⟩ h0
    · have hi' : i < n := by rw [hlen] at hi; exact hi
      obtain ⟨j0, j1, q0, q1, ⟨v, q2, q3⟩, q4⟩ := hF i hi'
      rw [addr_add] at q0 q1 q2 q4
      have e : ((List.range n).map F)[i] = F i := by simp
      rw [e]
      simp only [← Nat.add_assoc] at q1 q2 q4
      exact { c0 := q0, c1 := q1, c2 := ⟨v, q2, q3⟩, c3 := q4, i0 := j0, i1 := j1 }
end Go.Proofs.Ythjcdibblhcgpaa

/-
  DERIVED. The law's 'grown': a node that was extended by some sizes, and its blocks in a slice of ints.
-/
namespace Go.Proofs.Ythjcdibblhcgpaa
open Go.RowKit
set_option linter.unusedVariables false

theorem Try.infoInt : (Try.prog.info? 3).map (fun i => (i.zero, i.size, i.bytes)) = some (some (.int .i64 0), 1, 8) := by kernel_rfl
abbrev nv (n : Nat) : Value := .int .i64 (n : Int)
/-- A slice of numbers of one's own. -/
def NOwn (w : World) (base : Nat) (v : Value) (L : List Nat) : Prop := w.ownsRow base 3 1 v L.length (L.map nv)
theorem NOwn.nil (w : World) (base : Nat) : NOwn w base (.slice none 0 0) [] := World.ownsRow_nil w _ _ _
theorem NOwn.kept {W W' : World} {base : Nat} {v : Value} {xs : List Nat} {row : Option Nat} (h : NOwn W base v xs) (hg : W.grownBy W' row) (hne : ∀ q, v.ownBlock = some q → some q ≠ row) : NOwn W' base v xs := by
  obtain ⟨h1, h2⟩ := h
  refine ⟨h1, ?_⟩
  rcases h2 with h2 | ⟨g, cap, cur, rfl, hb, hgb, r⟩
  · exact .inl h2
  · exact .inr ⟨g, cap, cur, rfl, hb, (hg.block g (lt_of_block hgb) (hne g rfl)).trans hgb, r⟩
theorem NOwn.grown {W W' : World} {base : Nat} {v : Value} {xs : List Nat} (h : NOwn W base v xs) (hg : W.grownBy W' none) : NOwn W' base v xs := h.kept hg (fun q _ e => by cases e)
theorem NOwn.row {W : World} {base : Nat} {v : Value} {xs : List Nat} (h : NOwn W base v xs) {q : Nat} (hq : v.ownBlock = some q) : base ≤ q ∧ ∃ cur, W.heap[q]? = some (.cells cur 3 (0, 0)) := by
  rcases h.2 with ⟨rfl, _⟩ | ⟨g, cap, cur, rfl, hb, hg, r⟩
  · cases hq
  · cases hq; exact ⟨hb, cur, hg⟩
theorem NOwn.ne {W : World} {base : Nat} {v : Value} {xs : List Nat} (h : NOwn W base v xs) {q j : Nat} {C : Array Value} {t : TypeId} {fr : Nat × Nat} (hq : v.ownBlock = some q) (hj : W.heap[j]? = some (.cells C t fr)) (ht : t ≠ 3) : q ≠ j := by
  rintro rfl
  obtain ⟨_, cur, hc⟩ := h.row hq
  rw [hc] at hj
  cases hj
  exact ht rfl
theorem NOwn.form {w : World} {base : Nat} {v : Value} {xs : List Nat} (h : NOwn w base v xs) : ∃ ao cap, v = .slice ao xs.length cap ∧ xs.length ≤ cap ∧ cap ≤ 9223372036854775807 ∧ (xs.length ≠ 0 → ∃ g, ao = some ⟨g, 0, none⟩ ∧ g < w.heap.size ∧ ∀ i, (h : i < xs.length) → w.cell? ⟨g, i, none⟩ = some (.int .i64 (xs[i] : Int))) := by
  rcases h.2 with ⟨rfl, h0⟩ | ⟨g, cap, cur, rfl, hb, hg, hn, hm, hs, ht⟩
  · exact ⟨none, 0, by rw [h0], by omega, by omega, fun h => absurd h0 h⟩
  · refine ⟨some ⟨g, 0, none⟩, cap, rfl, hn, by unfold maxLen at hm; omega, fun _ => ⟨g, rfl, lt_of_block hg, fun i hi => ?_⟩⟩
    have e : (cur.toList.take (xs.length * 1))[i]? = (xs.map nv)[i]? := by rw [ht]
    rw [List.getElem?_take_of_lt (by omega)] at e
    rw [cell_of_row _ _ _ _ _ _ hg]
    simpa [hi] using e
theorem NOwn.far {W W' : World} {base b n : Nat} {u v : Value} {L xs : List Nat} (h : NOwn W base v xs) (hm : NdAt W b n u L) (hg : W.grownBy W' (some b)) : NOwn W' base v xs :=
  h.kept hg (fun q hq e => h.ne hq hm.blk (by decide) (by simpa using e))
/-- A node, where a slice of numbers is appended to. -/
theorem NdAt.ints {W W' : World} {base b n : Nat} {u v : Value} {L xs : List Nat} (hm : NdAt W b n u L) (h : NOwn W base v xs) (hg : W.grownBy W' v.ownBlock) : NdAt W' b n u L := by
  refine ⟨(hg.block b hm.lt (fun e => h.ne e.symm hm.blk (by decide) rfl)).trans hm.blk, hm.runs.kept hg (fun q hq e => ?_), hm.le, hm.len, hm.lw⟩
  obtain ⟨_, cur, hc⟩ := hm.runs.row hq
  exact h.ne e.symm hc (by decide) rfl
theorem ROwn.ints {W W' : World} {base b2 : Nat} {u v : Value} {X : List (Nat × Nat)} {xs : List Nat} (hm : ROwn W b2 u X) (h : NOwn W base v xs) (hg : W.grownBy W' v.ownBlock) : ROwn W' b2 u X :=
  hm.kept hg (fun q hq e => by
    obtain ⟨_, cur, hc⟩ := hm.row hq
    exact h.ne e.symm hc (by decide) rfl)
theorem ROwn.one (w : World) (x1 x2 : Nat) : ROwn (w.alloc (.cells #[.int .i64 (x1 : Int), .int .i64 (x2 : Int)] 36)) w.heap.size (.slice (some ⟨w.heap.size, 0, none⟩) 1 1) [(x1, x2)] :=
  ⟨rfl, .inr ⟨w.heap.size, 1, _, rfl, Nat.le_refl _, heap_alloc_new _ _, by simp, by unfold maxLen; omega, by simp, by simp [rcells]⟩⟩

theorem wpList_append_int {ops : Array Oper} {rest : List Oper} {o : Oper} {a : Act} {w : World} {Q : Exit → Act → World → Prop} (hgd : o.guard = none) (s x : Operand)
    (hop : o.op = Op.call { callee := Callee.builtin Builtin.append, args := #[s, x], argTypes := #[50, 50] }) (base : Nat) (v : Value) (xs : List Nat) (hs : a.eval s = v) (hown : NOwn w base v xs) (hb : base ≤ w.heap.size) (hl : xs.length ≤ 65536) (ad : Addr) (c : Nat) (y : Nat)
    (hx : a.eval x = .slice (some ad) 1 c) (hc : w.cell? ad = some (.int .i64 (y : Int)))
    (hK : ∀ v' w', NOwn w' base v' (xs ++ [y]) → w.grownBy w' v.ownBlock → wpList Try.prog ops Q rest (a.put o.dst v') w') :
    wpList Try.prog ops Q (o :: rest) a w := by
  obtain ⟨i0, hi, hz0, hz1, hz2⟩ := info_parts Try.infoInt
  refine wpList_append_own w hgd s x 50 hop base 3 i0 (.int .i64 0) 1 8 Try.underlying50 hi hz0 hz1 hz2 rfl (by decide) v xs.length (xs.map nv) hs hown ad 1 c [nv y] hx rfl ?_ ?_ (by unfold maxLen; omega) (by omega) hb ?_
  · intro j u hj
    match j with
    | 0 =>
      simp at hj
      subst hj
      simpa [Addr.add] using hc
    | j + 1 => simp at hj
  · intro u hu
    simp at hu
    subst hu
    rfl
  intro v' w' ho' hgr _
  refine hK v' w' ?_ hgr
  unfold NOwn
  rw [List.map_append, List.length_append]
  exact ho'

theorem Ints.kept {w w' : World} {v : Value} {l : List Int} (h : Ints w v l) (hg : w.grownBy w' none) : Ints w' v l := by
  obtain ⟨ao, cap, rfl, h1, h2, h3⟩ := h
  refine ⟨ao, cap, rfl, h1, h2, fun hne => ?_⟩
  obtain ⟨pb, off, e, hp, hc⟩ := h3 hne
  exact ⟨pb, off, e, by have := hg.size; omega, fun i hi => hg.cell (hc i hi) (by simp)⟩
theorem Ints.at {w : World} {ao : Option Addr} {n cap : Nat} {l : List Int} (h : Ints w (.slice ao n cap) l) {i : Nat} (hi : i < l.length) : ∃ b off, ao = some ⟨b, off, none⟩ ∧ w.cell? ⟨b, off + i, none⟩ = some (.int .i64 l[i]) ∧ I64 l[i] := by
  obtain ⟨ao', cap', e, _, h3, h4⟩ := h
  cases e
  obtain ⟨b, off, e2, _, h5⟩ := h4 (by rintro rfl; simp at hi)
  exact ⟨b, off, e2, h5 i hi, h3 _ (List.getElem_mem hi)⟩
theorem range_snoc (a m : Nat) : List.range' a (m + 1) = List.range' a m ++ [a + m] := by
  rw [List.range'_concat, Nat.one_mul]

/-- Where 'grown' stands. -/
structure GSt (w : World) (b i nx n : Nat) (vn vl : Value) (L : List Nat) (W : World) : Prop where
  node : NdAt W b n vn L
  list : NOwn W w.heap.size vl L
  grown : w.grownBy W none
  le : n ≤ 1199 * i
  nxle : nx ≤ L.length + 3 * i

def GPost (w : World) (e : Ending) (w' : World) : Prop := ∃ (b n : Nat) (vn vl : Value) (L : List Nat), e = .returned (.tuple #[.pointer (some ⟨b, 0, none⟩), vl, .bool true]) ∧ w.heap.size ≤ b ∧ NdAt w' b n vn L ∧ NOwn w' w.heap.size vl L ∧ n ≤ 23980 ∧ w.grownBy w' none
end Go.Proofs.Ythjcdibblhcgpaa

/-
  DERIVED. Slices of numbers as they are read; the document's Whole: the runs of a list of blocks.
-/
namespace Go.Proofs.Ythjcdibblhcgpaa
open Go.RowKit
set_option linter.unusedVariables false

/-- A slice that reads as these numbers. -/
def Nr (w : World) (v : Value) (l : List Nat) : Prop :=
  ∃ ao cap, v = .slice ao l.length cap ∧ l.length ≤ cap ∧ cap ≤ 9223372036854775807 ∧ (l.length ≠ 0 → ∃ g off, ao = some ⟨g, off, none⟩ ∧ g < w.heap.size ∧ ∀ i, (h : i < l.length) → w.cell? ⟨g, off + i, none⟩ = some (.int .i64 (l[i] : Int)))
theorem Nr.kept {w w' : World} {v : Value} {l : List Nat} (h : Nr w v l) (hg : w.grownBy w' none) : Nr w' v l := by
  obtain ⟨ao, cap, e, h1, h2, h4⟩ := h
  refine ⟨ao, cap, e, h1, h2, fun hl => ?_⟩
  obtain ⟨g, off, e2, hb, hc⟩ := h4 hl
  exact ⟨g, off, e2, by have := hg.size; omega, fun i hi => hg.cell (hc i hi) (by simp)⟩
theorem NOwn.nr {w : World} {base : Nat} {v : Value} {xs : List Nat} (h : NOwn w base v xs) : Nr w v xs := by
  obtain ⟨ao, cap, e, h1, h2, h4⟩ := h.form
  refine ⟨ao, cap, e, h1, h2, fun hl => ?_⟩
  obtain ⟨g, e2, hb, hc⟩ := h4 hl
  exact ⟨g, 0, e2, hb, fun i hi => by rw [Nat.zero_add]; exact hc i hi⟩

/-- A piece of a slice of numbers of one's own. -/
theorem NOwn.piece {w : World} {base : Nat} {lo : Option Addr} {q cap : Nat} {L : List Nat} (h : NOwn w base (.slice lo q cap) L) (a z : Nat) (haz : a ≤ z) (hz : z ≤ L.length) :
    Nr w (.slice (lo.map fun x => x.add a) (z - a) (cap - a)) ((L.take z).drop a) := by
  obtain ⟨ao, cap', e, h1, h2, h4⟩ := h.form
  injection e with e1 e2 e3
  subst e1 e3
  have hl : ((L.take z).drop a).length = z - a := by rw [List.length_drop, List.length_take]; omega
  refine ⟨_, cap - a, by rw [hl], by rw [hl]; omega, by omega, fun hne => ?_⟩
  rw [hl] at hne
  obtain ⟨g, rfl, hg, hc⟩ := h4 (by omega)
  refine ⟨g, a, by simp [addr_add], hg, fun i hi => ?_⟩
  rw [hl] at hi
  rw [hc (a + i) (by omega)]
  simp

theorem Nr.empty (w : World) (A : Option Addr) (C : Nat) (hC : C ≤ 9223372036854775807) : Nr w (.slice A 0 C) [] := ⟨A, C, rfl, by simp, hC, fun h => absurd rfl h⟩
theorem NOwn.pieces {w : World} {base : Nat} {lo : Option Addr} {q cap : Nat} {L : List Nat} (h : NOwn w base (.slice lo q cap) L) (hq : q = L.length) (a z N C : Nat) (A : Option Addr) (haz : a ≤ z) (hz : z ≤ q) (hqc : q ≤ cap) (hN : N = z - a)
    (hA : (A = lo.map (fun x => x.add a) ∧ C = cap - a) ∨ (a = 0 ∧ A = lo ∧ C = cap) ∨ (cap = a ∧ C ≤ 9223372036854775807)) : Nr w (.slice A N C) ((L.take z).drop a) := by
  subst hN
  rcases hA with ⟨rfl, rfl⟩ | ⟨rfl, rfl, rfl⟩ | ⟨h1, h2⟩
  · exact h.piece a z haz (by omega)
  · have := h.piece 0 z haz (by omega)
    cases A with
    | none => simpa using this
    | some ad => simpa [Addr.add] using this
  · have e : (L.take z).drop a = [] := List.drop_eq_nil_of_le (by rw [List.length_take]; omega)
    rw [e, show z - a = 0 by omega]
    exact Nr.empty w A C h2


theorem canon_take (l : List Nat) (k : Nat) (h : k < l.length) : canon (l.take (k + 1)) = jstep (canon (l.take k)) (l[k], 1) := by rw [List.take_succ_eq_append_getElem h, canon_snoc]
theorem ROwn.at_last' {w : World} {base : Nat} {v : Value} {Z : List (Nat × Nat)} {z : Nat × Nat} (h : ROwn w base v (Z ++ [z])) : ∃ g cap, v = .slice (some ⟨g, 0, none⟩) (Z.length + 1) cap ∧ base ≤ g ∧ g < w.heap.size ∧ Z.length + 1 ≤ cap ∧ cap ≤ 9223372036854775807 ∧ w.cell? ⟨g, Z.length * 2, none⟩ = some (.int .i64 (z.1 : Int)) ∧ w.cell? ⟨g, Z.length * 2 + 1, none⟩ = some (.int .i64 (z.2 : Int)) ∧ (∀ i, w.frozen? ⟨g, i, none⟩ = false) := h.at_last

set_option maxRecDepth 20000 in
set_option maxHeartbeats 2000000 in
theorem Whole_any (w : World) (v : Value) (l : List Nat) (hv : Nr w v l) (hl : low l) (hln : l.length ≤ 10000) :
    Calls Try.prog 45 #[v] w fun e w' => ∃ u, e = .returned u ∧ ROwn w' w.heap.size u (canon l) ∧ w.grownBy w' none := by
  have HV := hide hv
  obtain ⟨ao, cap, rfl, hu1, hu2, _⟩ := hv
  obtain ⟨n, hn⟩ : ∃ n, n = l.length := ⟨_, rfl⟩
  rw [← hn] at hu1 HV hln ⊢
  have HN := hide hn
  have hni : (n : Int) ≤ 10000 := by omega
  clear hn
  go_enter Try.func45, Try.ntmps45
  go_wp2
  go_loopw [3, 4] (fun a i wr => ∃ (k : Nat), i = .int .i64 (k : Int) ∧ k ≤ n ∧ ROwn wr w.heap.size a (canon (l.take k)) ∧ w.grownBy wr none) (fun _ i _ => n - (intOf i).toNat)
  case atStart => exact ⟨0, rfl, by omega, by simpa [canon] using ROwn.nil w w.heap.size, World.grownBy.refl _ _⟩
  case round =>
    obtain ⟨k, rfl, hk, ho, hg⟩ := hrel
    by_cases hlt : k < n
    · have hlt' : (k : Int) < (n : Int) := by omega
      have hkl : k < l.length := by rw [← unhide HN]; exact hlt
      obtain ⟨pb, off, hao, hpb, hc⟩ : ∃ pb off, ao = some ⟨pb, off, none⟩ ∧ pb < wr.heap.size ∧ ∀ i, (h : i < l.length) → wr.cell? ⟨pb, off + i, none⟩ = some (.int .i64 (l[i] : Int)) := by
        obtain ⟨ao', cap', e, _, _, h4⟩ := (unhide HV).kept hg
        injection e with e1 e2 e3
        subst e1
        exact h4 (by omega)
      subst hao
      have c0 := hc k hkl
      have hy := hl l[k] (List.getElem_mem hkl)
      have HJ := hide (canon_take l k hkl)
      have hpre : low (l.take k) := low_take hl k
      have HNm := hide (norm_canon (l.take k))
      have HLw := hide (low_canon hpre)
      have hJl : (canon (l.take k)).length ≤ 20000 := by
        have h1 := canon_len (l.take k)
        have h2 : (l.take k).length ≤ k := by rw [List.length_take]; omega
        omega
      clear hpre
      obtain ⟨J, hJ⟩ : ∃ J, J = canon (l.take k) := ⟨_, rfl⟩
      rw [← hJ] at ho HJ HNm HLw hJl
      obtain ⟨y1, hyk⟩ : ∃ y, y = l[k] := ⟨_, rfl⟩
      rw [← hyk] at c0 hy HJ
      have hyi2 : (y1 : Int) < 512 := by omega
      clear hc hJ hyk hlt
      have HG := hide hg
      have HO := hide ho
      have HSz := hide hg.size
      clear hg ho
      rcases list_snoc J with hJ0 | ⟨Z, z, hJZ⟩
      · subst hJ0
        obtain ⟨ao5, cap5, hu5, _, _, _⟩ := (unhide HO).form
        subst hu5
        simp only [List.length_nil] at HO ⊢
        have hd : decide ((0 : Int) ≤ -1) = false := by decide
        go_wp2_with fail
        go_quiet (fail)
        go_wp2_with (at_builtin; refine wpList_append_run rfl (.tmp 43) (.tmp 49) rfl w.heap.size _ [] rfl ?ho ?hb ?hl ⟨_, 0, none⟩ 1 (y1, 1) rfl ?hc ?_)
        case ho => exact (unhide HO).grown ((grown_drewN' (World.grownBy.refl _ _) _).trans (World.grownBy_alloc _ _ _))
        case hb => have := unhide HSz; simp; omega
        case hl => simp
        case hc => exact one_cells' _ _ _
        intro v' w2 o2 g2
        have o1 : ROwn ((wr.drewN nq).alloc (.cells #[.int .i64 (y1 : Int), .int .i64 1] 36)) w.heap.size (.slice ao5 0 cap5) [] := (unhide HO).grown ((grown_drewN' (World.grownBy.refl _ _) _).trans (World.grownBy_alloc _ _ _))
        have g1 : w.grownBy ((wr.drewN nq).alloc (.cells #[.int .i64 (y1 : Int), .int .i64 1] 36)) none := (grown_drewN' (unhide HG) _).trans (World.grownBy_alloc _ _ _)
        have G2 : Hid (w.grownBy w2 none) := hide (own_step' g1 o1 g2)
        have O2 : Hid (ROwn w2 w.heap.size v' (canon (l.take (k + 1)))) := hide (by rw [unhide HJ]; exact o2)
        clear o1 g1 o2 g2 HO HG
        go_wp2
        go_roundw
        case rel => exact ⟨k + 1, rfl, by omega, unhide O2, unhide G2⟩
        case measure => simp [intOf]; omega
      · subst hJZ
        have hz := unhide HLw z (by simp)
        obtain ⟨g5, cap5, hu5, hb5, hl5, hcp5, hcq5, d0, d1, hfz⟩ := (unhide HO).at_last
        subst hu5
        obtain ⟨z1, z2⟩ := z
        simp only at hz d0 d1
        obtain ⟨hz2, hz1⟩ := hz
        have hqn : Z.length ≤ 20000 := by simp at hJl; omega
        obtain ⟨q, hq⟩ : ∃ q, q = Z.length := ⟨_, rfl⟩
        rw [← hq] at d0 d1 hcp5 HO hqn ⊢
        have HQ := hide hq
        clear hq
        have hqi : (q : Int) ≤ 20000 := by omega
        have hzi : (z1 : Int) + (z2 : Int) ≤ 512 := by omega
        have hzj : (0 : Int) < (z2 : Int) := by omega
        have hd : decide ((0 : Int) ≤ (q : Int)) = true := decide_eq_true (by omega)
        go_wp2_with fail
        by_cases hj : (z1 : Int) + (z2 : Int) = (y1 : Int)
        · have hj' : ((z1 : Int) + (z2 : Int) == (y1 : Int)) = true := beq_iff_eq.2 hj
          have HJ2 : Hid (canon (l.take (k + 1)) = (Z ++ [(z1, z2)]).set q (z1, z2 + 1)) := hide (by
            rw [unhide HJ, show y1 = z1 + z2 by omega, jstep_join, unhide HQ]
            simp)
          have HO2 : Hid (ROwn (wr.setCell ⟨g5, q * 2 + 1, none⟩ (.int .i64 ((z2 : Int) + 1))) w.heap.size (.slice (some ⟨g5, 0, none⟩) (q + 1) cap5) (canon (l.take (k + 1)))) := hide (by
            have h := (unhide HO).set1 q (z2 + 1) (by rw [unhide HQ]; simp)
            have e : (Z ++ [(z1, z2)])[q]'(by rw [unhide HQ]; simp) = (z1, z2) := by simp [unhide HQ]
            rw [e] at h
            rw [unhide HJ2]
            exact h)
          have HG2 : Hid (w.grownBy (wr.setCell ⟨g5, q * 2 + 1, none⟩ (.int .i64 ((z2 : Int) + 1))) none) := hide (own_step (unhide HG) hb5 (setCell_grown _ _ _ _))
          clear HJ2 HO HG HJ
          go_quiet (fail)
          go_wp2
          go_roundw
          case rel => exact ⟨k + 1, rfl, by omega, unhide HO2, ⟨(unhide HG2).os, (unhide HG2).tape, (unhide HG2).output, (unhide HG2).size, (unhide HG2).block⟩⟩
          case measure => simp [intOf]; omega
        · have hj' : ((z1 : Int) + (z2 : Int) == (y1 : Int)) = false := beq_eq_false_iff_ne.2 hj
          have HJ2 : Hid (canon (l.take (k + 1)) = Z ++ [(z1, z2)] ++ [(y1, 1)]) := hide (by
            rw [unhide HJ]
            exact jstep_not _ _ _ (by simp only; omega))
          clear HJ
          go_quiet (fail)
          go_wp2_with (at_builtin; refine wpList_append_run rfl (.tmp 43) (.tmp 49) rfl w.heap.size _ (Z ++ [(z1, z2)]) rfl ?ho ?hb ?hl ⟨_, 0, none⟩ 1 (y1, 1) rfl ?hc ?_)
          case ho => exact (unhide HO).grown ((grown_drewN' (World.grownBy.refl _ _) _).trans (World.grownBy_alloc _ _ _))
          case hb => have := unhide HSz; simp; omega
          case hl => have := unhide HQ; simp; omega
          case hc => exact one_cells' _ _ _
          intro v' w2 o2 g2
          have o1 : ROwn ((wr.drewN nq).alloc (.cells #[.int .i64 (y1 : Int), .int .i64 1] 36)) w.heap.size (.slice (some ⟨g5, 0, none⟩) (q + 1) cap5) (Z ++ [(z1, z2)]) := (unhide HO).grown ((grown_drewN' (World.grownBy.refl _ _) _).trans (World.grownBy_alloc _ _ _))
          have g1 : w.grownBy ((wr.drewN nq).alloc (.cells #[.int .i64 (y1 : Int), .int .i64 1] 36)) none := (grown_drewN' (unhide HG) _).trans (World.grownBy_alloc _ _ _)
          have G2 : Hid (w.grownBy w2 none) := hide (own_step' g1 o1 g2)
          have O2 : Hid (ROwn w2 w.heap.size v' (canon (l.take (k + 1)))) := hide (by rw [unhide HJ2, List.append_assoc]; exact o2)
          clear o1 g1 o2 g2 HO HG d0 d1 hfz
          go_wp2
          go_roundw
          case rel => exact ⟨k + 1, rfl, by omega, unhide O2, unhide G2⟩
          case measure => simp [intOf]; omega
    · have hlt' : ¬ (k : Int) < (n : Int) := by omega
      have HO : Hid (ROwn wr w.heap.size u3 (canon l)) := hide (by
        rw [List.take_of_length_le (by have := unhide HN; omega)] at ho
        exact ho)
      have HG := hide hg
      clear ho hg
      go_wp2
      go_ret
      exact ⟨_, rfl, unhide HO, unhide HG⟩
end Go.Proofs.Ythjcdibblhcgpaa

/-
  DERIVED. The document's node in memory: a length and its blocks, one by one. need, Need, At, Runs.
-/
namespace Go.Proofs.Ythjcdibblhcgpaa
open Go.RowKit
set_option linter.unusedVariables false

structure RdAt (w : World) (b n : Nat) (v : Value) (L : List Nat) : Prop where
  blk : w.heap[b]? = some (.cells #[.int .i64 (n : Int), v] 52 (0, 0))
  list : NOwn w 0 v L
  le : n ≤ 32768
  len : L.length = bf n
  lw : low L
theorem RdAt.lt {w : World} {b n : Nat} {v : Value} {L : List Nat} (h : RdAt w b n v L) : b < w.heap.size := lt_of_block h.blk
theorem RdAt.frozen {w : World} {b n : Nat} {v : Value} {L : List Nat} (h : RdAt w b n v L) (i : Nat) : w.frozen? ⟨b, i, none⟩ = false := by simp [World.frozen?, h.blk]
theorem RdAt.num {w : World} {b n : Nat} {v : Value} {L : List Nat} (h : RdAt w b n v L) : w.cell? ⟨b, 0, none⟩ = some (.int .i64 (n : Int)) := (cell_of_row _ _ _ _ _ _ h.blk).trans rfl
theorem RdAt.val {w : World} {b n : Nat} {v : Value} {L : List Nat} (h : RdAt w b n v L) : w.cell? ⟨b, 1, none⟩ = some v := (cell_of_row _ _ _ _ _ _ h.blk).trans rfl
theorem RdAt.grown {w w' : World} {b n : Nat} {v : Value} {L : List Nat} (h : RdAt w b n v L) (hg : w.grownBy w' none) : RdAt w' b n v L := ⟨(hg.block b h.lt (by simp)).trans h.blk, h.list.grown hg, h.le, h.len, h.lw⟩
theorem RdAt.drewN {w : World} {b n : Nat} {v : Value} {L : List Nat} (h : RdAt w b n v L) (k : Nat) : RdAt (w.drewN k) b n v L := h.grown (grown_drewN' (World.grownBy.refl _ _) k)
theorem RdAt.other {w w' : World} {b n c : Nat} {v : Value} {L : List Nat} (h : RdAt w b n v L) (hg : w.grownBy w' (some c)) (hc : b ≠ c) (hr : ∀ q, v.ownBlock = some q → q ≠ c) : RdAt w' b n v L := ⟨(hg.block b h.lt (by simpa using hc)).trans h.blk, h.list.kept hg (fun q hq e => hr q hq (by simpa using e)), h.le, h.len, h.lw⟩
theorem RdAt.small {w : World} {b n : Nat} {v : Value} {L : List Nat} (h : RdAt w b n v L) : L.length ≤ 64 := by
  have h1 := h.len
  have h2 := bf_le h.le
  omega
/-- One changes, the other stays. -/
theorem RdAt.nodes {w w' : World} {b n c m : Nat} {v u : Value} {L M : List Nat} (h : RdAt w b n v L) (h2 : NdAt w c m u M) (hg : w.grownBy w' (some c)) : RdAt w' b n v L :=
  h.other hg (fun e => by
    have h3 := h.blk
    rw [e, h2.blk] at h3
    injection h3 with h3
    injection h3 with _ h3
    exact absurd h3 (by decide)) (fun q hq => h.list.ne hq h2.blk (by decide))
theorem NdAt.nodes {w w' : World} {b n c m : Nat} {v u : Value} {L M : List Nat} (h : NdAt w b n v L) (h2 : RdAt w c m u M) (hg : w.grownBy w' (some c)) : NdAt w' b n v L :=
  h.other hg (fun e => by
    have h3 := h.blk
    rw [e, h2.blk] at h3
    injection h3 with h3
    injection h3 with _ h3
    exact absurd h3 (by decide)) (fun q hq => h.runs.ne hq h2.blk (by decide))
theorem RdAt.beside {w w' : World} {b n c m : Nat} {v u : Value} {L M : List Nat} (h : RdAt w b n v L) (h2 : RdAt w c m u M) (hg : w.grownBy w' (some c)) (hc : b ≠ c) : RdAt w' b n v L :=
  h.other hg hc (fun q hq => h.list.ne hq h2.blk (by decide))
theorem RdAt.new (w : World) : RdAt (w.alloc (.cells #[.int .i64 0, .slice none 0 0] 52)) w.heap.size 0 (.slice none 0 0) [] := ⟨heap_alloc_new _ _, NOwn.nil _ _, by omega, rfl, fun b hb => by cases hb⟩
theorem RdAt.turned {w : World} {b n m base : Nat} {v u : Value} {L M : List Nat} (h : RdAt w b n v L) (hu : NOwn w base u M) (hm : m ≤ 32768) (hl : M.length = bf m) (hlow : low M) (w' : World) (hb : w'.heap[b]? = some (.cells #[.int .i64 (m : Int), u] 52 (0, 0))) (hg : w.grownBy w' (some b)) : RdAt w' b m u M :=
  ⟨hb, by
    have := hu.kept hg (fun q hq e => hu.ne hq h.blk (by decide) (by simpa using e))
    obtain ⟨h1, h2⟩ := this
    refine ⟨h1, ?_⟩
    rcases h2 with h2 | ⟨g, cap, cur, a, _, c⟩
    · exact .inl h2
    · exact .inr ⟨g, cap, cur, a, Nat.zero_le _, c⟩, hm, hl, hlow⟩

theorem rneed_any (w : World) (n : Nat) (hn : n ≤ 65536) : Calls Try.prog 46 #[.int .i64 (n : Int)] w fun e w' => e = .returned (.int .i64 (bf n : Int)) ∧ w' = w := by
  have h1 : (n : Int) ≤ 65536 := by omega
  by_cases h0 : (0 : Int) < (n : Int) % 512
  · have HE : Hid ((n : Int) / 512 + 1 = (bf n : Int)) := hide (by unfold bf; omega)
    go_enter Try.func46, Try.ntmps46
    go_wp2
    go_ret
    rw [← unhide HE]
    exact ⟨rfl, rfl⟩
  · have HE : Hid ((n : Int) / 512 = (bf n : Int)) := hide (by unfold bf; omega)
    go_enter Try.func46, Try.ntmps46
    go_wp2
    go_ret
    rw [← unhide HE]
    exact ⟨rfl, rfl⟩
theorem rneed_sum (w : World) (n m : Nat) (hn : n + m ≤ 65536) (x : Int) (hx : x = (n : Int) + (m : Int)) : Calls Try.prog 46 #[.int .i64 x] w fun e w' => e = .returned (.int .i64 (bf (n + m) : Int)) ∧ w' = w := by
  subst hx
  exact rneed_any w (n + m) hn

theorem rNeed_ok (w : World) (b n : Nat) (v : Value) (L : List Nat) (h : RdAt w b n v L) (m : Nat) (hm : n + m ≤ 32768) : Calls Try.prog 34 #[.pointer (some ⟨b, 0, none⟩), .int .i64 (m : Int)] w fun e w' => e = .returned (.tuple #[.int .i64 ((bf (n + m) - bf n : Nat) : Int), .int .i64 0]) ∧ w.grownBy w' none := by
  have c0 := h.num
  have h1 : ¬ (m : Int) < 0 := by omega
  have h2 : ¬ ((32768 : Int) - (n : Int) < (m : Int)) := by omega
  have h3 : (n : Int) + (m : Int) ≤ 32768 := by omega
  have h4 : (n : Int) ≤ 32768 := by omega
  have HW : Hid (IntKind.i64.wrap ((n : Int) + (m : Int)) = (n : Int) + (m : Int)) := hide (by rw [IntKind.wrap_i64]; omega)
  have e3 := bf_le hm
  have e4 : bf n ≤ bf (n + m) := by unfold bf; omega
  have e5 : (bf (n + m) : Int) ≤ 64 := by omega
  have e6 : (bf n : Int) ≤ (bf (n + m) : Int) := by omega
  have HS : Hid ((bf (n + m) : Int) - (bf n : Int) = ((bf (n + m) - bf n : Nat) : Int)) := hide (by omega)
  clear h
  go_enter Try.func34, Try.ntmps34
  go_wp2_with fail
  go_quiet (first | (go_at_call 46; exact Calls.quiet_of_same (rneed_sum _ n m (by omega) _ (by first | rfl | exact unhide HW))) | (go_at_call 46; exact Calls.quiet_of_same (rneed_any _ n (by omega))))
  go_wp2
  go_ret2
  refine ⟨congrArg (fun z => Ending.returned (.tuple #[.int .i64 z, .int .i64 0])) ?_, grown_drewN' (World.grownBy.refl _ _) _⟩
  exact unhide HS
theorem rNeed_neg (w : World) (b : Nat) (m : Int) (hm : m < 0) : Calls Try.prog 34 #[.pointer (some ⟨b, 0, none⟩), .int .i64 m] w fun e w' => e = .returned (.tuple #[.int .i64 0, .int .i64 1]) ∧ w' = w := by
  go_enter Try.func34, Try.ntmps34
  go_wp2
  go_ret2
  exact ⟨rfl, rfl⟩
theorem rNeed_far (w : World) (b n : Nat) (v : Value) (L : List Nat) (h : RdAt w b n v L) (m : Int) (hm : 32768 < (n : Int) + m) (h0 : 0 ≤ m) (h9 : m ≤ 9223372036854775807) : Calls Try.prog 34 #[.pointer (some ⟨b, 0, none⟩), .int .i64 m] w fun e w' => e = .returned (.tuple #[.int .i64 0, .int .i64 60]) ∧ w' = w := by
  have c0 := h.num
  have h1 : ¬ m < 0 := by omega
  have h2 : (32768 : Int) - (n : Int) < m := by omega
  have h5 := h.le
  have h4 : (n : Int) ≤ 32768 := by omega
  clear h hm
  go_enter Try.func34, Try.ntmps34
  go_wp2
  go_ret2
  exact ⟨rfl, rfl⟩

theorem rAt_ok (w : World) (b n : Nat) (v : Value) (L : List Nat) (h : RdAt w b n v L) (k : Nat) (hk : k < n) :
    Calls Try.prog 37 #[.pointer (some ⟨b, 0, none⟩), .int .i64 (k : Int)] w fun e w' => ∃ c : Nat, e = .returned (.tuple #[.int .i64 (c : Int), .int .i64 ((k % 512 : Nat) : Int), .int .i64 0]) ∧ L[k / 512]? = some c ∧ w' = w := by
  have c0 := h.num
  have c1 := h.val
  have hle := h.le
  have hkl : k / 512 < L.length := by rw [h.len]; unfold bf; omega
  obtain ⟨ao, cap, rfl, hv1, hv2, hv4⟩ := h.list.form
  obtain ⟨g, rfl, _, hc⟩ := hv4 (by omega)
  have d0 := hc (k / 512) hkl
  have HC : Hid (L[k / 512]? = some L[k / 512]) := hide (List.getElem?_eq_getElem hkl)
  obtain ⟨c, hcc⟩ : ∃ c, c = L[k / 512] := ⟨_, rfl⟩
  rw [← hcc] at d0 HC
  have HC2 := hide hcc.symm
  have hsm := h.small
  clear h hv4 hc hcc
  have h1 : ¬ (k : Int) < 0 := by omega
  have h2 : ¬ (n : Int) ≤ (k : Int) := by omega
  have h3 : (k : Int) ≤ 32768 := by omega
  have d0' : w.cell? ⟨g, ((k : Int) / 512).toNat, none⟩ = some (.int .i64 (c : Int)) := by
    rw [show ((k : Int) / 512).toNat = k / 512 by omega]
    exact d0
  have hkqI : (k : Int) / 512 < (L.length : Int) := by omega
  have hk0 : (0 : Int) ≤ (k : Int) / 512 := by omega
  go_enter Try.func37, Try.ntmps37
  go_wp2
  go_ret3
  exact ⟨c, rfl, by first | exact unhide HC | exact unhide HC2, rfl⟩
theorem rAt_far (w : World) (b n : Nat) (v : Value) (L : List Nat) (h : RdAt w b n v L) (k : Int) (hk : k < 0 ∨ (n : Int) ≤ k) (h9 : k ≤ 9223372036854775807) :
    Calls Try.prog 37 #[.pointer (some ⟨b, 0, none⟩), .int .i64 k] w fun e w' => e = .returned (.tuple #[.int .i64 0, .int .i64 0, .int .i64 60]) ∧ w' = w := by
  have c0 := h.num
  clear h
  by_cases h1 : k < 0
  · clear hk
    go_enter Try.func37, Try.ntmps37
    go_wp2
    go_ret3
    exact ⟨rfl, rfl⟩
  · have h2 : (n : Int) ≤ k := by omega
    clear hk
    go_enter Try.func37, Try.ntmps37
    go_wp2
    go_ret3
    exact ⟨rfl, rfl⟩
theorem rRuns_any (w : World) (b n : Nat) (v : Value) (L : List Nat) (h : RdAt w b n v L) : Calls Try.prog 33 #[.pointer (some ⟨b, 0, none⟩)] w fun e w' => ∃ u, e = .returned u ∧ ROwn w' w.heap.size u (canon L) ∧ w.grownBy w' none := by
  have c1 := h.val
  have H := hide h
  clear h
  go_enter Try.func33, Try.ntmps33
  go_wp2_with fail
  refine (Whole_any w v L (unhide H).list.nr (unhide H).lw (by have := (unhide H).small; omega)).mono ?_
  rintro e w1 ⟨u, rfl, ho, hg⟩
  have HO := hide ho
  have HG := hide hg
  clear ho hg c1
  go_wp2
  go_ret
  exact ⟨u, rfl, unhide HO, unhide HG⟩

/-- An append of numbers to a slice of one's own, of whatever many: none, too. -/
theorem wpList_append_nums {w : World} {ops : Array Oper} {rest : List Oper} {o : Oper} {a : Act} {Q : Exit → Act → World → Prop} (hgd : o.guard = none) (s x : Operand)
    (ho : o.op = .call { callee := .builtin .append, args := #[s, x], argTypes := #[50, 50] })
    (base : Nat) (v : Value) (l : List Nat) (hs : a.eval s = v) (hown : NOwn w base v l)
    (y : Value) (m : List Nat) (hx : a.eval x = y) (hy : Nr w y m) (hne : ∀ c, y = .slice none 0 c → c = 0) (hlen : l.length + m.length ≤ 65536) (hbase : base ≤ w.heap.size)
    (h : ∀ v' w', NOwn w' base v' (l ++ m) → w.grownBy w' v.ownBlock → wpList Try.prog ops Q rest (a.put o.dst v') w') : wpList Try.prog ops Q (o :: rest) a w := by
  obtain ⟨i0, hi, hz0, hz1, hz2⟩ := info_parts Try.infoInt
  obtain ⟨ao, cap, rfl, h1, h2, h4⟩ := hy
  cases ao with
  | none =>
    have hm0 : m = [] := by
      cases m with
      | nil => rfl
      | cons x r => obtain ⟨_, _, e, _⟩ := h4 (by simp); cases e
    subst hm0
    obtain rfl : cap = 0 := hne cap rfl
    refine wpList_append_own_none hgd s x 50 ho base 3 i0 1 Try.underlying50 hi v l.length (l.map nv) hs hown hx ?_
    exact h v w (by simpa using hown) (World.grownBy.refl _ _)
  | some ad =>
    refine wpList_append_own w hgd s x 50 ho base 3 i0 (.int .i64 0) 1 8 Try.underlying50 hi hz0 hz1 hz2 rfl (by decide) v l.length (l.map nv) hs hown ad m.length cap (m.map nv) hx (by simp) ?_ ?_ (by unfold maxLen; omega) (by omega) hbase ?_
    · intro j u hj
      rw [List.getElem?_map] at hj
      by_cases hjl : j < m.length
      · obtain ⟨g, off, e, _, hc⟩ := h4 (by omega)
        cases e
        rw [List.getElem?_eq_getElem hjl] at hj
        simp only [Option.map_some, Option.some.injEq] at hj
        subst hj
        rw [addr_add]
        exact hc j hjl
      · rw [List.getElem?_eq_none (by omega)] at hj
        cases hj
    · intro u hu
      obtain ⟨z, _, rfl⟩ := List.mem_map.1 hu
      rfl
    · intro v' w' ho' hgr _
      refine h v' w' ?_ hgr
      unfold NOwn
      rw [List.map_append, List.length_append]
      exact ho'
theorem nown_empty (w : World) : NOwn (w.alloc (.cells #[] 3)) w.heap.size (.slice (some ⟨w.heap.size, 0, none⟩) 0 0) [] := ⟨rfl, .inr ⟨w.heap.size, 0, #[], rfl, Nat.le_refl _, heap_alloc_new _ _, by simp, by unfold maxLen; omega, by simp, by simp⟩⟩
end Go.Proofs.Ythjcdibblhcgpaa

/-
  DERIVED. The walks of Uint and Int.
-/
namespace Go.Proofs.Ythjcdibblhcgpaa
open Go.RowKit

theorem ret3 {k1 k2 k3 : IntKind} {a a' b b' c c' : Int} (h1 : a = a') (h2 : b = b') (h3 : c = c') : Ending.returned (.tuple #[.int k1 a, .int k2 b, .int k3 c]) = .returned (.tuple #[.int k1 a', .int k2 b', .int k3 c']) := by rw [h1, h2, h3]

theorem and127 (c : UInt8) : bits BinOp.and IntKind.u8 (c.toNat : Int) 127 = ((c.toNat % 128 : Nat) : Int) :=
  beq_iff_eq.1 (byte_all (fun k => bits BinOp.and IntKind.u8 (k : Int) 127 == ((k % 128 : Nat) : Int)) (by decide +kernel) c.toNat c.toNat_lt)

theorem pow_bd (k m : Nat) (hk : k ≤ 8) (hm : m < 128) : m * 2 ^ (7 * k) < 9223372036854775808 := by
  have h : 2 ^ (7 * k) ≤ 2 ^ 56 := Nat.pow_le_pow_right (by decide) (by omega)
  have h2 : m * 2 ^ (7 * k) ≤ 127 * 2 ^ 56 := Nat.mul_le_mul (by omega) h
  omega
theorem pow_bd9 (k m : Nat) (hk : k ≤ 9) (hm : m ≤ 1) : m * 2 ^ (7 * k) ≤ 9223372036854775808 := by
  have h : 2 ^ (7 * k) ≤ 2 ^ 63 := Nat.pow_le_pow_right (by decide) (by omega)
  have h2 : m * 2 ^ (7 * k) ≤ 1 * 2 ^ 63 := Nat.mul_le_mul (by omega) h
  omega
theorem pow9 (k : Nat) (hk : k ≤ 9) : 2 ^ (7 * k) ≤ 9223372036854775808 := Nat.pow_le_pow_right (by decide) (by omega : 7 * k ≤ 63)

theorem orv (k x : Nat) (c : UInt8) (hk : k ≤ 9) (hx : x < 2 ^ (7 * k)) (h : k ≤ 8 ∨ c.toNat ≤ 1) :
    bits BinOp.or IntKind.u64 (x : Int) (IntKind.u64.wrap (IntKind.u64.wrap (bits BinOp.and IntKind.u8 (c.toNat : Int) 127) * 2 ^ (7 * k))) = ((x + c.toNat % 128 * 2 ^ (7 * k) : Nat) : Int) := by
  have hp := pow9 k hk
  have hm : c.toNat % 128 < 128 := Nat.mod_lt _ (by decide)
  have hb : c.toNat % 128 * 2 ^ (7 * k) ≤ 9223372036854775808 := by
    rcases h with h | h
    · have := pow_bd k _ h hm; omega
    · exact pow_bd9 k _ hk (by omega)
  rw [and127]
  have e1 : IntKind.u64.wrap ((c.toNat % 128 : Nat) : Int) = ((c.toNat % 128 : Nat) : Int) := by rw [IntKind.wrap_u64]; omega
  have e2 : ((c.toNat % 128 : Nat) : Int) * 2 ^ (7 * k) = ((c.toNat % 128 * 2 ^ (7 * k) : Nat) : Int) := by rw [Int.natCast_mul, Int.natCast_pow]; rfl
  rw [e1, e2]
  have e3 : IntKind.u64.wrap ((c.toNat % 128 * 2 ^ (7 * k) : Nat) : Int) = ((c.toNat % 128 * 2 ^ (7 * k) : Nat) : Int) := by rw [IntKind.wrap_u64]; omega
  rw [e3, bits_or_u64_nat _ _ (by omega) (by omega)]
  have := Nat.two_pow_add_eq_or_of_lt hx (c.toNat % 128)
  rw [Nat.or_comm, Nat.mul_comm (c.toNat % 128), ← this, Nat.add_comm]

theorem orv_any (x y : Int) : ∃ n : Nat, n ≤ 18446744073709551615 ∧ bits BinOp.or IntKind.u64 x y = (n : Int) := by
  have h1 := bits_lo_u64 .or x y
  have h2 := bits_hi_u64 .or x y
  exact ⟨(bits BinOp.or IntKind.u64 x y).toNat, by omega, by omega⟩

theorem drop_at {l : List UInt8} {k : Nat} (h : k < l.length) : l.drop k = l[k] :: l.drop (k + 1) := List.drop_eq_getElem_cons h

theorem acc_next (k x m : Nat) (hx : x < 2 ^ (7 * k)) (hm : m < 128) : x + m * 2 ^ (7 * k) < 2 ^ (7 * (k + 1)) := by
  have e : 2 ^ (7 * (k + 1)) = 128 * 2 ^ (7 * k) := by rw [Nat.mul_add, Nat.pow_add]; omega
  have h2 : m * 2 ^ (7 * k) ≤ 127 * 2 ^ (7 * k) := Nat.mul_le_mul_right _ (by omega)
  omega

theorem rd_next {l : List UInt8} {k x : Nat} {c : UInt8} (hk : k < 10) (hl : k < l.length) (hc : c = l[k]) (h : rd l = rdGo k x (l.drop k)) (h1 : 128 ≤ c.toNat) : rd l = rdGo (k + 1) (x + c.toNat % 128 * 2 ^ (7 * k)) (l.drop (k + 1)) := by
  rw [h, drop_at hl, ← hc, rdGo, if_neg (by omega), if_pos h1]
theorem rd_bad {l : List UInt8} {k x : Nat} {c : UInt8} (hk : k < 10) (hl : k < l.length) (hc : c = l[k]) (h : rd l = rdGo k x (l.drop k)) (h1 : c.toNat < 128) (h2 : (0 < k ∧ c.toNat = 0) ∨ (k = 9 ∧ 1 < c.toNat)) : rd l = (0, 0, 11) := by
  rw [h, drop_at hl, ← hc, rdGo, if_neg (by omega), if_neg (by omega), if_pos h2]
theorem rd_good {l : List UInt8} {k x : Nat} {c : UInt8} (hk : k < 10) (hl : k < l.length) (hc : c = l[k]) (h : rd l = rdGo k x (l.drop k)) (h1 : c.toNat < 128) (h2 : ¬ ((0 < k ∧ c.toNat = 0) ∨ (k = 9 ∧ 1 < c.toNat))) : rd l = (x + c.toNat % 128 * 2 ^ (7 * k), k + 1, 0) := by
  rw [h, drop_at hl, ← hc, rdGo, if_neg (by omega), if_neg (by omega), if_neg h2, Nat.mod_eq_of_lt h1]
theorem rd_end {l : List UInt8} {k x : Nat} (h : rd l = rdGo k x (l.drop k)) (hk : ¬ (k < 10 ∧ k < l.length)) (hk1 : k ≤ 10) (hk2 : k ≤ l.length) : rd l = (0, 0, if l.length < 10 then 10 else 11) := by
  rw [h]
  by_cases h1 : k < l.length
  · have : k = 10 := by omega
    subst this
    rw [drop_at h1, rdGo, if_pos (by omega), if_neg (by omega)]
  · rw [List.drop_eq_nil_of_le (by omega), rdGo]
    by_cases h2 : k < 10
    · rw [if_pos h2, if_pos (by omega)]
    · rw [if_neg h2, if_neg (by omega)]

set_option maxHeartbeats 2000000 in
set_option maxRecDepth 100000 in
theorem Uint_some (b off cap : Nat) (l : List UInt8) (w : World) (_h1 : l.length ≤ cap) (_h2 : cap ≤ 9223372036854775807)
    (hc : ∀ i, (h : i < l.length) → w.cell? ⟨b, off + i, none⟩ = some (bv l[i])) :
    Calls Try.prog 50 #[.slice (some ⟨b, off, none⟩) l.length cap] w fun e w' => e = .returned (.tuple #[.int .u64 (rd l).1, .int .i64 (rd l).2.1, .int .i64 (rd l).2.2]) ∧ w = w' := by
  go_enter Try.func50, Try.ntmps50
  go_wp2
  all_goals
    go_loop [5, 11] (fun n i => ∃ k x acc : Nat, k ≤ 10 ∧ k ≤ l.length ∧ i = .int .i64 k ∧ n = .int .u64 x ∧ x ≤ 18446744073709551615 ∧ (k ≤ 9 → x = acc) ∧ Hid (acc < 2 ^ (7 * k)) ∧ Hid (rd l = rdGo k acc (l.drop k))) (fun _ i => 10 - (intOf i).toNat)
    case atStart => exact ⟨0, 0, 0, by omega, by omega, rfl, rfl, by omega, fun _ => rfl, hide (by decide), hide rfl⟩
    case round =>
      obtain ⟨k, x, acc, hk1, hk2, rfl, rfl, hx, hxa, hacc, HR⟩ := hrel
      by_cases hk : k < 10 ∧ k < l.length
      · obtain ⟨hk3, hk4⟩ := hk
        obtain rfl := hxa (by omega)
        have hcx := hc k hk4
        obtain ⟨c, hcc⟩ : ∃ c, c = l[k] := ⟨_, rfl⟩
        rw [← hcc] at hcx
        have Hcc := hide hcc
        clear hcc hc hxa
        by_cases hA : 128 ≤ c.toNat
        · go_wp2
          go_round
          case rel =>
            by_cases h8 : k ≤ 8
            · exact ⟨k + 1, x + c.toNat % 128 * 2 ^ (7 * k), _, by omega, by omega, by go_num, by rw [orv k x c (by omega) (unhide hacc) (.inl h8)], by have := pow_bd k _ h8 (Nat.mod_lt c.toNat (by decide : 128 > 0)); have := pow9 k (by omega); have := unhide hacc; omega, fun _ => rfl, hide (acc_next k x _ (unhide hacc) (Nat.mod_lt _ (by decide))), hide (rd_next hk3 hk4 (unhide Hcc) (unhide HR) hA)⟩
            · obtain ⟨n, hn, en⟩ := orv_any (x : Int) (IntKind.u64.wrap (IntKind.u64.wrap (bits BinOp.and IntKind.u8 (c.toNat : Int) 127) * 2 ^ (7 * k)))
              exact ⟨k + 1, n, _, by omega, by omega, by go_num, by rw [en], hn, fun h => by omega, hide (acc_next k x _ (unhide hacc) (Nat.mod_lt _ (by decide))), hide (rd_next hk3 hk4 (unhide Hcc) (unhide HR) hA)⟩
          case measure => simp [intOf]; omega
        · by_cases hB : (0 < k ∧ c.toNat = 0) ∨ (k = 9 ∧ 1 < c.toNat)
          · have hrd := rd_bad hk3 hk4 (unhide Hcc) (unhide HR) (by omega) hB
            have HF : Hid (rd l = (0, 0, 11)) := hide hrd
            clear hrd
            go_wp2
            all_goals first | (exfalso; omega) | skip
            all_goals
              go_ret3
              rw [unhide HF]
              exact ⟨rfl, rfl⟩
          · have HF : Hid (rd l = (x + c.toNat % 128 * 2 ^ (7 * k), k + 1, 0)) := hide (rd_good hk3 hk4 (unhide Hcc) (unhide HR) (by omega) hB)
            have HO : Hid (bits BinOp.or IntKind.u64 (x : Int) (IntKind.u64.wrap (IntKind.u64.wrap (bits BinOp.and IntKind.u8 (c.toNat : Int) 127) * 2 ^ (7 * k))) = ((x + c.toNat % 128 * 2 ^ (7 * k) : Nat) : Int)) := hide (orv k x c (by omega) (unhide hacc) (by omega))
            rcases (show k < 1 ∨ (1 ≤ k ∧ 1 ≤ c.toNat ∧ k ≤ 8) ∨ (1 ≤ k ∧ 1 ≤ c.toNat ∧ 9 ≤ k ∧ c.toNat ≤ 1) from by omega) with hG | ⟨hG1, hG2, hG3⟩ | ⟨hG1, hG2, hG3, hG4⟩
            rotate_left
            all_goals try have hb0 : ((c.toNat : Int) == 0) = false := beq_eq_false_iff_ne.2 (by omega)
            all_goals
              clear hB hx
              go_wp2
              go_ret3
              rw [unhide HF]
              exact ⟨ret3 (unhide HO) (by show _ = ((k + 1 : Nat) : Int); omega) rfl, rfl⟩
      · have HF := hide (rd_end (unhide HR) hk hk1 hk2)
        by_cases hA : k < l.length
        all_goals go_wp2
        all_goals
          go_ret3
          rw [unhide HF]
          exact ⟨ret3 rfl rfl (by show _ = ((if l.length < 10 then 10 else 11 : Nat) : Int); split <;> omega), rfl⟩

theorem Uint_any (v : Value) (l : List UInt8) (w : World) (hv : Sl w v l) :
    Calls Try.prog 50 #[v] w fun e w' => e = .returned (.tuple #[.int .u64 (rd l).1, .int .i64 (rd l).2.1, .int .i64 (rd l).2.2]) ∧ w = w' := by
  rcases hv.cases with ⟨rfl, ao, rfl⟩ | ⟨b, off, cap, rfl, h1, h2, h3, hc⟩
  rotate_left
  · exact Uint_some b off cap l w h1 h2 hc
  · go_enter Try.func50, Try.ntmps50
    go_wp2
    refine wp_loop_rounds 1 ?_
    rw [rounds_succ]
    go_wp2
    go_ret3
    exact ⟨rfl, rfl⟩
end Go.Proofs.Ythjcdibblhcgpaa

/-
  DERIVED. numbers: so many numbers off bytes.
-/
namespace Go.Proofs.Ythjcdibblhcgpaa
open Go.RowKit
set_option linter.unusedVariables false

theorem gr_da (w : World) (o : Obj) : w.grownBy (w.drew.alloc o) none := ⟨rfl, rfl, rfl, by simp, fun k hk _ => Below.heap_alloc w.drew o k hk⟩
theorem gr_ad (w : World) (o : Obj) : w.grownBy ((w.alloc o).drew) none := ⟨rfl, rfl, rfl, by simp, fun k hk _ => Below.heap_alloc w o k hk⟩
theorem gr_d (w : World) : w.grownBy w.drew none := ⟨rfl, rfl, rfl, Nat.le_refl _, fun _ _ _ => rfl⟩
theorem Sl.kept {w w' : World} {v : Value} {l : List UInt8} (h : Sl w v l) (hg : w.grownBy w' none) : Sl w' v l := h.below (below_of_grown hg) (Nat.le_refl _)

/-- An append of a number, as one step of a region that draws. -/
theorem step_append_int {ops : Array Oper} {o : Oper} {a : Act} {w : World} {K : Act → World → Prop} {Q : Exit → Act → World → Prop} {E : Prop}
    (hg : o.guard = none) (s x : Operand) (ho : o.op = .call { callee := .builtin .append, args := #[s, x], argTypes := #[50, 50] })
    (base : Nat) (v : Value) (xs : List Nat) (hs : a.eval s = v) (hown : NOwn w base v xs) (hl : xs.length ≤ 131072) (hbase : base ≤ w.heap.size)
    (ad : Addr) (c y : Nat) (hx : a.eval x = .slice (some ad) 1 c) (hy : w.cell? ad = some (.int .i64 (y : Int)))
    (hK : ∀ v' w', NOwn w' base v' (xs ++ [y]) → w.grownBy w' v.ownBlock → K (a.put o.dst v') w') :
    if Region.wanted o (yielded ops a.tmps) = true then Oper.wp Try.prog o a w K Q else E := by
  have hw : Region.wanted o (yielded ops a.tmps) = true := by simp [Region.wanted, hg]
  rw [if_pos hw]
  obtain ⟨i0, hi, hz0, hz1, hz2⟩ := info_parts Try.infoInt
  obtain ⟨v', w', hrun, r1, r2, _⟩ := run_append_own (P := Try.prog) w base 50 o.type 3 i0 (.int .i64 0) 1 8 Try.underlying50 hi hz0 hz1 hz2 rfl (by decide) v xs.length (xs.map nv) hown ad 1 c [nv y] rfl (fun j u hj => by
    match j with
    | 0 =>
      simp at hj
      subst hj
      simpa [Addr.add] using hy
    | j + 1 => simp at hj) (fun u hu => by
    simp at hu
    subst hu
    rfl) (by unfold maxLen; omega) (by omega) hbase
  unfold Oper.wp
  simp [execOp, ho, resolve, invoke, builtin, hs, hx, hrun, Result.andThen]
  refine hK v' w' ?_ r2
  unfold NOwn
  rw [List.map_append, List.length_append]
  exact r1
/-- An append of a run, as one step of a region that draws. -/
theorem step_append_run {ops : Array Oper} {o : Oper} {a : Act} {w : World} {K : Act → World → Prop} {Q : Exit → Act → World → Prop} {E : Prop}
    (hg : o.guard = none) (s x : Operand) (ho : o.op = .call { callee := .builtin .append, args := #[s, x], argTypes := #[28, 28] })
    (base : Nat) (v : Value) (xs : List (Nat × Nat)) (hs : a.eval s = v) (hown : ROwn w base v xs) (hl : xs.length ≤ 65536) (hbase : base ≤ w.heap.size)
    (ad : Addr) (c : Nat) (y : Nat × Nat) (hx : a.eval x = .slice (some ad) 1 c) (hc : ∀ j u, ([.int .i64 (y.1 : Int), .int .i64 (y.2 : Int)] : List Value)[j]? = some u → w.cell? (ad.add j) = some u)
    (hK : ∀ v' w', ROwn w' base v' (xs ++ [y]) → w.grownBy w' v.ownBlock → K (a.put o.dst v') w') :
    if Region.wanted o (yielded ops a.tmps) = true then Oper.wp Try.prog o a w K Q else E := by
  have hw : Region.wanted o (yielded ops a.tmps) = true := by simp [Region.wanted, hg]
  rw [if_pos hw]
  obtain ⟨v', w', hrun, r1, r2⟩ := run_append_run w base o.type v xs hown hbase hl ad c y hc
  unfold Oper.wp
  simp [execOp, ho, resolve, invoke, builtin, hs, hx, hrun, Result.andThen]
  exact hK v' w' r1 r2

/-- So many numbers off bytes, each at most 32768, and what is behind them. -/
def nums : Nat → List UInt8 → Option (List Nat × List UInt8)
  | 0, l => some ([], l)
  | k + 1, l => if (rd l).2.2 = 0 ∧ (rd l).1 ≤ 32768 then (nums k (l.drop (rd l).2.1)).map (fun p => ((rd l).1 :: p.1, p.2)) else none
theorem nums_len : ∀ (k : Nat) (l : List UInt8) (xs : List Nat) (r : List UInt8), nums k l = some (xs, r) → xs.length = k ∧ ∀ x ∈ xs, x ≤ 32768
  | 0, l, xs, r, h => by
    simp [nums] at h
    obtain ⟨rfl, _⟩ := h
    exact ⟨rfl, fun x hx => by cases hx⟩
  | k + 1, l, xs, r, h => by
    unfold nums at h
    by_cases hc : (rd l).2.2 = 0 ∧ (rd l).1 ≤ 32768
    · rw [if_pos hc] at h
      obtain ⟨p, hp, e⟩ := Option.map_eq_some_iff.1 h
      obtain ⟨ys, r2⟩ := p
      simp only [Prod.mk.injEq] at e
      obtain ⟨rfl, rfl⟩ := e
      obtain ⟨h1, h2⟩ := nums_len k _ ys r2 hp
      refine ⟨by simp [h1], fun x hx => ?_⟩
      rcases List.mem_cons.1 hx with rfl | hx
      · exact hc.2
      · exact h2 x hx
    · rw [if_neg hc] at h
      cases h
def NumPost (w : World) (c : Nat) (l : List UInt8) (e : Ending) (w' : World) : Prop :=
  w.grownBy w' none ∧ ((nums c l = none ∧ e = .returned (.tuple #[.slice none 0 0, .slice none 0 0, .bool false])) ∨ ∃ xs r vx vr, nums c l = some (xs, r) ∧ e = .returned (.tuple #[vx, vr, .bool true]) ∧ NOwn w' w.heap.size vx xs ∧ Sl w' vr r)

set_option maxRecDepth 20000 in
set_option maxHeartbeats 4000000 in
theorem numbers_any (w : World) (v : Value) (l : List UInt8) (c : Nat) (hv : Sl w v l) (hc : c ≤ 65536) :
    Calls Try.prog 41 #[v, .int .i64 (c : Int)] w (NumPost w c l) := by
  have HV := hide hv
  have hcI : (c : Int) ≤ 65536 := by omega
  clear hv
  go_enter Try.func41, Try.ntmps41
  go_wp2
  go_loopw [0, 7, 12] (fun b a i wr => ∃ (k : Nat) (xs : List Nat) (r : List UInt8), i = .int .i64 (k : Int) ∧ k ≤ c ∧ xs.length = k ∧ NOwn wr w.heap.size a xs ∧ Sl w b r ∧ Hid (nums c l = (nums (c - k) r).map (fun p => (xs ++ p.1, p.2))) ∧ w.grownBy wr none) (fun _ _ i _ => c - (intOf i).toNat)
  case atStart => exact ⟨0, [], l, rfl, by omega, rfl, NOwn.nil _ _, unhide HV, hide (by simp), World.grownBy.refl _ _⟩
  case round =>
    obtain ⟨k, xs, r, rfl, hk, hxl, hN, hS, HE, hg⟩ := hrel
    have HN := hide hN
    have HS := hide hS
    have HG := hide hg
    have HXl := hide hxl
    clear hN hg hxl
    by_cases hlt : k < c
    · have hlt' : (k : Int) < (c : Int) := by omega
      have hck : c - k = (c - (k + 1)) + 1 := by omega
      have hrf := rd_facts r
      have HSt : Hid (nums (c - k) r = if (rd r).2.2 = 0 ∧ (rd r).1 ≤ 32768 then (nums (c - (k + 1)) (r.drop (rd r).2.1)).map (fun p => ((rd r).1 :: p.1, p.2)) else none) := hide (by rw [hck]; rfl)
      go_wp2_with fail
      refine (Uint_any _ r wr ((unhide HS).kept (unhide HG))).mono ?_
      rintro e wr' ⟨rfl, rfl⟩
      obtain ⟨⟨N, K, E⟩, hrd⟩ : ∃ t, t = rd r := ⟨_, rfl⟩
      rw [← hrd] at hrf HSt ⊢
      simp only at hrf HSt ⊢
      clear hrd hck
      by_cases hok : E = 0 ∧ N ≤ 32768
      · obtain ⟨hE, hN32⟩ := hok
        subst hE
        have HE2 : Hid (nums c l = (nums (c - (k + 1)) (r.drop K)).map (fun p => ((xs ++ [N]) ++ p.1, p.2))) := hide (by
          rw [unhide HE, unhide HSt, if_pos ⟨rfl, hN32⟩]
          cases nums (c - (k + 1)) (r.drop K) with
          | none => rfl
          | some p => simp)
        have hKl : K ≤ r.length := by omega
        have hNI : (N : Int) ≤ 32768 := by omega
        have HSd : Hid (∀ (ao : Option Addr) (n cap : Nat), u0 = .slice ao n cap → ∀ (A : Option Addr) (m c2 : Nat), m = n - K → c2 = cap - K → (A = ao.map (fun x => x.add K) ∨ c2 = 0) → Sl w (.slice A m c2) (r.drop K)) := hide (by
          rintro ao n cap rfl A m c2 rfl rfl hA
          obtain ⟨ao', cap', e, h1, h2, h4⟩ := unhide HS
          injection e with e1 e2 e3
          subst e1 e2 e3
          refine ⟨A, cap - K, by rw [List.length_drop], by rw [List.length_drop]; omega, by omega, fun hne => ?_⟩
          obtain ⟨b, off, rfl, hb, hcc⟩ := h4 (by omega)
          rcases hA with rfl | h0
          · refine ⟨b, off + K, by simp [addr_add], hb, fun i hi => ?_⟩
            rw [List.length_drop] at hi
            rw [List.getElem_drop]
            rw [Nat.add_assoc]
            exact hcc (K + i) (by omega)
          · omega)
        obtain ⟨ao, cap, hu0, hr1, hr2, _⟩ := unhide HS
        unfold maxLen at hr2
        have HSd2 := hide (unhide HSd ao r.length cap hu0)
        subst hu0
        clear HSd HE HSt HS hrf
        obtain ⟨n, hn⟩ : ∃ n, n = r.length := ⟨_, rfl⟩
        rw [← hn] at hKl hr1 HSd2 ⊢
        clear hn
        have hKI : (K : Int) ≤ (n : Int) := by omega
        have hnI : (n : Int) ≤ (cap : Int) := by omega
        have hcapI : (cap : Int) ≤ 9223372036854775807 := by omega
        have hxl2 : xs.length ≤ 131072 := by have := unhide HXl; omega
        have HSz := hide (unhide HG).size
        go_wp2_with fail
        have HWr : Hid (IntKind.i64.wrap (N : Int) = (N : Int)) := hide (by rw [IntKind.wrap_i64]; omega)
        by_cases hkc : cap = K
        · subst hkc
          go_region_law (first | (refine step_append_int rfl (.tmp 26) (.tmp 29) rfl w.heap.size u7 xs rfl ?own hxl2 ?hb ⟨_, 0, none⟩ 1 N rfl ?hy ?_; (case own => (first | exact (unhide HN).grown (gr_da _ _) | exact (unhide HN).grown (gr_ad _ _))); (case hb => (have h7 := unhide HSz; simp; omega)); (case hy => exact (cell_of_row _ _ _ _ _ _ (heap_alloc_new _ _)).trans (by simp [unhide HWr])); intro v3 w3 o3 g3; have N3 := hide o3; have G3 : Hid (w.grownBy w3 none) := hide (by first | exact ((unhide HG).trans (gr_ad _ _)).andThen g3 (fun q e => .inl ((unhide HN).row e).1) | exact ((unhide HG).trans (gr_da _ _)).andThen g3 (fun q e => .inl ((unhide HN).row e).1)); clear o3 g3))
          all_goals
            go_wp2
            go_roundw
            case rel => exact ⟨k + 1, xs ++ [N], _, rfl, by omega, by rw [List.length_append, unhide HXl]; rfl, unhide N3, unhide HSd2 _ _ _ (by omega) (by omega) (.inr rfl), HE2, unhide G3⟩
            case measure => simp [intOf]; omega
        · go_region_law (first | (refine step_append_int rfl (.tmp 26) (.tmp 29) rfl w.heap.size u7 xs rfl ?own hxl2 ?hb ⟨_, 0, none⟩ 1 N rfl ?hy ?_; (case own => (first | exact (unhide HN).grown (gr_da _ _) | exact (unhide HN).grown (gr_ad _ _))); (case hb => (have h7 := unhide HSz; simp; omega)); (case hy => exact (cell_of_row _ _ _ _ _ _ (heap_alloc_new _ _)).trans (by simp [unhide HWr])); intro v3 w3 o3 g3; have N3 := hide o3; have G3 : Hid (w.grownBy w3 none) := hide (by first | exact ((unhide HG).trans (gr_ad _ _)).andThen g3 (fun q e => .inl ((unhide HN).row e).1) | exact ((unhide HG).trans (gr_da _ _)).andThen g3 (fun q e => .inl ((unhide HN).row e).1)); clear o3 g3))
          all_goals
            go_wp2
            go_roundw
            case rel => exact ⟨k + 1, xs ++ [N], _, rfl, by omega, by rw [List.length_append, unhide HXl]; rfl, unhide N3, unhide HSd2 _ _ _ rfl rfl (.inl rfl), HE2, unhide G3⟩
            case measure => simp [intOf]; omega
      · have HNo : Hid (nums c l = none) := hide (by rw [unhide HE, unhide HSt, if_neg hok]; rfl)
        have hrf1 := hrf.1
        by_cases hE : E = 0
        · have hN32 : (32768 : Int) < (N : Int) := by omega
          subst hE
          clear hok hrf
          go_wp2
          go_ret3
          exact ⟨unhide HG, .inl ⟨unhide HNo, rfl⟩⟩
        · have hE' : ¬ (E : Int) = 0 := by omega
          clear hok hrf
          go_wp2
          go_ret3
          exact ⟨unhide HG, .inl ⟨unhide HNo, rfl⟩⟩
    · have hlt' : ¬ (k : Int) < (c : Int) := by omega
      have HF : Hid (nums c l = some (xs, r)) := hide (by
        rw [unhide HE, show c - k = 0 by omega]
        simp [nums])
      go_wp2
      go_ret3
      exact ⟨unhide HG, .inr ⟨xs, r, _, _, unhide HF, rfl, unhide HN, (unhide HS).kept (unhide HG)⟩⟩
end Go.Proofs.Ythjcdibblhcgpaa

/-
  DERIVED. The document's Cut and Copy.
-/
namespace Go.Proofs.Ythjcdibblhcgpaa
open Go.RowKit
set_option linter.unusedVariables false

/-- The first so many of numbers of one's own. -/
theorem NOwn.head {w : World} {base : Nat} {lo : Option Addr} {q cap : Nat} {L : List Nat} (h : NOwn w base (.slice lo q cap) L) (a : Nat) (ha : a ≤ L.length) : Nr w (.slice lo a cap) (L.take a) := by
  obtain ⟨ao, cap', e, h1, h2, h4⟩ := h.form
  injection e with e1 e2 e3
  subst e1 e3
  have hl : (L.take a).length = a := by rw [List.length_take]; omega
  refine ⟨lo, cap, by rw [hl], by rw [hl]; omega, h2, fun hne => ?_⟩
  rw [hl] at hne
  obtain ⟨g, rfl, hg, hc⟩ := h4 (by omega)
  exact ⟨g, 0, rfl, hg, fun i hi => by
    rw [hl] at hi
    rw [Nat.zero_add, hc i (by omega), List.getElem_take]⟩
theorem NOwn.nilcap {w : World} {base : Nat} {lo : Option Addr} {q cap : Nat} {L : List Nat} (h : NOwn w base (.slice lo q cap) L) (hlo : lo = none) : cap = 0 := by
  subst hlo
  rcases h.2 with ⟨e, _⟩ | ⟨g, c, cur, e, _⟩
  · cases e; rfl
  · cases e

theorem rCut_far (w : World) (b n : Nat) (v : Value) (L : List Nat) (h : RdAt w b n v L) (k : Int) (hk : k < 0 ∨ (n : Int) < k) :
    Calls Try.prog 36 #[.pointer (some ⟨b, 0, none⟩), .int .i64 k] w fun e w' => e = .returned (.tuple #[.slice none 0 0, .int .i64 60]) ∧ w' = w := by
  have c0 := h.num
  clear h
  by_cases h1 : k < 0
  · clear hk
    go_enter Try.func36, Try.ntmps36
    go_wp2
    go_ret2
    exact ⟨rfl, rfl⟩
  · have h2 : (n : Int) < k := by omega
    clear hk
    go_enter Try.func36, Try.ntmps36
    go_wp2
    go_ret2
    exact ⟨rfl, rfl⟩

set_option maxRecDepth 20000 in
set_option maxHeartbeats 4000000 in
theorem rCut_ok (w : World) (b n : Nat) (v : Value) (L : List Nat) (h : RdAt w b n v L) (k : Nat) (hk : k ≤ n) :
    Calls Try.prog 36 #[.pointer (some ⟨b, 0, none⟩), .int .i64 (k : Int)] w fun e w' => ∃ a c, e = .returned (.tuple #[c, .int .i64 0]) ∧ RdAt w' b k a (L.take (bf k)) ∧ ROwn w' w.heap.size c (canon (L.drop (bf k))) ∧ w.grownBy w' (some b) := by
  have c0 := h.num
  have c1 := h.val
  have hle := h.le
  have HM := hide h
  have hbk : bf k ≤ L.length := by rw [h.len]; unfold bf; omega
  obtain ⟨lo, cap, hv, hv1, hv2, hv4⟩ := h.list.form
  clear hv4
  subst hv
  have HLn := hide h.list
  have hsm := h.small
  have hn1 : ¬ (k : Int) < 0 := by omega
  have hn2 : ¬ (n : Int) < (k : Int) := by omega
  have hkI : (k : Int) ≤ 32768 := by omega
  clear h
  obtain ⟨q, hq⟩ : ∃ q, q = L.length := ⟨_, rfl⟩
  rw [← hq] at hbk hv1 HLn hsm c1 HM
  have HQ := hide hq
  clear hq
  go_enter Try.func36, Try.ntmps36
  go_wp2_with fail
  refine (rneed_any w k (by omega)).mono ?_
  rintro e w1 ⟨rfl, rfl⟩
  obtain ⟨bt, hbt⟩ : ∃ bt, bt = bf k := ⟨_, rfl⟩
  rw [← hbt] at hbk ⊢
  have HBt := hide hbt
  clear hbt
  have hbI : (bt : Int) ≤ (q : Int) := by omega
  have hqc : (q : Int) ≤ (cap : Int) := by omega
  have hcm : (cap : Int) ≤ 9223372036854775807 := by omega
  have HPc : Hid (∀ (N C : Nat) (A : Option Addr), N = q - bt → (A = lo.map (fun x => x.add bt) ∧ C = cap - bt) ∨ (bt = 0 ∧ A = lo ∧ C = cap) ∨ (cap = bt ∧ C ≤ 9223372036854775807) → Nr w1 (.slice A N C) (L.drop bt)) := hide (fun N C A h1 h2 => by
    have h3 := (unhide HLn).pieces (unhide HQ) bt q N C A hbk (Nat.le_refl _) hv1 h1 h2
    rw [List.take_of_length_le (by rw [← unhide HQ]; exact Nat.le_refl _)] at h3
    exact h3)
  have HDl : Hid ((L.drop bt).length ≤ 10000) := hide (by rw [List.length_drop, ← unhide HQ]; omega)
  have HDw : Hid (low (L.drop bt)) := hide (low_drop (unhide HM).lw bt)
  have fin : ∀ (A : Option Addr) (N C : Nat), Nr w1 (.slice A N C) (L.drop bt) → Calls Try.prog 45 #[.slice A N C] w1 fun e w' => ∃ u, e = .returned u ∧ ROwn w' w1.heap.size u (canon (L.drop bt)) ∧ w1.grownBy w' none := fun A N C h => Whole_any w1 _ _ h (unhide HDw) (unhide HDl)
  have FIN := hide fin
  clear fin
  go_upto_region 4 with fail
  go_cut [7] from 20 to 26 (fun c wx => ROwn wx w1.heap.size c (canon (L.drop bt)) ∧ w1.grownBy wx none)
  case first =>
    have alt : (cap = bt) ∨ (¬ cap = bt ∧ bt = 0) ∨ (¬ cap = bt ∧ ¬ bt = 0) := by omega
    rcases alt with hcb | ⟨hcb, hb0⟩ | ⟨hcb, hb0⟩
    · obtain rfl : q = bt := by omega
      subst hcb
      clear hbI hqc
      go_wp2_with fail
      refine (unhide FIN _ _ _ (unhide HPc _ _ _ (by omega) (.inr (.inr ⟨(by first | rfl | trivial), by omega⟩)))).mono ?_
      rintro e w2 ⟨c2, rfl, o2, g2⟩
      have O2 := hide o2
      have G2 := hide g2
      clear o2 g2
      go_wp2_with fail
      go_meet
      exact ⟨unhide O2, unhide G2⟩
    · subst hb0
      go_wp2_with fail
      refine (unhide FIN _ _ _ (unhide HPc _ _ _ (by omega) (.inr (.inl ⟨(by first | rfl | trivial), rfl, rfl⟩)))).mono ?_
      rintro e w2 ⟨c2, rfl, o2, g2⟩
      have O2 := hide o2
      have G2 := hide g2
      clear o2 g2
      go_wp2_with fail
      go_meet
      exact ⟨unhide O2, unhide G2⟩
    · go_wp2_with fail
      refine (unhide FIN _ _ _ (unhide HPc _ _ _ rfl (.inl ⟨rfl, rfl⟩))).mono ?_
      rintro e w2 ⟨c2, rfl, o2, g2⟩
      have O2 := hide o2
      have G2 := hide g2
      clear o2 g2
      go_wp2_with fail
      go_meet
      exact ⟨unhide O2, unhide G2⟩
  case rest =>
    obtain ⟨o2, g2⟩ := hcut
    have O2 := hide o2
    have G2 := hide g2
    have M2 := hide ((unhide HM).grown g2)
    have L2 := hide ((unhide HLn).grown g2)
    have d1 := (unhide M2).val
    have hbl := (unhide M2).lt
    have d1' := (unhide M2).grown (World.grownBy_alloc wc (.cells #[] 3) none) |>.val
    have HHd : Hid (Nr (wc.alloc (.cells #[] 3)) (.slice lo bt cap) (L.take bt)) := hide (((unhide L2).head bt (by rw [← unhide HQ]; omega)).kept (World.grownBy_alloc _ _ _))
    have HNc : Hid (∀ c, Value.slice lo bt cap = .slice none 0 c → c = 0) := hide (fun c e => by
      injection e with e1 e2 e3
      subst e3
      exact (unhide L2).nilcap e1)
    have HTl : Hid ((L.take bt).length = bt) := hide (by rw [List.length_take, ← unhide HQ]; omega)
    clear o2 g2 c0 c1 FIN HPc
    go_wp2_with (at_builtin; refine wpList_append_nums rfl (.tmp 28) (.tmp 34) rfl wc.heap.size _ [] rfl (nown_empty wc) _ (L.take bt) rfl (unhide HHd) (unhide HNc) (by rw [unhide HTl]; simp; omega) (by simp) ?_)
    intro v3 w3 o3 g3
    have g23 : wc.grownBy w3 none := (World.grownBy_alloc _ _ _).andThen g3 (fun z e => .inl (by cases e; exact Nat.le_refl _))
    have m3 := (unhide M2).grown g23
    have hs1 : w3.grownBy ((w3.setCell ⟨b, 1, none⟩ v3).setCell ⟨b, 0, none⟩ (.int .i64 (k : Int))) (some b) := (setCell_grown _ _ _ _).trans (setCell_grown _ _ _ _)
    have hh1 := heap_setCell_same w3 b 1 _ _ v3 m3.blk
    have hh2 := heap_setCell_same _ b 0 _ _ (.int .i64 (k : Int)) hh1
    have HT : Hid (RdAt ((w3.setCell ⟨b, 1, none⟩ v3).setCell ⟨b, 0, none⟩ (.int .i64 (k : Int))) b k v3 (L.take (bf k))) := hide (m3.turned (by rw [← unhide HBt]; exact o3) (by omega) (by rw [← unhide HBt, unhide HTl]) (low_take m3.lw _) _ hh2 hs1)
    have HOc : Hid (ROwn ((w3.setCell ⟨b, 1, none⟩ v3).setCell ⟨b, 0, none⟩ (.int .i64 (k : Int))) w1.heap.size u7 (canon (L.drop (bf k)))) := hide (by
      rw [← unhide HBt]
      exact ((unhide O2).grown g23).kept hs1 (fun z hz e => ((unhide O2).grown g23).ne hz m3.blk (by decide) (by simpa using e)))
    have HGf : Hid (w1.grownBy ((w3.setCell ⟨b, 1, none⟩ v3).setCell ⟨b, 0, none⟩ (.int .i64 (k : Int))) (some b)) := hide ((((unhide G2).trans g23).but _).trans hs1)
    have f3 := m3.frozen
    have e0 := m3.num
    have e1 := m3.val
    obtain ⟨ao3, cap3, hv3, _⟩ := o3.form
    obtain ⟨n3, hn3⟩ : ∃ n3, v3 = .slice ao3 n3 cap3 := ⟨_, hv3⟩
    clear hv3
    subst hn3
    clear o3 g3 g23 m3 hs1 hh1 hh2 O2 G2 M2 L2 HHd HNc d1 d1' HM HLn
    go_wp2
    go_ret2
    exact ⟨_, _, rfl, unhide HT, unhide HOc, unhide HGf⟩
end Go.Proofs.Ythjcdibblhcgpaa

/-
  DERIVED. The document's PutUint.
-/
namespace Go.Proofs.Ythjcdibblhcgpaa
open Go.RowKit
set_option linter.unusedVariables false

theorem byte_128 (m : Int) (h : 0 ≤ m) : (128 + m % 128) % 256 = ((UInt8.ofNat (128 + m.toNat % 128)).toNat : Int) := by
  simp only [UInt8.toNat_ofNat']
  omega
theorem byte_128' (m : Int) (h : 0 ≤ m) : 128 + m % 128 = ((UInt8.ofNat (128 + m.toNat % 128)).toNat : Int) := by
  simp only [UInt8.toNat_ofNat']
  omega

set_option maxHeartbeats 1000000 in
theorem rPutUint_any (n : Int) (w : World) (hn0 : 0 ≤ n) (hn1 : n ≤ 18446744073709551615) :
    Calls Try.prog 44 #[.int .u64 n] w fun e w' => ∃ v', e = .returned v' ∧ Own w' w.heap.size v' (lay n.toNat) ∧ Below w.heap.size w w' := by
  go_enter Try.func44, Try.ntmps44
  go_wp2
  go_loopw [0, 3] (fun k u wr => ∃ (m : Int) (l' : List UInt8), k = .int .u64 m ∧ 0 ≤ m ∧ m ≤ 18446744073709551615 ∧ Hid (lay n.toNat = l' ++ lay m.toNat) ∧ Own wr w.heap.size u l' ∧ Below w.heap.size w wr) (fun k _ _ => (intOf k).toNat)
  case atStart => exact ⟨n, [], rfl, hn0, hn1, hide (by simp), World.ownsRow_nil _ _ _ _, Below.refl _ _⟩
  case round =>
    obtain ⟨m, l', rfl, hm0, hm1, HL, hown, hbel⟩ := hrel
    have hsz : l'.length + 1 ≤ 10 := by
      have := congrArg List.length (unhide HL)
      have h1 := lay_len n.toNat
      have h2 := lay_len m.toNat
      simp at this
      omega
    have hbs := hbel.size
    by_cases hlt : 128 ≤ m
    · obtain ⟨c, hc⟩ : ∃ c, c = UInt8.ofNat (128 + m.toNat % 128) := ⟨_, rfl⟩
      have Hc : Hid (128 + m % 128 = (c.toNat : Int)) := hide (by rw [hc]; exact byte_128' m hm0)
      have HL2 : Hid (lay n.toNat = (l' ++ [c]) ++ lay (m / 128).toNat) := hide (by
        rw [unhide HL, lay_big (by omega) (by omega), hc]
        have : m.toNat / 128 = (m / 128).toNat := by omega
        simp [this])
      clear hc HL
      go_wp2_with (at_builtin; refine wpList_append_mine rfl (.tmp 6) (.tmp 11) rfl w.heap.size _ l' rfl ?hown _ [c] rfl ?hy ?hlen ?hbase ?_)
      case hown => exact hown.alloc _
      case hy => rw [unhide Hc]; exact Sl.new wr [c] (by simp [maxLen]) (0, 0)
      case hlen => (try simp); omega
      case hbase => (try simp); omega
      intro v' w1 hown1 hb1
      have R : Own w1 w.heap.size v' (l' ++ [c]) := by simpa using hown1
      have hb2 : Below w.heap.size w w1 := (hbel.alloc (by omega) _).trans hb1
      clear hown hown1 hb1 hbel
      go_wp2
      go_roundw
      case rel => exact ⟨m / 128, l' ++ [c], rfl, by omega, by omega, HL2, R, hb2⟩
      case measure => simp [intOf]; omega
    · obtain ⟨c, hc⟩ : ∃ c, c = UInt8.ofNat m.toNat := ⟨_, rfl⟩
      have Hc : Hid (m = (c.toNat : Int)) := hide (by have := byte_of m hm0 (by omega); rw [hc, ← this]; omega)
      have HL2 : Hid (lay n.toNat = l' ++ [c]) := hide (by
        rw [unhide HL, lay_small (by omega), hc])
      clear hc HL
      go_wp2_with (at_builtin; refine wpList_append_mine rfl (.tmp 15) (.tmp 18) rfl w.heap.size _ l' rfl ?hown2 _ [c] rfl ?hy2 ?hlen2 ?hbase2 ?_)
      case hown2 => exact hown.alloc _
      case hy2 => rw [unhide Hc]; exact Sl.new wr [c] (by simp [maxLen]) (0, 0)
      case hlen2 => (try simp); omega
      case hbase2 => (try simp); omega
      intro v' w1 hown1 hb1
      have R : Own w1 w.heap.size v' (lay n.toNat) := by rw [unhide HL2]; simpa using hown1
      have hb2 : Below w.heap.size w w1 := (hbel.alloc (by omega) _).trans hb1
      clear hown hown1 hb1 hbel
      go_wp2
      go_ret
      exact ⟨_, rfl, R, hb2⟩
theorem rPutUint_at (x : Int) (n : Nat) (w : World) (hn : n ≤ 18446744073709551615) (hx : x = n) :
    Calls Try.prog 44 #[.int .u64 x] w fun e w' => ∃ v', e = .returned v' ∧ Own w' w.heap.size v' (lay n) ∧ Below w.heap.size w w' := by
  subst hx
  exact rPutUint_any n w (by omega) (by omega)
end Go.Proofs.Ythjcdibblhcgpaa

/-
  DERIVED. The document's Copy and Bytes.
-/
namespace Go.Proofs.Ythjcdibblhcgpaa
open Go.RowKit
set_option linter.unusedVariables false

/-- An append of numbers, as one step of a region that draws. -/
theorem step_append_nums {ops : Array Oper} {o : Oper} {a : Act} {w : World} {K : Act → World → Prop} {Q : Exit → Act → World → Prop} {E : Prop}
    (hg : o.guard = none) (s x : Operand) (ho : o.op = .call { callee := .builtin .append, args := #[s, x], argTypes := #[50, 50] })
    (base : Nat) (v : Value) (l : List Nat) (hs : a.eval s = v) (hown : NOwn w base v l)
    (ad : Addr) (n c : Nat) (m : List Nat) (hx : a.eval x = .slice (some ad) n c) (hy : Nr w (.slice (some ad) n c) m) (hlen : l.length + m.length ≤ 65536) (hbase : base ≤ w.heap.size)
    (hK : ∀ v' w', NOwn w' base v' (l ++ m) → w.grownBy w' v.ownBlock → K (a.put o.dst v') w') :
    if Region.wanted o (yielded ops a.tmps) = true then Oper.wp Try.prog o a w K Q else E := by
  have hw : Region.wanted o (yielded ops a.tmps) = true := by simp [Region.wanted, hg]
  rw [if_pos hw]
  obtain ⟨i0, hi, hz0, hz1, hz2⟩ := info_parts Try.infoInt
  obtain ⟨ao, cap, e, h1, h2, h4⟩ := hy
  cases e
  obtain ⟨v', w', hrun, r1, r2, _⟩ := run_append_own (P := Try.prog) w base 50 o.type 3 i0 (.int .i64 0) 1 8 Try.underlying50 hi hz0 hz1 hz2 rfl (by decide) v l.length (l.map nv) hown ad m.length c (m.map nv) (by simp) (fun j u hj => by
    rw [List.getElem?_map] at hj
    by_cases hjl : j < m.length
    · obtain ⟨g, off, e, _, hc⟩ := h4 (by omega)
      cases e
      rw [List.getElem?_eq_getElem hjl] at hj
      simp only [Option.map_some, Option.some.injEq] at hj
      subst hj
      rw [addr_add]
      exact hc j hjl
    · rw [List.getElem?_eq_none (by omega)] at hj
      cases hj) (fun u hu => by
    obtain ⟨z, _, rfl⟩ := List.mem_map.1 hu
    rfl) (by unfold maxLen; omega) (by omega) hbase
  unfold Oper.wp
  simp [execOp, ho, resolve, invoke, builtin, hs, hx, hrun, Result.andThen]
  refine hK v' w' ?_ r2
  unfold NOwn
  rw [List.map_append, List.length_append]
  exact r1

def RCopyPost (w : World) (n : Nat) (L : List Nat) (e : Ending) (w' : World) : Prop := ∃ c u, e = .returned (.pointer (some ⟨c, 0, none⟩)) ∧ w.heap.size ≤ c ∧ RdAt w' c n u L ∧ w.grownBy w' none

set_option maxRecDepth 20000 in
set_option maxHeartbeats 2000000 in
theorem rCopy_any (w : World) (b n : Nat) (v : Value) (L : List Nat) (h : RdAt w b n v L) :
    Calls Try.prog 19 #[.pointer (some ⟨b, 0, none⟩)] w (RCopyPost w n L) := by
  have c0 := h.num
  have c1 := h.val
  have HM := hide h
  have hbl := h.lt
  have hsm := h.small
  obtain ⟨lo, cap, hv, hv1, hv2, hv4⟩ := h.list.form
  clear hv4
  subst hv
  have HLn := hide h.list
  clear h
  have c0' : ∀ o, (w.alloc o).cell? ⟨b, 0, none⟩ = some (.int .i64 (n : Int)) := fun o => ((unhide HM).grown (World.grownBy_alloc w o none)).num
  have c1' : ∀ o, (w.alloc o).cell? ⟨b, 1, none⟩ = some (.slice lo L.length cap) := fun o => ((unhide HM).grown (World.grownBy_alloc w o none)).val
  have fin : ∀ (v3 : Value) (w3 : World), NOwn w3 w.heap.size v3 L → w.grownBy w3 none → RCopyPost w n L (.returned (.pointer (some ⟨w3.heap.size, 0, none⟩))) (w3.alloc (.cells #[.int .i64 (n : Int), v3] 52)) := fun v3 w3 o3 g3 => by
    have o4 := o3.grown (World.grownBy_alloc w3 (.cells #[.int .i64 (n : Int), v3] 52) none)
    refine ⟨w3.heap.size, v3, rfl, g3.size, ⟨heap_alloc_new _ _, ?_, (unhide HM).le, (unhide HM).len, (unhide HM).lw⟩, g3.trans (World.grownBy_alloc _ _ _)⟩
    obtain ⟨h1, h2⟩ := o4
    refine ⟨h1, ?_⟩
    rcases h2 with h2 | ⟨g, cap, cur, a, _, c⟩
    · exact .inl h2
    · exact .inr ⟨g, cap, cur, a, Nat.zero_le _, c⟩
  have FIN := hide fin
  clear fin
  cases lo with
  | none =>
    obtain rfl : cap = 0 := (unhide HLn).nilcap rfl
    have hL0 : L = [] := List.eq_nil_of_length_eq_zero (by omega)
    subst hL0
    go_enter Try.func19, Try.ntmps19
    go_wp2_with fail
    go_region
    all_goals go_wp2
    all_goals go_ret
    all_goals
      have h9 := unhide FIN _ ((w.alloc (.cells #[] 3)).drew) ((nown_empty w).grown (gr_d _)) (gr_ad _ _)
      have e9 : (w.alloc (.cells #[] 3)).drew.heap.size = w.heap.size + 1 := World.size_alloc w _
      rw [e9] at h9
      exact h9
  | some ad =>
    go_enter Try.func19, Try.ntmps19
    go_wp2_with fail
    go_region_law (first | (refine step_append_nums rfl (.tmp 7) (.tmp 11) rfl w.heap.size (.slice (some ⟨w.heap.size, 0, none⟩) 0 0) [] rfl ?own ad _ _ L rfl ?sl (by simp; omega) ?hb ?_; (case own => (first | exact (nown_empty w).grown (gr_d _) | exact nown_empty w)); (case sl => (first | exact (unhide HLn).nr.kept (gr_ad _ _) | exact (unhide HLn).nr.kept (gr_da _ _))); (case hb => (simp)); intro v3 w3 o3 g3; have O3 : Hid (NOwn w3 w.heap.size v3 L) := hide o3; have G3 : Hid (w.grownBy w3 none) := hide (by first | exact (gr_ad _ _).andThen g3 (fun q e => by cases e; exact .inl (Nat.le_refl _)) | exact (gr_da _ _).andThen g3 (fun q e => by cases e; exact .inl (Nat.le_refl _))); have d0 : w3.cell? ⟨b, 0, none⟩ = some (.int .i64 (n : Int)) := (unhide G3).cell c0 (by simp); obtain ⟨ao3, cap3, hv3, _⟩ := o3.form; obtain ⟨n3, hn3⟩ : ∃ n3, v3 = .slice ao3 n3 cap3 := ⟨_, hv3⟩; clear hv3; subst hn3; clear o3 g3))
    all_goals go_wp2
    all_goals go_ret
    all_goals exact unhide FIN _ _ (unhide O3) (unhide G3)

set_option maxRecDepth 20000 in
set_option maxHeartbeats 4000000 in
theorem rBytes_any (w : World) (b n : Nat) (v : Value) (L : List Nat) (h : RdAt w b n v L) :
    Calls Try.prog 30 #[.pointer (some ⟨b, 0, none⟩)] w fun e w' => ∃ u, e = .returned u ∧ Own w' w.heap.size u (tellN n L) ∧ w.grownBy w' none := by
  have HM := hide h
  have hni : (n : Int) ≤ 32768 := by have := h.le; omega
  have hn32 := h.le
  have hlow := low_canon h.lw
  have hsm : (canon L).length ≤ 64 := by
    have h1 := canon_len L
    have h2 := h.small
    omega
  have HTL : Hid (tellN n L = lay n ++ lay (canon L).length ++ layR (canon L)) := hide rfl
  clear h
  go_enter Try.func30, Try.ntmps30
  go_wp2_with fail
  refine (rRuns_any w b n v L (unhide HM)).mono ?_
  rintro e w1 ⟨u1, rfl, o1, g1⟩
  have c0 := ((unhide HM).grown g1).num
  have O1 := hide o1
  have G1 := hide g1
  obtain ⟨ao, cap, hu1, hc1, hc2, _⟩ := o1.form
  clear o1 g1
  obtain ⟨X, hX⟩ : ∃ X, X = canon L := ⟨_, rfl⟩
  rw [← hX] at hlow hsm HTL O1 hu1 hc1
  clear hX
  obtain ⟨q, hq⟩ : ∃ q, q = X.length := ⟨_, rfl⟩
  rw [← hq] at hsm HTL hu1 hc1
  subst hu1
  have HQ := hide hq
  have hqI : (q : Int) ≤ 64 := by omega
  clear hq
  go_wp2_with fail
  refine (rPutUint_at _ n w1 (by omega) (by first | rfl | omega)).mono ?_
  rintro e w2 ⟨v2, rfl, o2, b2⟩
  have O2 := hide o2
  have G2 : Hid (w.grownBy w2 none) := hide ((unhide G1).trans (grown_of_below b2))
  have B2 := hide b2
  clear o2 b2 c0
  go_wp2_with fail
  refine (rPutUint_at _ q w2 (by omega) (by first | rfl | omega)).mono ?_
  rintro e w3 ⟨v3, rfl, o3, b3⟩
  have S3 := hide o3.sl
  have O23 := hide ((unhide O2).below b3 (Nat.le_refl _))
  have B3 := hide b3
  have G3 : Hid (w.grownBy w3 none) := hide ((unhide G2).trans (grown_of_below b3))
  have hl1 := lay_len n
  have hl2 := lay_len q
  have HSz : Hid (w1.heap.size ≤ w3.heap.size) := hide (Nat.le_trans (unhide B2).size b3.size)
  clear o3 b3
  go_wp2_with (at_builtin; refine wpList_append_mine rfl (.tmp 13) (.tmp 17) rfl w1.heap.size _ (lay n) rfl (unhide O23) _ (lay q) rfl (unhide S3) (by omega) (unhide HSz) ?_)
  intro v4 w4 o4 b4
  have O4 := hide o4
  have G4 : Hid (w.grownBy w4 none) := hide (by
    have h1 : Below w1.heap.size w1 w4 := ((unhide B2).trans ((unhide B3).mono (unhide B2).size)).trans b4
    exact (unhide G1).trans (grown_of_below h1))
  have O14 : Hid (w1.grownBy w4 none) := hide (by
    have h1 : Below w1.heap.size w1 w4 := ((unhide B2).trans ((unhide B3).mono (unhide B2).size)).trans b4
    exact grown_of_below h1)
  clear o4 b4 B2 B3 O23 S3 G3 HSz O2 G2
  clear G4
  go_wp2
  go_loopw [4, 5] (fun a i wr => ∃ (k : Nat), i = .int .i64 (k : Int) ∧ k ≤ q ∧ Own wr w1.heap.size a (lay n ++ lay q ++ layR (X.take k)) ∧ w1.grownBy wr none) (fun _ i _ => q - (intOf i).toNat)
  case atStart => exact ⟨0, rfl, by omega, by simpa [layR] using unhide O4, unhide O14⟩
  case round =>
    obtain ⟨k, rfl, hk, ho, hg⟩ := hrel
    by_cases hlt : k < q
    · have hlt' : (k : Int) < (q : Int) := by omega
      have hkl : k < X.length := by rw [← unhide HQ]; exact hlt
      obtain ⟨ao', cap', e, _, _, h4⟩ := ((unhide O1).grown hg).form
      injection e with e1 e2 e3
      obtain ⟨g, hao, _, hgl, hc⟩ := h4 (by omega)
      rw [← e1] at hao
      subst hao
      obtain ⟨d0, d1⟩ := hc k hkl
      have hx := hlow X[k] (List.getElem_mem hkl)
      have HTk : Hid (layR (X.take (k + 1)) = layR (X.take k) ++ (lay X[k].1 ++ lay X[k].2)) := hide (by rw [List.take_succ_eq_append_getElem hkl, layR_snoc])
      have HLen : Hid ((lay n ++ lay q ++ layR (X.take k)).length ≤ 2000) := hide (by
        have h1 := layR_len (X.take k)
        have h5 : (X.take k).length ≤ k := by rw [List.length_take]; omega
        simp only [List.length_append]
        omega)
      obtain ⟨x, hx0⟩ : ∃ x, x = X[k] := ⟨_, rfl⟩
      rw [← hx0] at d0 d1 hx HTk
      clear hx0 hc h4 e1 e2 e3 hlt
      obtain ⟨x1, x2⟩ := x
      simp only at d0 d1 hx HTk
      obtain ⟨hx1, hx2⟩ := hx
      have hxI : (x1 : Int) + (x2 : Int) ≤ 512 := by omega
      have hx1l := lay_len x1
      have hx2l := lay_len x2
      have HO := hide ho
      have HG := hide hg
      have HD1 := hide d1
      have HSz := hide hg.size
      clear ho hg d1
      go_wp2_with fail
      refine (rPutUint_at _ x1 wr (by omega) (by first | rfl | omega)).mono ?_
      rintro e w5 ⟨v5, rfl, o5, b5⟩
      have S5 := hide o5.sl
      have O5 := hide ((unhide HO).below b5 (Nat.le_refl _))
      have G5 : Hid (w1.grownBy w5 none) := hide ((unhide HG).trans (grown_of_below b5))
      have Z5 : Hid (w1.heap.size ≤ w5.heap.size) := hide (unhide G5).size
      clear o5 b5 d0
      go_wp2_with (at_builtin; refine wpList_append_mine rfl (.tmp 25) (.tmp 32) rfl w1.heap.size _ (lay n ++ lay q ++ layR (X.take k)) rfl (unhide O5) _ (lay x1) rfl (unhide S5) (by have := unhide HLen; omega) (unhide Z5) ?_)
      intro v6 w6 o6 b6
      have O6 : Hid (Own w6 w1.heap.size v6 (lay n ++ lay q ++ layR (X.take k) ++ lay x1)) := hide (by simpa [List.append_assoc] using o6)
      have G6 : Hid (w1.grownBy w6 none) := hide (grown_of_below ((below_of_grown (unhide G5)).trans b6))
      have d1 : w6.cell? ⟨g, k * 2 + 1, none⟩ = some (.int .i64 (x2 : Int)) := by
        obtain ⟨ao', cap', e, _, _, h4⟩ := ((unhide O1).grown (unhide G6)).form
        injection e with e1 e2 e3
        obtain ⟨g', hao, _, _, hc⟩ := h4 (by omega)
        rw [← e1] at hao
        cases hao
        have h7 := (hc k hkl).2
        have h8 := unhide HD1
        obtain ⟨ao2, cap2, e', _, _, h42⟩ := ((unhide O1).grown (unhide HG)).form
        injection e' with e1' e2' e3'
        obtain ⟨g2, hao2, _, _, hc2⟩ := h42 (by omega)
        rw [← e1'] at hao2
        cases hao2
        rw [(hc2 k hkl).2] at h8
        rw [h7]
        exact h8
      clear o6 b6 O5 G5 S5 Z5
      go_wp2_with fail
      refine (rPutUint_at _ x2 w6 (by omega) (by first | rfl | omega)).mono ?_
      rintro e w7 ⟨v7, rfl, o7, b7⟩
      have S7 := hide o7.sl
      have O7 := hide ((unhide O6).below b7 (Nat.le_refl _))
      have G7 : Hid (w1.grownBy w7 none) := hide ((unhide G6).trans (grown_of_below b7))
      have Z7 : Hid (w1.heap.size ≤ w7.heap.size) := hide (unhide G7).size
      clear o7 b7 d1 O6 G6
      go_wp2_with (at_builtin; refine wpList_append_mine rfl (.tmp 34) (.tmp 41) rfl w1.heap.size _ (lay n ++ lay q ++ layR (X.take k) ++ lay x1) rfl (unhide O7) _ (lay x2) rfl (unhide S7) (by have := unhide HLen; simp only [List.length_append] at this ⊢; omega) (unhide Z7) ?_)
      intro v8 w8 o8 b8
      have O8 : Hid (Own w8 w1.heap.size v8 (lay n ++ lay q ++ layR (X.take (k + 1)))) := hide (by
        rw [unhide HTk]
        simpa [List.append_assoc] using o8)
      have G8 : Hid (w1.grownBy w8 none) := hide (grown_of_below ((below_of_grown (unhide G7)).trans b8))
      clear o8 b8 O7 G7 S7 Z7 HTk
      go_wp2
      go_roundw
      case rel => exact ⟨k + 1, rfl, by omega, unhide O8, unhide G8⟩
      case measure => simp [intOf]; omega
    · have hlt' : ¬ (k : Int) < (q : Int) := by omega
      have HO : Hid (Own wr w.heap.size u4 (tellN n L)) := hide (by
        rw [List.take_of_length_le (by have := unhide HQ; omega)] at ho
        rw [unhide HTL]
        exact ho.mono (unhide G1).size)
      have HG : Hid (w.grownBy wr none) := hide ((unhide G1).trans hg)
      clear ho hg
      go_wp2
      go_ret
      exact ⟨_, rfl, unhide HO, unhide HG⟩
end Go.Proofs.Ythjcdibblhcgpaa

/-
  DERIVED. The document's Extend.
-/
namespace Go.Proofs.Ythjcdibblhcgpaa
open Go.RowKit
set_option linter.unusedVariables false

theorem rExtend_neg (w : World) (b : Nat) (m : Int) (u : Value) (hm : m < 0) : Calls Try.prog 29 #[.pointer (some ⟨b, 0, none⟩), .int .i64 m, u] w fun e w' => e = .returned (.int .i64 1) ∧ w' = w := by
  go_enter Try.func29, Try.ntmps29
  go_wp2_with fail
  refine (rNeed_neg w b m hm).mono ?_
  rintro e w1 ⟨rfl, rfl⟩
  go_wp2
  go_ret
  exact ⟨rfl, rfl⟩
theorem rExtend_far (w : World) (b n : Nat) (v u : Value) (L : List Nat) (h : RdAt w b n v L) (m : Int) (hm : 32768 < (n : Int) + m) (h0 : 0 ≤ m) (h9 : m ≤ 9223372036854775807) : Calls Try.prog 29 #[.pointer (some ⟨b, 0, none⟩), .int .i64 m, u] w fun e w' => e = .returned (.int .i64 60) ∧ w' = w := by
  go_enter Try.func29, Try.ntmps29
  go_wp2_with fail
  refine (rNeed_far w b n v L h m hm h0 h9).mono ?_
  rintro e w1 ⟨rfl, rfl⟩
  go_wp2
  go_ret
  exact ⟨rfl, rfl⟩

theorem okR_take {l : List (Int × Int)} {k : Nat} (hk : k < l.length) (h : ∀ x ∈ l.take k, okR x) (hx : okR l[k]) : ∀ x ∈ l.take (k + 1), okR x := by
  rw [List.take_succ_eq_append_getElem hk]
  intro x hx'
  rcases List.mem_append.1 hx' with h' | h'
  · exact h x h'
  · simp at h'
    subst h'
    exact hx
/-- The blocks of runs that may be. -/
def bksI (l : List (Int × Int)) : List Nat := bks (l.map fun x => (x.1.toNat, x.2.toNat))
theorem bksI_snoc (l : List (Int × Int)) (x : Int × Int) : bksI (l ++ [x]) = bksI l ++ List.range' x.1.toNat x.2.toNat := by simp [bksI, bks]
theorem bksI_len {l : List (Int × Int)} (h : ∀ x ∈ l, okR x) : ((bksI l).length : Int) = sumL l := by
  induction l with
  | nil => rfl
  | cons x l ih =>
    have h1 := ih fun y hy => h y (List.mem_cons_of_mem _ hy)
    have h2 := h x (List.mem_cons_self ..)
    unfold okR at h2
    have e1 : bksI (x :: l) = List.range' x.1.toNat x.2.toNat ++ bksI l := by simp [bksI, bks]
    have e2 : sumL (x :: l) = x.2 + sumL l := by simp [sumL]
    rw [e1, e2, List.length_append, List.length_range', ← h1]
    omega
theorem bksI_toI (Y : List (Nat × Nat)) : bksI (Y.map toI) = bks Y := by
  unfold bksI
  rw [List.map_map]
  congr 1
  conv => rhs; rw [← List.map_id Y]
  exact List.map_congr_left fun x _ => by simp [toI]
theorem bksI_low {l : List (Int × Int)} (h : ∀ x ∈ l, okR x) : low (bksI l) := by
  refine low_bks fun y hy => ?_
  obtain ⟨x, hx, rfl⟩ := List.mem_map.1 hy
  have := h x hx
  unfold okR at this
  simp only
  omega
theorem take_more {α : Type} (A : List α) (r : List α) (k : Nat) (h : k ≤ A.length) : (A ++ r).take k = A.take k := List.take_append_of_le_length h

def REPost (w : World) (b n m : Nat) (L : List Nat) (l : List (Int × Int)) (e : Ending) (w' : World) : Prop :=
  (¬ okL l ((bf (n + m) - bf n : Nat) : Int) ∧ e = .returned (.int .i64 1) ∧ w.grownBy w' none) ∨ (okL l ((bf (n + m) - bf n : Nat) : Int) ∧ e = .returned (.int .i64 0) ∧ ∃ v', RdAt w' b (n + m) v' (L ++ bksI l) ∧ w.grownBy w' (some b))

set_option maxRecDepth 20000 in
set_option maxHeartbeats 8000000 in
theorem rExtend_any (w : World) (b n m : Nat) (v u : Value) (L : List Nat) (l : List (Int × Int)) (h : RdAt w b n v L) (hm : n + m ≤ 32768) (hu : Rn w u l) (hl : l.length ≤ 1125899906842624) :
    Calls Try.prog 29 #[.pointer (some ⟨b, 0, none⟩), .int .i64 (m : Int), u] w (REPost w b n m L l) := by
  have HM := hide h
  have HU := hide hu
  obtain ⟨ao, cap, rfl, hu1, hu2, hu3, hu4⟩ := hu
  clear hu4
  have hbl := h.lt
  have hd64 : bf (n + m) - bf n ≤ 64 := by have := bf_le hm; omega
  have hni : (n : Int) + (m : Int) ≤ 32768 := by omega
  obtain ⟨d, hd⟩ : ∃ d, d = bf (n + m) - bf n := ⟨_, rfl⟩
  have HD := hide hd
  rw [← hd] at hd64
  have HP : Hid (REPost w b n m L l = fun e w' => (¬ okL l (d : Int) ∧ e = .returned (.int .i64 1) ∧ w.grownBy w' none) ∨ (okL l (d : Int) ∧ e = .returned (.int .i64 0) ∧ ∃ v', RdAt w' b (n + m) v' (L ++ bksI l) ∧ w.grownBy w' (some b))) := hide (by
    funext e w'
    unfold REPost
    rw [← hd])
  have hdI : (d : Int) ≤ 64 := by omega
  have hLs := h.small
  clear h
  obtain ⟨q, hq⟩ : ∃ q, q = l.length := ⟨_, rfl⟩
  rw [← hq] at hu1 HU hl ⊢
  have HQ := hide hq
  have hqI : (q : Int) ≤ 1125899906842624 := by omega
  clear hq
  go_enter Try.func29, Try.ntmps29
  go_wp2_with fail
  refine (rNeed_ok w b n v L (unhide HM) m hm).mono ?_
  rintro e w1 ⟨rfl, g1⟩
  rw [← hd]
  have G1 := hide g1
  clear g1 hd
  go_wp2
  go_loopw [9, 10] (fun a i wr => ∃ (k : Nat), i = .int .i64 (k : Int) ∧ k ≤ q ∧ (∀ x ∈ l.take k, okR x) ∧ NOwn wr w.heap.size a ((bksI (l.take k)).take (d + 1)) ∧ w.grownBy wr none) (fun _ i _ => q - (intOf i).toNat)
  case atStart => exact ⟨0, rfl, by omega, by simp, by simpa [bksI, bks] using NOwn.nil w1 w.heap.size, unhide G1⟩
  case round =>
    obtain ⟨k, rfl, hk, hok, ho, hg⟩ := hrel
    have HOk := hide hok
    have HO := hide ho
    have HG := hide hg
    clear hok ho hg
    by_cases hlt : k < q
    · have hlt' : (k : Int) < (q : Int) := by omega
      have hkl : k < l.length := by rw [← unhide HQ]; exact hlt
      obtain ⟨pb, off, hao, hpb, hc⟩ : ∃ pb off, ao = some ⟨pb, off, none⟩ ∧ pb < wr.heap.size ∧ ∀ i, (h : i < l.length) → wr.cell? ⟨pb, off + i * 2, none⟩ = some (.int .i64 l[i].1) ∧ wr.cell? ⟨pb, off + i * 2 + 1, none⟩ = some (.int .i64 l[i].2) := by
        obtain ⟨ao', cap', e, _, _, _, h4⟩ := (unhide HU).kept (unhide HG)
        injection e with e1 e2 e3
        subst e1
        exact h4 (by omega)
      subst hao
      obtain ⟨c0, c1⟩ := hc k hkl
      have hfit := hu3 l[k] (List.getElem_mem hkl)
      have HOk2 := hide (fun h => okR_take hkl (unhide HOk) h)
      have HTk : Hid (bksI (l.take (k + 1)) = bksI (l.take k) ++ List.range' (l[k]).1.toNat (l[k]).2.toNat) := hide (by rw [List.take_succ_eq_append_getElem hkl, bksI_snoc])
      have HIn : Hid (l[k] ∈ l) := hide (List.getElem_mem hkl)
      obtain ⟨x, hx⟩ : ∃ x, x = l[k] := ⟨_, rfl⟩
      rw [← hx] at c0 c1 hfit HOk2 HTk HIn
      clear hc hx hlt
      obtain ⟨x1, x2⟩ := x
      obtain ⟨f1, f2, f3, f4⟩ := hfit
      simp only at c0 c1 f1 f2 f3 f4 HTk
      by_cases hx : okR (x1, x2)
      · have HOk3 := hide (unhide HOk2 hx)
        unfold okR at hx
        obtain ⟨o1, o2, o3⟩ := hx
        simp only at o1 o2 o3
        obtain ⟨y1, rfl⟩ := Int.eq_ofNat_of_zero_le o2
        obtain ⟨y2, rfl⟩ := Int.eq_ofNat_of_zero_le (show 0 ≤ x2 by omega)
        have hn1 : ¬ (y2 : Int) < 1 := by omega
        have hn2 : ¬ (512 : Int) < (y2 : Int) := by omega
        have hn3 : ¬ (y1 : Int) < 0 := by omega
        have hn4 : ¬ (511 : Int) < (y1 : Int) := by omega
        have hn5 : ¬ (512 : Int) < (y1 : Int) + (y2 : Int) := by omega
        have HO2 := hide ((unhide HO).grown (World.grownBy_alloc wr (.cells #[.int .i64 (y1 : Int), .int .i64 (y2 : Int)] 36) none))
        have HG2 : Hid (w.grownBy (wr.alloc (.cells #[.int .i64 (y1 : Int), .int .i64 (y2 : Int)] 36)) none) := hide ((unhide HG).trans (World.grownBy_alloc _ _ _))
        have HBx : Hid ((wr.alloc (.cells #[.int .i64 (y1 : Int), .int .i64 (y2 : Int)] 36)).heap[wr.heap.size]? = some (.cells #[.int .i64 (y1 : Int), .int .i64 (y2 : Int)] 36 (0, 0))) := hide (heap_alloc_new _ _)
        clear HO HG HOk HOk2
        obtain ⟨A, hA⟩ : ∃ A, A = bksI (l.take k) := ⟨_, rfl⟩
        rw [← hA] at HTk HO2
        have HTk2 : Hid (bksI (l.take (k + 1)) = A ++ List.range' y1 y2) := hide (by simpa using unhide HTk)
        clear hA HTk
        have hyI : (y1 : Int) + (y2 : Int) ≤ 512 := by omega
        go_wp2
        obtain ⟨bx, hbx0⟩ : ∃ bx, bx = wr.heap.size := ⟨_, rfl⟩
        rw [← hbx0] at HBx ⊢
        clear hbx0
        go_loopw [9, 12] (fun a i wi => ∃ j : Nat, i = .int .i64 (j : Int) ∧ j ≤ y2 ∧ NOwn wi w.heap.size a ((A ++ List.range' y1 j).take (d + 1)) ∧ wi.heap[bx]? = some (.cells #[.int .i64 (y1 : Int), .int .i64 (y2 : Int)] 36 (0, 0)) ∧ w.grownBy wi none) (fun _ i _ => y2 - (intOf i).toNat)
        case atStart => exact ⟨0, rfl, by omega, by simpa using unhide HO2, unhide HBx, unhide HG2⟩
        case round =>
          obtain ⟨j, rfl, hj, hN, hbx, hG⟩ := hrel
          have c1 : wr.cell? ⟨bx, 1, none⟩ = some (.int .i64 (y2 : Int)) := (cell_of_row _ _ _ _ _ _ hbx).trans rfl
          have c0 : wr.cell? ⟨bx, 0, none⟩ = some (.int .i64 (y1 : Int)) := (cell_of_row _ _ _ _ _ _ hbx).trans rfl
          have HBx2 := hide hbx
          have HN2 := hide hN
          have HG3 := hide hG
          obtain ⟨bo, bcap, hbu, hb1, hb2, _⟩ := hN.form
          have hAl : ((A ++ List.range' y1 j).take (d + 1)).length = min (d + 1) (A.length + j) := by simp
          rw [hAl] at hbu hb1
          obtain ⟨mn, hmn⟩ : ∃ mn, mn = min (d + 1) (A.length + j) := ⟨_, rfl⟩
          rw [← hmn] at hbu hb1 hAl
          have HMn := hide hmn
          have hmn65 : mn ≤ d + 1 := by omega
          clear hmn
          subst hbu
          have hmnI : (mn : Int) ≤ 65 := by omega
          clear hbx hN hG HO2 HG2 HBx
          by_cases hgo : j < y2 ∧ mn ≤ d
          · have hj1 : (j : Int) < (y2 : Int) := by omega
            have hj2 : (mn : Int) ≤ (d : Int) := by omega
            have hfull : A.length + j ≤ d := by have := unhide HMn; omega
            have HEq : Hid ((A ++ List.range' y1 j).take (d + 1) = A ++ List.range' y1 j) := hide (List.take_of_length_le (by simp; omega))
            have HEq2 : Hid ((A ++ List.range' y1 (j + 1)).take (d + 1) = A ++ List.range' y1 j ++ [y1 + j]) := hide (by
              rw [range_snoc, ← List.append_assoc]
              exact List.take_of_length_le (by simp; omega))
            have HN3 : Hid (NOwn wr w.heap.size (.slice bo mn bcap) (A ++ List.range' y1 j)) := hide (by
              have h := unhide HN2
              rw [unhide HEq] at h
              exact h)
            have hll : (A ++ List.range' y1 j).length ≤ 65536 := by simp; omega
            clear hgo HN2 hAl
            go_wp2_with (at_builtin; refine wpList_append_int rfl (.tmp 70) (.tmp 75) rfl w.heap.size _ (A ++ List.range' y1 j) rfl ?ho ?hb2 hll ⟨_, 0, none⟩ 1 (y1 + j) rfl ?hc ?_)
            case ho => exact (unhide HN3).grown (World.grownBy_alloc _ _ _)
            case hb2 => have := (unhide HG3).size; simp; omega
            case hc => exact (cell_of_row _ _ _ _ _ _ (heap_alloc_new _ _)).trans rfl
            intro v5 w5 o5 g5
            have N5 : Hid (NOwn w5 w.heap.size v5 ((A ++ List.range' y1 (j + 1)).take (d + 1))) := hide (by rw [unhide HEq2, List.append_assoc]; exact o5)
            have G5 : Hid (w.grownBy w5 none) := hide (((unhide HG3).trans (World.grownBy_alloc _ _ _)).andThen g5 (fun z e => .inl ((unhide HN3).row e).1))
            have BX5 : Hid (w5.heap[bx]? = some (.cells #[.int .i64 (y1 : Int), .int .i64 (y2 : Int)] 36 (0, 0))) := hide (by
              have h1 := (World.grownBy_alloc wr (.cells #[.int .i64 ((y1 : Int) + (j : Int))] 3) none).block bx (lt_of_block (unhide HBx2)) (by simp)
              have hlt5 : bx < (wr.alloc (.cells #[.int .i64 ((y1 : Int) + (j : Int))] 3)).heap.size := by rw [World.size_alloc]; have := lt_of_block (unhide HBx2); omega
              have h2 := g5.block bx hlt5 (fun e => ((unhide HN3).grown (World.grownBy_alloc wr (.cells #[.int .i64 ((y1 : Int) + (j : Int))] 3) none)).ne e.symm (h1.trans (unhide HBx2)) (by decide) rfl)
              exact (h2.trans h1).trans (unhide HBx2))
            clear o5 g5 HN3 HG3 HBx2 c0 c1
            go_wp2
            go_roundw
            case rel => exact ⟨j + 1, rfl, by omega, unhide N5, unhide BX5, unhide G5⟩
            case measure => simp [intOf]; omega
          · have N5 : Hid (NOwn wr w.heap.size (.slice bo mn bcap) ((bksI (l.take (k + 1))).take (d + 1))) := hide (by
              have h := unhide HN2
              rw [unhide HTk2]
              by_cases hjy : j = y2
              · rw [hjy] at h
                exact h
              · have hge : d + 1 ≤ (A ++ List.range' y1 j).length := by
                  have := unhide HMn
                  simp
                  omega
                have e1 : A ++ List.range' y1 y2 = (A ++ List.range' y1 j) ++ List.range' (y1 + j) (y2 - j) := by
                  rw [List.append_assoc, range_join, show j + (y2 - j) = y2 by omega]
                rw [e1, take_more _ _ _ hge]
                exact h)
            have hout : ¬ ((j : Int) < (y2 : Int) ∧ (mn : Int) ≤ (d : Int)) := by omega
            have HLL : Hid (∀ K : Prop, ((¬ (j : Int) < (y2 : Int)) → K) → (((j : Int) < (y2 : Int) ∧ ¬ (mn : Int) ≤ (d : Int)) → K) → K) := hide (fun K h1 h2 => by
              by_cases e : (j : Int) < (y2 : Int)
              · exact h2 ⟨e, fun h => hout ⟨e, h⟩⟩
              · exact h1 e)
            clear hgo hout HN2
            refine unhide HLL _ ?_ ?_
            all_goals intro hx
            all_goals try obtain ⟨hx1, hx2⟩ := hx
            all_goals go_wp2
            all_goals
              go_roundw
              case rel => exact ⟨k + 1, rfl, by omega, unhide HOk3, unhide N5, unhide HG3⟩
              case measure => simp [intOf]; omega
      · have HNo : Hid (REPost w b n m L l (.returned (.int .i64 1)) (wr.alloc (.cells #[.int .i64 x1, .int .i64 x2] 36))) := hide (by
          rw [unhide HP]
          exact .inl ⟨fun h => hx (h.1 _ (unhide HIn)), rfl, (unhide HG).trans (World.grownBy_alloc _ _ _)⟩)
        unfold okR at hx
        simp only at hx
        clear HOk HOk2 HO HG HTk HIn
        by_cases q1 : x2 < 1
        · go_wp2
          go_ret
          exact unhide HNo
        · by_cases q2 : (512 : Int) < x2
          · go_wp2
            go_ret
            exact unhide HNo
          · by_cases q3 : x1 < 0
            · go_wp2
              go_ret
              exact unhide HNo
            · by_cases q4 : (511 : Int) < x1
              · go_wp2
                go_ret
                exact unhide HNo
              · have q5 : (512 : Int) < x1 + x2 := by omega
                clear hx
                go_wp2
                go_ret
                exact unhide HNo
    · have hlt' : ¬ (k : Int) < (q : Int) := by omega
      have HOkA : Hid (∀ x ∈ l, okR x) := hide (by
        have h := unhide HOk
        rw [List.take_of_length_le (by have := unhide HQ; omega)] at h
        exact h)
      have HN : Hid (NOwn wr w.heap.size u9 ((bksI l).take (d + 1))) := hide (by
        have h := unhide HO
        rw [show l.take k = l from List.take_of_length_le (by have := unhide HQ; omega)] at h
        exact h)
      clear HO HOk
      obtain ⟨bo, bcap, hbu, hb1, hb2, hb4⟩ := (unhide HN).form
      clear hb4
      rw [List.length_take] at hbu hb1
      obtain ⟨mn, hmn⟩ : ∃ mn, mn = min (d + 1) (bksI l).length := ⟨_, rfl⟩
      rw [← hmn] at hbu hb1
      have HMn := hide hmn
      subst hbu
      have hmnI : (mn : Int) ≤ 65 := by omega
      have HBl := hide (bksI_len (unhide HOkA))
      clear hmn
      by_cases hfit : (mn : Int) = (d : Int)
      · have hle : (bksI l).length = d := by have := unhide HMn; omega
        have HYes : Hid (okL l (d : Int)) := hide ⟨unhide HOkA, by rw [← unhide HBl, hle]⟩
        have HEq : Hid ((bksI l).take (d + 1) = bksI l) := hide (List.take_of_length_le (by omega))
        have HBd := hide hle
        clear hle
        have m0 := (unhide HM).grown (unhide HG)
        obtain ⟨lo, lcap, hlv, hlv1, hlv2, hlv4⟩ := m0.list.form
        clear hlv4
        have hlv' : ∃ z, v = .slice lo z lcap := ⟨_, hlv⟩
        have hg01 := setCell_grown wr b 0 (.int .i64 ((n : Int) + (m : Int)))
        have hb1' := heap_setCell_same wr b 0 _ _ (.int .i64 ((n : Int) + (m : Int))) m0.blk
        have hl1 := m0.list.kept hg01 (fun z hz e => m0.list.ne hz m0.blk (by decide) (by simpa using e))
        have hm1 := (unhide HN).kept hg01 (fun z hz e => (unhide HN).ne hz m0.blk (by decide) (by simpa using e))
        have hfz := m0.frozen
        have c0 := m0.num
        have c1 := m0.val
        have hbw := m0.lt
        obtain ⟨W1, hW1⟩ : ∃ W1, W1 = wr.setCell ⟨b, 0, none⟩ (.int .i64 ((n : Int) + (m : Int))) := ⟨_, rfl⟩
        have c1' : W1.cell? ⟨b, 1, none⟩ = some v := by rw [hW1]; exact (cell_of_row _ _ _ _ _ _ hb1').trans rfl
        rw [← hW1] at hg01 hb1' hl1 hm1
        have hbw1 : b < W1.heap.size := lt_of_block hb1'
        have HB1 := hide hb1'
        have HL1 := hide hl1
        have HM1 := hide hm1
        have HG01 := hide hg01
        have HLen : Hid ((L ++ bksI l).length = bf (n + m)) := hide (by
          rw [List.length_append, m0.len, unhide HBd, unhide HD]
          have : bf n ≤ bf (n + m) := by unfold bf; omega
          omega)
        have HLow : Hid (low (L ++ bksI l)) := hide (low_append m0.lw (bksI_low (unhide HOkA)))
        obtain ⟨z, hz⟩ := hlv'
        clear hlv m0 hg01 hb1' hl1 hm1
        subst hz
        have c1a : (W1.alloc (.cells #[] 3)).cell? ⟨b, 1, none⟩ = some (.slice lo z lcap) := (World.grownBy_alloc W1 (.cells #[] 3) none).cell c1' (by simp)
        have HNc : Hid (∀ c, Value.slice lo z lcap = .slice none 0 c → c = 0) := hide (fun c e => by
          injection e with e1 e2 e3
          subst e3
          exact (unhide HL1).nilcap e1)
        have HNc2 : Hid (∀ c, Value.slice bo mn bcap = .slice none 0 c → c = 0) := hide (fun c e => by
          injection e with e1 e2 e3
          subst e3
          exact (unhide HN).nilcap e1)
        go_upto_region 18 with fail
        rw [← hW1]
        clear hW1 c0 c1
        go_wp2_with (at_builtin; refine wpList_append_nums rfl (.tmp 91) (.tmp 95) rfl W1.heap.size _ [] rfl (nown_empty W1) _ L rfl ((unhide HL1).nr.kept (World.grownBy_alloc _ _ _)) (unhide HNc) (by simp; omega) (by simp) ?_)
        intro v6 w6 o6 g6
        have g16 : W1.grownBy w6 none := (World.grownBy_alloc _ _ _).andThen g6 (fun z e => .inl (by cases e; exact Nat.le_refl _))
        have O6 : Hid (NOwn w6 W1.heap.size v6 L) := hide o6
        have G6 := hide g16
        have SZ6 := hide g16.size
        clear o6 g6 g16
        go_wp2_with (at_builtin; refine wpList_append_nums rfl (.tmp 96) (.tmp 97) rfl W1.heap.size _ L rfl (unhide O6) _ ((bksI l).take (d + 1)) rfl (((unhide HM1).nr).kept (unhide G6)) (unhide HNc2) (by rw [unhide HEq, unhide HBd]; omega) (unhide SZ6) ?_)
        intro v7 w7 o7 g7
        rw [unhide HEq] at o7
        have g17 : W1.grownBy w7 none := (unhide G6).andThen g7 (fun z e => .inl ((unhide O6).row e).1)
        have hb7 : w7.heap[b]? = some (.cells #[.int .i64 ((n : Int) + (m : Int)), .slice lo z lcap] 52 (0, 0)) := (g17.block b hbw1 (by simp)).trans (unhide HB1)
        have hh := heap_setCell_same w7 b 1 _ _ v7 hb7
        have hs7 := setCell_grown w7 b 1 v7
        have HYes2 : Hid (REPost w b n m L l (.returned (.int .i64 0)) (w7.setCell ⟨b, 1, none⟩ v7)) := hide (by
          rw [unhide HP]
          refine .inr ⟨unhide HYes, rfl, v7, ⟨?_, ?_, hm, unhide HLen, unhide HLow⟩, ?_⟩
          · rw [hh]
            rfl
          · have := o7.kept hs7 (fun q hq e => o7.ne hq hb7 (by decide) (by simpa using e))
            obtain ⟨h1, h2⟩ := this
            refine ⟨h1, ?_⟩
            rcases h2 with h2 | ⟨g, cap, cur, a, _, c⟩
            · exact .inl h2
            · exact .inr ⟨g, cap, cur, a, Nat.zero_le _, c⟩
          · exact (((unhide HG).but _).trans (unhide HG01)).trans ((g17.but _).trans hs7))
        have e1 : w7.cell? ⟨b, 1, none⟩ = some (.slice lo z lcap) := (cell_of_row _ _ _ _ _ _ hb7).trans rfl
        have f7 : w7.frozen? ⟨b, 1, none⟩ = false := by simp [World.frozen?, hb7]
        obtain ⟨ao7, cap7, hv7, _⟩ := o7.form
        obtain ⟨n7, hn7⟩ : ∃ n7, v7 = .slice ao7 n7 cap7 := ⟨_, hv7⟩
        clear hv7 o7 g7 g17 hb7 hh hs7
        subst hn7
        go_wp2
        go_ret
        exact unhide HYes2
      · have HNo : Hid (REPost w b n m L l (.returned (.int .i64 1)) wr) := hide (by
          rw [unhide HP]
          exact .inl ⟨fun h => hfit (by
            have h1 := h.2
            have h2 := unhide HBl
            have h3 := unhide HMn
            omega), rfl, unhide HG⟩)
        go_wp2
        go_ret
        exact unhide HNo
end Go.Proofs.Ythjcdibblhcgpaa

/-
  DERIVED. The law's 'asked': all that there is to ask of a node is the document's.
-/
namespace Go.Proofs.Ythjcdibblhcgpaa
open Go.RowKit
set_option linter.unusedVariables false

theorem Own.set {w : World} {base g n cap : Nat} {l : List UInt8} (h : Own w base (.slice (some ⟨g, 0, none⟩) n cap) l) (i : Nat) (c : UInt8) (hi : i < l.length) : Own (w.setCell ⟨g, i, none⟩ (bv c)) base (.slice (some ⟨g, 0, none⟩) n cap) (l.set i c) := by
  obtain ⟨h1, h2⟩ := h
  refine ⟨by simp, ?_⟩
  rcases h2 with ⟨e, _⟩ | ⟨g', cap', cur, e, hb, hg, hn, hm, hs, ht⟩
  · cases e
  · cases e
    refine .inr ⟨g, cap, _, by rw [List.length_set], hb, heap_setCell_same w g i cur _ _ hg, by rw [List.length_set]; exact hn, hm, by simpa using hs, ?_⟩
    rw [List.length_set, Array.toList_setIfInBounds, List.take_set, ht, List.map_set]
theorem Own.row {W : World} {base : Nat} {v : Value} {xs : List UInt8} (h : Own W base v xs) {q : Nat} (hq : v.ownBlock = some q) : base ≤ q ∧ ∃ cur, W.heap[q]? = some (.cells cur 5 (0, 0)) := by
  rcases h.2 with ⟨rfl, _⟩ | ⟨g, cap, cur, rfl, hb, hg, r⟩
  · cases hq
  · cases hq; exact ⟨hb, cur, hg⟩
theorem Own.form {w : World} {base : Nat} {v : Value} {xs : List UInt8} (h : Own w base v xs) : ∃ ao cap, v = .slice ao xs.length cap ∧ xs.length ≤ cap ∧ cap ≤ 9223372036854775807 ∧ (xs.length ≠ 0 → ∃ g, ao = some ⟨g, 0, none⟩ ∧ base ≤ g ∧ g < w.heap.size ∧ (∀ i, w.frozen? ⟨g, i, none⟩ = false) ∧ ∀ i, (h : i < xs.length) → w.cell? ⟨g, i, none⟩ = some (bv xs[i])) := by
  have hsl := h.sl
  rcases h.2 with ⟨rfl, h0⟩ | ⟨g, cap, cur, rfl, hb, hg, hn, hm, hs, ht⟩
  · exact ⟨none, 0, by rw [h0], by omega, by omega, fun h => absurd h0 h⟩
  · refine ⟨some ⟨g, 0, none⟩, cap, rfl, hn, by unfold maxLen at hm; omega, fun _ => ⟨g, rfl, hb, lt_of_block hg, fun i => by simp [World.frozen?, hg], fun i hi => ?_⟩⟩
    obtain ⟨ao, cap', e, _, _, h4⟩ := hsl
    cases e
    obtain ⟨b, off, e2, _, hc⟩ := h4 (by omega)
    cases e2
    have := hc i hi
    rw [Nat.zero_add] at this
    exact this

set_option maxRecDepth 20000 in
set_option maxHeartbeats 8000000 in
theorem asked_ok (w : World) (b c n : Nat) (v u : Value) (L : List Nat) (h : NdAt w b n v L) (h2 : RdAt w c n u L) :
    Calls Try.prog 17 #[.pointer (some ⟨b, 0, none⟩), .pointer (some ⟨c, 0, none⟩)] w fun e w' => e = .returned (.bool true) ∧ w.grownBy w' none := by
  have HM := hide h
  have HR := hide h2
  have hcl := h.small.2
  have hlow := low_canon h.lw
  clear h h2
  go_enter Try.func17, Try.ntmps17
  go_wp2_with fail
  refine (Runs_any w b n v L (unhide HM)).mono ?_
  rintro e w1 ⟨u1, rfl, o1, g1⟩
  have O1 := hide o1
  have G1 := hide g1
  have R1 := hide ((unhide HR).grown g1)
  clear o1 g1
  go_wp2_with fail
  refine (rRuns_any w1 c n u L (unhide R1)).mono ?_
  rintro e w2 ⟨u2, rfl, o2, g2⟩
  have O12 := hide ((unhide O1).grown g2)
  have O2 := hide o2
  have G2 : Hid (w.grownBy w2 none) := hide ((unhide G1).trans g2)
  clear o2 g2 O1 G1 R1
  go_wp2_with fail
  refine (SameRuns_any w2 u1 u2 _ _ ((unhide O12).rn fun x hx => by have := hlow x hx; omega) ((unhide O2).rn fun x hx => by have := hlow x hx; omega)).mono ?_
  rintro e w3 ⟨rfl, g3⟩
  simp only [decide_true]
  have HX : Hid (∃ xs, ROwn w3 w.heap.size u1 xs ∧ xs.length = (canon L).length) := hide ⟨_, (unhide O12).grown g3, rfl⟩
  have G3 : Hid (w.grownBy w3 none) := hide ((unhide G2).trans g3)
  obtain ⟨ro, rcap, hru, _⟩ := (unhide O12).form
  obtain ⟨q, hq⟩ : ∃ q, q = (canon L).length := ⟨_, rfl⟩
  rw [← hq] at HX hcl hru
  subst hru
  clear g3 O12 O2 G2 hq
  have hqI : (q : Int) ≤ 64 := by omega
  go_wp2
  go_loopw [7] (fun i wr => ∃ (j : Nat) (xs : List (Nat × Nat)), i = .int .i64 (j : Int) ∧ j ≤ q ∧ ROwn wr w.heap.size (.slice ro q rcap) xs ∧ xs.length = q ∧ w.grownBy wr none) (fun i _ => q - (intOf i).toNat)
  case atStart =>
    obtain ⟨xs, h1, h2⟩ := unhide HX
    exact ⟨0, xs, rfl, by omega, h1, h2, unhide G3⟩
  case round =>
    obtain ⟨j, xs, rfl, hj, ho, hxl, hg⟩ := hrel
    have HO := hide ho
    have HG := hide hg
    have HXl := hide hxl
    clear ho hg hxl HX G3
    by_cases hlt : j < q
    · have hlt' : (j : Int) < (q : Int) := by omega
      have hjx : j < xs.length := by rw [unhide HXl]; exact hlt
      obtain ⟨ao', cap', e, _, _, h4⟩ := (unhide HO).form
      injection e with e1 e2 e3
      obtain ⟨g, hro, hgb, hgl, hcell⟩ := h4 (by omega)
      rw [← e1] at hro
      subst hro
      clear e1 e2 e3 h4
      obtain ⟨d0, d1⟩ := hcell j hjx
      obtain ⟨_, cur, hcur⟩ := (unhide HO).row (q := g) rfl
      have f1 : wr.frozen? ⟨g, j * 2 + 1, none⟩ = false := by simp [World.frozen?, hcur]
      have HO2 := hide ((unhide HO).set1 j 99 hjx)
      have HG2 : Hid (w.grownBy (wr.setCell ⟨g, j * 2 + 1, none⟩ (.int .i64 99)) none) := hide (own_step (unhide HG) hgb (setCell_grown _ _ _ _))
      clear hcell hcur HO HG
      go_wp2
      go_roundw
      case rel => exact ⟨j + 1, _, rfl, by omega, unhide HO2, by simpa using unhide HXl, unhide HG2⟩
      case measure => simp [intOf]; omega
    · have hlt' : ¬ (j : Int) < (q : Int) := by omega
      have M4 := hide ((unhide HM).grown (unhide HG))
      have R4 := hide ((unhide HR).grown (unhide HG))
      clear HO HXl
      go_wp2_with fail
      refine (Bytes_any wr b n v L (unhide M4)).mono ?_
      rintro e w5 ⟨u5, rfl, o5, g5⟩
      have O5 := hide (o5.mono (unhide HG).size)
      have R5 := hide ((unhide R4).grown g5)
      have G5 : Hid (w.grownBy w5 none) := hide ((unhide HG).trans g5)
      have st5 := o5.sl.str
      have st5d := (o5.sl.drew).str
      have hTl := tellN_len (n := n) (unhide M4).small.2
      obtain ⟨bo, bcap, hbu, hb1, hb2, _⟩ := o5.form
      have hbu' : ∃ z, u5 = .slice bo z bcap := ⟨_, hbu⟩
      clear o5 g5 M4 R4 HG
      subst hbu
      go_wp2_with fail
      go_cut [9] from 29 to 34 (fun t wx => t = .bool true ∧ w5.grownBy wx none)
      case first =>
        go_region_with (go_at_call 30; refine (rBytes_any _ c n u L ((unhide R5).drewN _)).mono ?_; rintro e w6 ⟨u6, rfl, o6, g6⟩; have st6 := o6.sl.str; have st65 := ((unhide O5).sl.kept ((gr_d _).trans g6)).str; have G6 : Hid (w5.grownBy w6 none) := hide ((gr_d _).trans g6); clear o6 g6)
        all_goals go_wp2_with fail
        all_goals go_meet
        all_goals exact ⟨by simp, unhide G6⟩
      case rest =>
        obtain ⟨rfl, g6⟩ := hcut
        have HY : Hid (∃ ys, Own wc w.heap.size (.slice bo (tellN n L).length bcap) ys ∧ ys.length = (tellN n L).length) := hide ⟨_, (unhide O5).below (below_of_grown g6) (Nat.le_refl _), rfl⟩
        have G6 : Hid (w.grownBy wc none) := hide ((unhide G5).trans g6)
        clear g6 O5 G5 R5 st5 st5d hbu'
        obtain ⟨t, ht⟩ : ∃ t, t = (tellN n L).length := ⟨_, rfl⟩
        rw [← ht] at HY hTl hb1 ⊢
        clear ht
        have htI : (t : Int) ≤ 1400 := by omega
        go_wp2
        go_loopw [10] (fun i wr => ∃ (j : Nat) (ys : List UInt8), i = .int .i64 (j : Int) ∧ j ≤ t ∧ Own wr w.heap.size (.slice bo t bcap) ys ∧ ys.length = t ∧ w.grownBy wr none) (fun i _ => t - (intOf i).toNat)
        case atStart =>
          obtain ⟨ys, h1, h2⟩ := unhide HY
          exact ⟨0, ys, rfl, by omega, h1, h2, unhide G6⟩
        case round =>
          obtain ⟨j, ys, rfl, hj, ho, hyl, hg⟩ := hrel
          have HO := hide ho
          have HG := hide hg
          have HYl := hide hyl
          clear ho hg hyl HY G6
          by_cases hlt2 : j < t
          · have hlt2' : (j : Int) < (t : Int) := by omega
            have hjx : j < ys.length := by rw [unhide HYl]; exact hlt2
            obtain ⟨ao', cap', e, _, _, h4⟩ := (unhide HO).form
            injection e with e1 e2 e3
            obtain ⟨g, hbo, hgb, hgl, hfz, hcell⟩ := h4 (by omega)
            rw [← e1] at hbo
            subst hbo
            clear e1 e2 e3 h4
            have d0 := hcell j hjx
            have HO2 : Hid (Own (wr.setCell ⟨g, j, none⟩ (.int .u8 9)) w.heap.size (.slice (some ⟨g, 0, none⟩) t bcap) (ys.set j 9)) := hide ((unhide HO).set j 9 hjx)
            have HG2 : Hid (w.grownBy (wr.setCell ⟨g, j, none⟩ (.int .u8 9)) none) := hide (own_step (unhide HG) hgb (setCell_grown _ _ _ _))
            clear hcell HO HG
            go_wp2
            go_roundw
            case rel => exact ⟨j + 1, _, rfl, by omega, unhide HO2, by simpa using unhide HYl, unhide HG2⟩
            case measure => simp [intOf]; omega
          · have hlt2' : ¬ (j : Int) < (t : Int) := by omega
            have M7 := hide ((unhide HM).grown (unhide HG))
            have R7 := hide ((unhide HR).grown (unhide HG))
            have c0 := (unhide R7).num
            have c1 := (unhide R7).val
            obtain ⟨lo, lcap, hlu, _, _, _⟩ := (unhide R7).list.form
            subst hlu
            clear HO HYl
            go_wp2_with fail
            go_quiet (first | (go_at_call 13; exact Calls.quiet_of_same (Size_any _ b n v L ((unhide M7).drewN _))) | (go_at_call 14; exact Calls.quiet_of_same (Blocks_any _ b n v L ((unhide M7).drewN _))))
            go_wp2
            go_ret
            exact ⟨by simp, grown_drewN' (unhide HG) _⟩
end Go.Proofs.Ythjcdibblhcgpaa
