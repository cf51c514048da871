/-
  DERIVED. Upcasters and their changes in memory; the map of the first ones.
-/
import Derived.Test.YtfgjbmpbailebaaDoorUpM
import Derived.Test.YtfgjbmpbailebaaDoorShq
import Derived.Deep.Slices
import Derived.DeepKeys4
import Derived.ChangeSame
namespace Go.Proofs.YtfgjbmpbailebaaDoor
open Go.RowKit Go.Maps
set_option linter.unusedVariables false

abbrev cgv (c : Chg) : Array Value := #[.int .i64 c.kind, sv c.name, sv c.tn, sv c.f.name, .bool c.f.text, .int .i64 c.f.n, sv c.f.s]

/-- The cells of a change, from a place on. -/
def CgAt (w : World) (b o : Nat) (c : Chg) : Prop :=
  w.cell? ⟨b, o, none⟩ = some (.int .i64 c.kind) ∧ w.cell? ⟨b, o + 1, none⟩ = some (sv c.name) ∧ w.cell? ⟨b, o + 2, none⟩ = some (sv c.tn) ∧ w.cell? ⟨b, o + 3, none⟩ = some (sv c.f.name) ∧ w.cell? ⟨b, o + 4, none⟩ = some (.bool c.f.text) ∧ w.cell? ⟨b, o + 5, none⟩ = some (.int .i64 c.f.n) ∧ w.cell? ⟨b, o + 6, none⟩ = some (sv c.f.s)
theorem CgAt.below {B : Nat} {w w' : World} {b o : Nat} {c : Chg} (h : CgAt w b o c) (hb : Below B w w') (hB : w.heap.size ≤ B) : CgAt w' b o c := by
  obtain ⟨h0, h1, h2, h3, h4, h5, h6⟩ := h
  exact ⟨cell_kept hb hB h0, cell_kept hb hB h1, cell_kept hb hB h2, cell_kept hb hB h3, cell_kept hb hB h4, cell_kept hb hB h5, cell_kept hb hB h6⟩

/-- A slice of changes that reads as these. -/
def ChL (w : World) (v : Value) (cs : List Chg) : Prop :=
  ∃ ao cap, v = .slice ao cs.length cap ∧ cs.length ≤ cap ∧ cap ≤ 9223372036854775807 ∧
    (cs.length ≠ 0 → ∃ b off, ao = some ⟨b, off, none⟩ ∧ b < w.heap.size ∧ ∀ i c, cs[i]? = some c → CgAt w b (off + i * 7) c)
theorem ChL.below {B : Nat} {w w' : World} {v : Value} {cs : List Chg} (h : ChL w v cs) (hb : Below B w w') (hB : w.heap.size ≤ B) : ChL w' v cs := by
  obtain ⟨ao, cap, rfl, h1, h2, h4⟩ := h
  refine ⟨ao, cap, rfl, h1, h2, fun hz => ?_⟩
  obtain ⟨b, off, e, hlt, hc⟩ := h4 hz
  exact ⟨b, off, e, by have := hb.size; omega, fun i c hi => (hc i c hi).below hb hB⟩
theorem ChL.slice {w : World} {v : Value} {cs : List Chg} (h : ChL w v cs) : ∃ a c, v = .slice a cs.length c := by
  obtain ⟨ao, cap, rfl, _⟩ := h; exact ⟨_, _, rfl⟩

abbrev uv (t : List UInt8) (v : Int) (x : Value) : Array Value := #[sv t, .int .i64 v, x]
/-- The cells of an upcaster. -/
def UpAt (w : World) (b o : Nat) (u : Upc) : Prop :=
  w.cell? ⟨b, o, none⟩ = some (sv u.type) ∧ w.cell? ⟨b, o + 1, none⟩ = some (.int .i64 u.frm) ∧ ∃ a c, w.cell? ⟨b, o + 2, none⟩ = some (.slice a u.chs.length c) ∧ ChL w (.slice a u.chs.length c) u.chs
theorem UpAt.below {B : Nat} {w w' : World} {b o : Nat} {u : Upc} (h : UpAt w b o u) (hb : Below B w w') (hB : w.heap.size ≤ B) : UpAt w' b o u := by
  obtain ⟨h0, h1, a, c, h2, h3⟩ := h
  exact ⟨cell_kept hb hB h0, cell_kept hb hB h1, a, c, cell_kept hb hB h2, h3.below hb hB⟩
/-- A slice of upcasters that reads as these. -/
def UpL (w : World) (v : Value) (us : List Upc) : Prop :=
  ∃ ao cap, v = .slice ao us.length cap ∧ us.length ≤ cap ∧ cap ≤ 9223372036854775807 ∧
    (us.length ≠ 0 → ∃ b off, ao = some ⟨b, off, none⟩ ∧ b < w.heap.size ∧ ∀ i u, us[i]? = some u → UpAt w b (off + i * 3) u)
theorem UpL.below {B : Nat} {w w' : World} {v : Value} {us : List Upc} (h : UpL w v us) (hb : Below B w w') (hB : w.heap.size ≤ B) : UpL w' v us := by
  obtain ⟨ao, cap, rfl, h1, h2, h4⟩ := h
  refine ⟨ao, cap, rfl, h1, h2, fun hz => ?_⟩
  obtain ⟨b, off, e, hlt, hc⟩ := h4 hz
  exact ⟨b, off, e, by have := hb.size; omega, fun i u hi => (hc i u hi).below hb hB⟩
theorem UpL.at {w : World} {a : Option Addr} {n c : Nat} {us : List Upc} (h : UpL w (.slice a n c) us) {i : Nat} {u : Upc} (hi : us[i]? = some u) : ∃ b off, a = some ⟨b, off, none⟩ ∧ UpAt w b (off + i * 3) u := by
  obtain ⟨ao, cap, e, h1, h2, h4⟩ := h
  cases e
  obtain ⟨b, off, e, hlt, hc⟩ := h4 (by have := (List.getElem?_eq_some_iff.1 hi).1; omega)
  exact ⟨b, off, e, hc i u hi⟩
theorem ChL.at {w : World} {a : Option Addr} {n c : Nat} {us : List Chg} (h : ChL w (.slice a n c) us) {i : Nat} {u : Chg} (hi : us[i]? = some u) : ∃ b off, a = some ⟨b, off, none⟩ ∧ CgAt w b (off + i * 7) u := by
  obtain ⟨ao, cap, e, h1, h2, h4⟩ := h
  cases e
  obtain ⟨b, off, e, hlt, hc⟩ := h4 (by have := (List.getElem?_eq_some_iff.1 hi).1; omega)
  exact ⟨b, off, e, hc i u hi⟩
theorem UpL.len {w : World} {a : Option Addr} {n c : Nat} {us : List Upc} (h : UpL w (.slice a n c) us) : n = us.length ∧ us.length ≤ c ∧ c ≤ 9223372036854775807 := by
  obtain ⟨ao, cap, e, h1, h2, h4⟩ := h
  cases e
  exact ⟨rfl, h1, h2⟩
theorem ChL.len {w : World} {a : Option Addr} {n c : Nat} {us : List Chg} (h : ChL w (.slice a n c) us) : n = us.length ∧ us.length ≤ c ∧ c ≤ 9223372036854775807 := by
  obtain ⟨ao, cap, e, h1, h2, h4⟩ := h
  cases e
  exact ⟨rfl, h1, h2⟩

/-- What the machine bears. -/
def fitC (c : Chg) : Prop := c.name.length ≤ 9223372036854775807 ∧ c.tn.length ≤ 9223372036854775807 ∧ c.f.name.length ≤ 9223372036854775807 ∧ c.f.s.length ≤ 9223372036854775807 ∧ (-9223372036854775808 ≤ c.f.n ∧ c.f.n ≤ 9223372036854775807) ∧ -9223372036854775808 ≤ c.kind ∧ c.kind ≤ 9223372036854775807
theorem fitC.f {c : Chg} (h : fitC c) : fits c.f := ⟨by have := h.2.2.1; omega, by have := h.2.2.2.1; omega, h.2.2.2.2.1⟩
def fitU (u : Upc) : Prop := u.type.length ≤ 9223372036854775807 ∧ (-9223372036854775808 ≤ u.frm ∧ u.frm ≤ 9223372036854775807) ∧ (∀ c ∈ u.chs, fitC c)

/-! ### The key of a step -/
abbrev stepV (t : List UInt8) (v : Int) : Value := .agg #[sv t, .int .i64 v]
theorem laid_out' : laidOutB Tryd.prog = true := by kernel_rfl
theorem keyedU : Keyed Tryd.prog 47 := Keyed.of_law (deep_law_laid laid_out' (m := 3) (by omega) (k := 47) (by decide +kernel) (by kernel_rfl) (by kernel_rfl))
def slit (t : List UInt8) (v : Int) : Lit := .string (keyBytes [.string t, .int .i64 v])
theorem Tryd.cellsStr' : Tryd.prog.cellsOf 9 = 1 := by kernel_rfl
theorem Tryd.cellsInt' : Tryd.prog.cellsOf 3 = 1 := by kernel_rfl
theorem Tryd.cellsStep : Tryd.prog.cellsOf 47 = 2 := by kernel_rfl
theorem Tryd.underStep : ∃ f0 f1, Tryd.prog.underlying 47 = some (.struct #[f0, f1]) ∧ f0.offset = 0 ∧ f1.offset = 1 ∧ f0.type = 9 ∧ f1.type = 3 ∧ (f0.name != "_") = true ∧ (f1.name != "_") = true := ⟨_, _, Tryd.underlying47, rfl, rfl, rfl, rfl, by decide, by decide⟩
theorem lits_str {m : Nat} {t : List UInt8} (ht : t.length ≤ 9223372036854775807) : Tryd.prog.keyLits (m + 1) 9 [sv t] = some [.string t] := by
  unfold Program.keyLits
  have hz : (⟨t.toArray⟩ : ByteArray).size ≤ maxLen := by show t.length ≤ maxLen; unfold maxLen; omega
  simp [Tryd.underlying9, hz]
theorem lits_int {m : Nat} {v : Int} (h0 : -9223372036854775808 ≤ v) (h1 : v ≤ 9223372036854775807) : Tryd.prog.keyLits (m + 1) 3 [.int .i64 v] = some [.int .i64 v] := by
  unfold Program.keyLits
  have hw : (Lit.int .i64 v).wf = true := by
    have e0 : IntKind.i64.min = -9223372036854775808 := by decide
    have e1 : IntKind.i64.max = 9223372036854775807 := by decide
    simp [Lit.wf, e0, e1, h0, h1]
  simp [Tryd.underlying3, hw]
theorem slit_key {t : List UInt8} {v : Int} (ht : t.length ≤ 9223372036854775807) (h0 : -9223372036854775808 ≤ v) (h1 : v ≤ 9223372036854775807) : keyOf Tryd.prog 47 (stepV t v) = some (slit t v) := by
  obtain ⟨f0, f1, hu, o0, o1, t0, t1, n0, n1⟩ := Tryd.underStep
  have hkt : Tryd.prog.keyType 47 = true := by kernel_rfl
  have hsz : ∃ m, Tryd.prog.types.size = m + 1 := ⟨Tryd.prog.types.size - 1, by kernel_rfl⟩
  obtain ⟨m, hm⟩ := hsz
  unfold keyOf
  simp only [hu]
  rw [if_pos (by simp [hkt, Value.formed, hu, Tryd.cellsStep]), hm]
  unfold Program.keyLits
  simp only [hu, Value.cells]
  rw [if_pos ⟨by rw [Tryd.cellsStep]; rfl, by simp [n0, n1]⟩]
  simp only [List.mapM_cons, List.mapM_nil, o0, o1, t0, t1, Tryd.cellsStr', Tryd.cellsInt']
  simp only [List.drop_zero, List.take_succ_cons, List.take_zero, List.drop_succ_cons]
  rw [lits_str ht, lits_int h0 h1]
  rfl
theorem slit_inj {t t' : List UInt8} {v v' : Int} (ht : t.length ≤ 9223372036854775807) (h0 : -9223372036854775808 ≤ v) (h1 : v ≤ 9223372036854775807) (ht' : t'.length ≤ 9223372036854775807) (h0' : -9223372036854775808 ≤ v') (h1' : v' ≤ 9223372036854775807) (h : slit t v = slit t' v') : t = t' ∧ v = v' := by
  have k1 := slit_key ht h0 h1
  have k2 := slit_key ht' h0' h1'
  rw [← h] at k2
  have := keyedU.inj k1 k2
  simp only [Value.agg.injEq, Array.mk.injEq, List.cons.injEq, Value.string.injEq, Value.int.injEq, true_and, and_true, ByteArray.mk.injEq] at this
  exact ⟨this.1, this.2⟩
end Go.Proofs.YtfgjbmpbailebaaDoor
