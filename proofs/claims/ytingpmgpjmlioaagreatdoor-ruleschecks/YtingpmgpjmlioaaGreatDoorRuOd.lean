/-
  DERIVED. How a slice whose things have several cells is opened; expressions and conditions as arguments.
-/
import Derived.Test.YtingpmgpjmlioaaGreatDoorRuT
import Derived.Test.YtingpmgpjmlioaaGreatDoorShopen2
import Derived.Deep.Slices
import Derived.Lib.SmallJoins
import Derived.ChangeSame
import Derived.SizedLaws
import Derived.Test.YtingpmgpjmlioaaGreatDoorRuY
namespace Go.Proofs.YtingpmgpjmlioaaGreatDoor
open Go.ChangeShapes Go.WideShapes Go.ChangeAt Go.RowKit
set_option linter.unusedVariables false

/-- No part of a datum is too great. -/
def WtOk {H : Type} (t : TypeId) (d : DataW H) : Prop := ∀ z ∈ d.weights Tryz.prog t, z ≤ reachBytes
theorem WtOk.all {H : Type} {e : TypeId} {l : List (DataW H)} (h : ∀ z ∈ DataW.weightsAll Tryz.prog e l, z ≤ reachBytes) : ∀ d ∈ l, WtOk e d := by
  induction l with
  | nil => intro d hd; simp at hd
  | cons x r ih =>
    intro d hd
    simp only [DataW.weightsAll, List.mem_append] at h
    rcases List.mem_cons.1 hd with rfl | hd
    · exact fun z hz => h z (.inl hz)
    · exact ih (fun z hz => h z (.inr hz)) d hd
theorem WtOk.each {H : Type} {ts : List TypeId} {l : List (DataW H)} (h : ∀ z ∈ DataW.weightsEach Tryz.prog ts l, z ≤ reachBytes) {i : Nat} {t : TypeId} {d : DataW H} (ht : ts[i]? = some t) (hd : l[i]? = some d) : WtOk t d := fun z hz => h z (DataW.weights_mem_each ht hd z hz)
theorem WtOk.str {H : Type} {t : TypeId} {s : List UInt8} (h : WtOk t (.lit (.string s) : DataW H)) : s.length ≤ 140737488351232 := h s.length (by simp [DataW.weights])

/-- What is read of a type, with so much fuel, is such a thing, wherever its cells lie. -/
def Opens {H α : Type} (enc : TypeId × Value → H) (W : World) (t : TypeId) (sz : Nat) (R : World → Nat → Nat → α → Prop) (fuel : Nat) : Prop :=
  ∀ (n : Nat), n ≤ fuel → ∀ (b o : Nat) (cs : List Value) (y : DataW H × List MemPlace), DataW.trod enc Tryz.prog W 0 (fun _ => true) true n t cs = some y → WtOk t y.1 → (∀ j, j < sz → W.cell? ⟨b, o + j, none⟩ = cs[j]?) → ∃ x, R W b o x

theorem open_rows {H α : Type} [Inhabited α] {enc : TypeId × Value → H} {W : World} {t e : TypeId} {sz bt : Nat} {R : World → Nat → Nat → α → Prop} {fuel n : Nat} {v : Value} {y : DataW H × List MemPlace} (ht : Tryz.prog.underlying t = some (.slice e)) (hsz : Tryz.prog.cellsOf e = sz) (hbt : Tryz.prog.bytesOf e = bt) (hpos : 0 < sz) (hn : n ≤ fuel + 1) (hEl : Opens enc W e sz R fuel)
    (h : DataW.trod enc Tryz.prog W 0 (fun _ => true) true n t [v] = some y) (hw : WtOk t y.1) :
    ∃ (a : Option Addr) (c : Nat) (l : List α), v = .slice a l.length c ∧ SlOf sz R W (.slice a l.length c) l ∧ l.length * bt ≤ 140737488351232 ∧ (c ≠ 0 → ∃ b off, a = some ⟨b, off, none⟩ ∧ b < W.heap.size) := by
  rcases DataW.trod_slice ht h with ⟨hcs, hx⟩ | ⟨a, len, cap, elems, rest, m, hm, hcs, rfl, hb, hl, hc63, hlen, hel, hsp, hns⟩
  · simp only [List.cons.injEq, and_true] at hcs
    subst hcs
    exact ⟨none, 0, [], rfl, SlOf.nil W, by simp, fun h => absurd rfl h⟩
  · simp only [List.cons.injEq, and_true] at hcs
    subst hcs
    obtain ⟨hrl, hrest⟩ := hsp rfl
    simp only [WtOk, DataW.weights, ht, List.mem_cons, List.mem_append, List.length_map] at hw
    have hw0 := hw ((elems.length + rest.length) * Tryz.prog.bytesOf e) (.inl rfl)
    have hwe := WtOk.all (l := elems.map (·.1)) (e := e) (fun z hz => hw z (.inr (.inl hz)))
    have cellAt : ∀ i, i < cap → ∃ cs', W.cells? 0 (a.add (i * sz)) sz = some cs' := fun i hi => by
      by_cases hil : i < len
      · have := hel i hil
        rw [List.getElem?_eq_getElem (by omega), hsz] at this
        obtain ⟨cs', h1, _⟩ := Option.bind_eq_some_iff.1 this
        exact ⟨cs', h1⟩
      · have := hrest (i - len) (by omega)
        rw [show len + (i - len) = i by omega, List.getElem?_eq_getElem (by omega), hsz] at this
        obtain ⟨cs', h1, _⟩ := Option.bind_eq_some_iff.1 this
        exact ⟨cs', h1⟩
    have hspot : cap ≠ 0 → a.spot = none ∧ a.block < W.heap.size := fun hz => by
      obtain ⟨cs', h1⟩ := cellAt 0 (by omega)
      obtain ⟨_, hl1, hc1⟩ := World.cells?_some h1
      have h2 := hc1 0 (by omega)
      obtain ⟨b, off, sp⟩ := a
      have hcl : ∃ u, W.cell? (((⟨b, off, sp⟩ : Addr).add (0 * sz)).add 0) = some u := ⟨_, h2.trans (List.getElem?_eq_getElem (by omega))⟩
      obtain ⟨u, hu⟩ := hcl
      have hs := World.cell?_spot hu
      have hsp' : sp = none := by
        cases sp with
        | none => rfl
        | some k => simp [Addr.add] at hs
      subst hsp'
      rw [addr_add, addr_add] at hu
      exact ⟨rfl, World.block_lt_of_cell? W ⟨b, off + 0 * sz + 0, none⟩ hu⟩
    have hx : ∀ i, i < len → ∃ x, R W a.block (a.off + i * sz) x := fun i hi => by
      have h0 := hel i hi
      rw [List.getElem?_eq_getElem (by omega), hsz] at h0
      obtain ⟨cs', h1, h2⟩ := Option.bind_eq_some_iff.1 h0
      obtain ⟨_, hl1, hc1⟩ := World.cells?_some h1
      have hsp := (hspot (by omega)).1
      refine hEl m (by omega) a.block (a.off + i * sz) cs' _ h2 (hwe _ (List.mem_map.2 ⟨_, List.getElem_mem _, rfl⟩)) (fun j hj => ?_)
      have := hc1 j hj
      obtain ⟨b, off, sp⟩ := a
      simp only at hsp
      subst hsp
      rw [addr_add, addr_add] at this
      exact this
    obtain ⟨F, hF⟩ := Go.Deep.choose_lt (α := α) hx
    have hfl : ((List.range len).map F).length = len := by simp
    refine ⟨some a, cap, (List.range len).map F, by rw [hfl], ⟨some a, cap, by rw [hfl], by rw [hfl]; exact hl, by unfold maxLen at hc63; omega, fun hz => ?_⟩, ?_, fun hz => ?_⟩
    · rw [hfl] at hz
      obtain ⟨h1, h2⟩ := hspot (by omega)
      refine ⟨a.block, a.off, by obtain ⟨b, off, sp⟩ := a; simp only at h1; subst h1; rfl, h2, fun i x hi => ?_⟩
      rw [List.getElem?_map, Option.map_eq_some_iff] at hi
      obtain ⟨i', hi1, rfl⟩ := hi
      obtain ⟨hi2, rfl⟩ := List.getElem?_eq_some_iff.1 hi1
      rw [List.getElem_range]
      exact hF i (by simpa using hi2)
    · rw [hfl]
      rw [hbt] at hw0
      simp only [reachBytes] at hw0
      have : len * bt ≤ (elems.length + rest.length) * bt := Nat.mul_le_mul_right _ (by omega)
      omega
    · obtain ⟨h1, h2⟩ := hspot hz
      exact ⟨a.block, a.off, by obtain ⟨b, off, sp⟩ := a; simp only at h1; subst h1; rfl, h2⟩

/-! ### Expressions -/
theorem Tryz.cellsEx : Tryz.prog.cellsOf 44 = 4 := by kernel_rfl
theorem Tryz.cellsExs : Tryz.prog.cellsOf 42 = 1 := by kernel_rfl
theorem Tryz.bytesEx : Tryz.prog.bytesOf 44 = 56 := by kernel_rfl
theorem Tryz.underEx : ∃ f0 f1 f2 f3, Tryz.prog.underlying 44 = some (.struct #[f0, f1, f2, f3]) ∧ (f0.offset = 0 ∧ f1.offset = 1 ∧ f2.offset = 2 ∧ f3.offset = 3) ∧ f0.type = 3 ∧ f1.type = 3 ∧ f2.type = 9 ∧ f3.type = 42 := ⟨_, _, _, _, Tryz.underlying44, ⟨rfl, rfl, rfl, rfl⟩, rfl, rfl, rfl, rfl⟩
instance : Inhabited Ex := ⟨.mk 0 0 [] []⟩

theorem exL_at {W : World} {k n : Int} {s : List UInt8} {a : Option Addr} {c : Nat} {l : List Ex} (hs : SlOf 4 ExC W (.slice a l.length c) l) (hroom : c ≠ 0 → ∃ b off, a = some ⟨b, off, none⟩ ∧ b < W.heap.size) (hk : I64 k) (hn : I64 n) (ht : s.length ≤ 140737488355328) : ExAt W (.mk k n s l) a c := by
  obtain ⟨_, hl1, hl2⟩ := hs.len
  by_cases hz : c = 0
  · have hl0 : l = [] := List.length_eq_zero_iff.1 (by omega)
    subst hl0
    subst hz
    exact .mk _ a 0 0 0 (fun _ => none) (fun _ => 0) (by simp [Ex.args]) (by omega) (fun h => absurd rfl h) hk hn ht (fun i h => by simp [Ex.args] at h) (fun i h => by simp [Ex.args] at h)
  · obtain ⟨b, off, rfl, hb⟩ := hroom hz
    have hx : ∀ i, i < l.length → ∃ q : Option Addr × Nat, ∀ (h : i < l.length), W.cell? ⟨b, off + i * 4, none⟩ = some (.int .i64 l[i].kind) ∧ W.cell? ⟨b, off + i * 4 + 1, none⟩ = some (.int .i64 l[i].n) ∧ W.cell? ⟨b, off + i * 4 + 2, none⟩ = some (sv l[i].s) ∧ W.cell? ⟨b, off + i * 4 + 3, none⟩ = some (.slice q.1 l[i].args.length q.2) ∧ ExAt W l[i] q.1 q.2 := fun i hi => by
      obtain ⟨b', off', e, _, hat⟩ := hs.at (List.getElem?_eq_getElem hi)
      cases e
      obtain ⟨h0, h1, h2, a', c', h3, h4⟩ := hat
      exact ⟨(a', c'), fun _ => ⟨h0, h1, h2, h3, h4⟩⟩
    obtain ⟨F, hF⟩ := Go.Deep.choose_lt (α := Option Addr × Nat) hx
    exact .mk _ _ c b off (fun i => (F i).1) (fun i => (F i).2) hl1 hl2 (fun _ => ⟨rfl, hb⟩) hk hn ht (fun i h => ⟨(hF i h h).1, (hF i h h).2.1, (hF i h h).2.2.1, (hF i h h).2.2.2.1⟩) (fun i h => (hF i h h).2.2.2.2)

set_option maxRecDepth 100000 in
theorem open_ex {H : Type} (enc : TypeId × Value → H) (W : World) : ∀ fuel, Opens enc W 44 4 ExC fuel
  | 0 => by
    intro n hn b o cs y h _ _
    have : n = 0 := by omega
    subst this
    simp [DataW.trod] at h
  | fuel + 1 => by
    intro n hn b o cs y h hw hc
    obtain ⟨f0, f1, f2, f3, hu, ⟨o0, o1, o2, o3⟩, t0, t1, t2, t3⟩ := Tryz.underEx
    obtain ⟨xs, k, hk, rfl, hlen, hxl, hfl⟩ := DataW.trod_struct hu h
    rw [Tryz.cellsEx] at hlen
    match xs, hxl, cs, hlen with
    | [x0, x1, x2, x3], _, [c0, c1, c2, c3], _ =>
      have g0 := hfl 0 f0 rfl
      have g1 := hfl 1 f1 rfl
      have g2 := hfl 2 f2 rfl
      have g3 := hfl 3 f3 rfl
      rw [o0, t0, Tryz.cellsInt] at g0
      rw [o1, t1, Tryz.cellsInt] at g1
      rw [o2, t2, Tryz.cellsStr] at g2
      rw [o3, t3, Tryz.cellsExs] at g3
      simp only [WtOk, DataW.weights, hu, List.map_cons, List.map_nil] at hw
      have w2 := WtOk.each hw (i := 2) (t := 9) (d := x2.1) (by simp [t2]) (by simp)
      have w3 := WtOk.each hw (i := 3) (t := 42) (d := x3.1) (by simp [t3]) (by simp)
      obtain ⟨b0, e0, _, wf0⟩ := DataW.trod_int Tryz.underlying3 g0
      obtain ⟨b1, e1, _, wf1⟩ := DataW.trod_int Tryz.underlying3 g1
      obtain ⟨b2, e2, hx2, wf2⟩ := DataW.trod_string Tryz.underlying9 g2
      simp at e0 e1 e2
      subst e0 e1 e2
      have bn0 := bounds_i64 wf0
      have bn1 := bounds_i64 wf1
      simp at g3
      obtain ⟨a, c, l, rfl, hs, _, hroom⟩ := open_rows (fuel := fuel) (n := k) Tryz.underlying42 Tryz.cellsEx Tryz.bytesEx (by decide) (by omega) (open_ex enc W fuel) g3 w3
      have hs2 : b2.data.toList.length ≤ 140737488355328 := by
        rw [hx2] at w2
        have := w2.str
        omega
      refine ⟨.mk b0 b1 b2.data.toList l, hc 0 (by omega), hc 1 (by omega), ?_, a, c, hc 3 (by omega), exL_at hs hroom ⟨by omega, by omega⟩ ⟨by omega, by omega⟩ hs2⟩
      have := hc 2 (by omega)
      rw [show sv (Ex.mk b0 b1 b2.data.toList l).s = Value.string b2 from (str_list b2).symm]
      exact this
end Go.Proofs.YtingpmgpjmlioaaGreatDoor

namespace Go.Proofs.YtingpmgpjmlioaaGreatDoor
open Go.ChangeShapes Go.WideShapes Go.ChangeAt Go.RowKit
set_option linter.unusedVariables false

theorem SlOf.split {α : Type} {sz : Nat} {At : World → Nat → Nat → α → Prop} {F : α → Prop} {w : World} {v : Value} {l : List α} (h : SlOf sz (fun w b o x => At w b o x ∧ F x) w v l) : SlOf sz At w v l ∧ ∀ x ∈ l, F x := by
  refine ⟨?_, fun x hx => by obtain ⟨_, _, hr⟩ := h.mem hx; exact hr.2⟩
  obtain ⟨ao, cap, rfl, h1, h2, h4⟩ := h
  refine ⟨ao, cap, rfl, h1, h2, fun hz => ?_⟩
  obtain ⟨b, off, e, hlt, hc⟩ := h4 hz
  exact ⟨b, off, e, hlt, fun i x hi => (hc i x hi).1⟩

/-! ### A text in a row -/
theorem Tryz.bytesSt : Tryz.prog.bytesOf 9 = 16 := by kernel_rfl
theorem Tryz.cellsSt : Tryz.prog.cellsOf 9 = 1 := by kernel_rfl
def fitSt (s : List UInt8) : Prop := s.length ≤ 140737488355328
theorem open_St {H : Type} (enc : TypeId × Value → H) (W : World) (fuel : Nat) : Opens enc W 9 1 (fun w b o x => StAt w b o x ∧ fitSt x) fuel := by
  intro n hn b o cs y h hw hc
  obtain ⟨b0, e0, hx0, wf0⟩ := DataW.trod_string Tryz.underlying9 h
  subst e0
  rw [hx0] at hw
  have := hw.str
  refine ⟨b0.data.toList, ?_, by unfold fitSt; omega⟩
  unfold StAt
  rw [← str_list]
  exact hc 0 (by omega)

def fitNe (x : Ne) : Prop := x.nm.length ≤ 140737488355328
theorem Tryz.cellsNe : Tryz.prog.cellsOf 96 = 2 := by kernel_rfl
theorem Tryz.bytesNe : Tryz.prog.bytesOf 96 = 24 := by kernel_rfl
theorem Tryz.underNe : ∃ f0 f1, Tryz.prog.underlying 96 = some (.struct #[f0, f1]) ∧ (f0.offset = 0 ∧ f1.offset = 1) ∧ f0.type = 9 ∧ f1.type = 4 := ⟨_, _, Tryz.underlying96, ⟨rfl, rfl⟩, rfl, rfl⟩
instance : Inhabited Ne := ⟨⟨[], false⟩⟩
set_option maxRecDepth 100000 in
theorem open_Ne {H : Type} (enc : TypeId × Value → H) (W : World) (fuel : Nat) : Opens enc W 96 2 (fun w b o x => NeAt w b o x ∧ fitNe x) fuel := by
  intro n hn b o cs y h hw hc
  obtain ⟨f0, f1, hu, ⟨o0, o1⟩, t0, t1⟩ := Tryz.underNe
  obtain ⟨xs, k, hk, rfl, hlen, hxl, hfl⟩ := DataW.trod_struct hu h
  rw [Tryz.cellsNe] at hlen
  match xs, hxl, cs, hlen with
  | [x0, x1], _, [c0, c1], _ =>
    have g0 := hfl 0 f0 rfl
    have g1 := hfl 1 f1 rfl
    rw [o0, t0, Tryz.cellsStr] at g0
    rw [o1, t1, Tryz.cellsBool] at g1
    simp only [WtOk, DataW.weights, hu, List.map_cons, List.map_nil] at hw
    have w0 := WtOk.each hw (i := 0) (t := 9) (d := x0.1) (by simp [t0]) (by simp)
    obtain ⟨b0, e0, hx0, wf0⟩ := DataW.trod_string Tryz.underlying9 g0
    simp at e0
    subst e0
    rw [hx0] at w0
    have ls0 := w0.str
    obtain ⟨b1, e1, _⟩ := DataW.trod_bool Tryz.underlying4 g1
    simp at e1
    subst e1
    exact ⟨⟨b0.data.toList, b1⟩, ⟨(by rw [← str_list]; exact hc 0 (by omega)), hc 1 (by omega)⟩, (by show b0.data.toList.length ≤ _; omega)⟩

theorem Tryz.cellsAs : Tryz.prog.cellsOf 77 = 5 := by kernel_rfl
theorem Tryz.bytesAs : Tryz.prog.bytesOf 77 = 72 := by kernel_rfl
theorem Tryz.underAs : ∃ f0 f1, Tryz.prog.underlying 77 = some (.struct #[f0, f1]) ∧ (f0.offset = 0 ∧ f1.offset = 1) ∧ f0.type = 9 ∧ f1.type = 44 := ⟨_, _, Tryz.underlying77, ⟨rfl, rfl⟩, rfl, rfl⟩
instance : Inhabited As := ⟨⟨[], default⟩⟩
set_option maxRecDepth 100000 in
theorem open_As {H : Type} (enc : TypeId × Value → H) (W : World) (fuel : Nat) : Opens enc W 77 5 (fun w b o x => AsAt w b o x ∧ fitAs x) fuel := by
  intro n hn b o cs y h hw hc
  obtain ⟨f0, f1, hu, ⟨o0, o1⟩, t0, t1⟩ := Tryz.underAs
  obtain ⟨xs, k, hk, rfl, hlen, hxl, hfl⟩ := DataW.trod_struct hu h
  rw [Tryz.cellsAs] at hlen
  match xs, hxl, cs, hlen with
  | [x0, x1], _, [c0, c1, c2, c3, c4], _ =>
    have g0 := hfl 0 f0 rfl
    have g1 := hfl 1 f1 rfl
    rw [o0, t0, Tryz.cellsStr] at g0
    rw [o1, t1, Tryz.cellsEx] at g1
    simp only [WtOk, DataW.weights, hu, List.map_cons, List.map_nil] at hw
    have w0 := WtOk.each hw (i := 0) (t := 9) (d := x0.1) (by simp [t0]) (by simp)
    have w1 := WtOk.each hw (i := 1) (t := 44) (d := x1.1) (by simp [t1]) (by simp)
    obtain ⟨b0, e0, hx0, wf0⟩ := DataW.trod_string Tryz.underlying9 g0
    simp at e0
    subst e0
    rw [hx0] at w0
    have ls0 := w0.str
    simp only [List.take_succ_cons, List.drop, List.take] at g1
    obtain ⟨z1, hz1⟩ := open_ex enc W fuel k (by omega) b (o + 1) _ _ g1 w1 (fun j hj => by
      match j, hj with
      | 0, _ => exact hc 1 (by omega)
      | 1, _ => exact hc 2 (by omega)
      | 2, _ => exact hc 3 (by omega)
      | 3, _ => exact hc 4 (by omega)
      | j + 4, hj => omega)
    exact ⟨⟨b0.data.toList, z1⟩, ⟨(by rw [← str_list]; exact hc 0 (by omega)), hz1⟩, (by show b0.data.toList.length ≤ _; omega)⟩

theorem Tryz.cellsCd : Tryz.prog.cellsOf 46 = 10 := by kernel_rfl
theorem Tryz.bytesCd : Tryz.prog.bytesOf 46 = 128 := by kernel_rfl
theorem Tryz.underCd : ∃ f0 f1 f2 f3, Tryz.prog.underlying 46 = some (.struct #[f0, f1, f2, f3]) ∧ (f0.offset = 0 ∧ f1.offset = 1 ∧ f2.offset = 2 ∧ f3.offset = 6) ∧ f0.type = 3 ∧ f1.type = 4 ∧ f2.type = 44 ∧ f3.type = 44 := ⟨_, _, _, _, Tryz.underlying46, ⟨rfl, rfl, rfl, rfl⟩, rfl, rfl, rfl, rfl⟩
instance : Inhabited Cd := ⟨⟨0, false, default, default⟩⟩
set_option maxRecDepth 100000 in
theorem open_Cd {H : Type} (enc : TypeId × Value → H) (W : World) (fuel : Nat) : Opens enc W 46 10 (fun w b o x => CdAt w b o x ∧ (fun _ => True) x) fuel := by
  intro n hn b o cs y h hw hc
  obtain ⟨f0, f1, f2, f3, hu, ⟨o0, o1, o2, o3⟩, t0, t1, t2, t3⟩ := Tryz.underCd
  obtain ⟨xs, k, hk, rfl, hlen, hxl, hfl⟩ := DataW.trod_struct hu h
  rw [Tryz.cellsCd] at hlen
  match xs, hxl, cs, hlen with
  | [x0, x1, x2, x3], _, [c0, c1, c2, c3, c4, c5, c6, c7, c8, c9], _ =>
    have g0 := hfl 0 f0 rfl
    have g1 := hfl 1 f1 rfl
    have g2 := hfl 2 f2 rfl
    have g3 := hfl 3 f3 rfl
    rw [o0, t0, Tryz.cellsInt] at g0
    rw [o1, t1, Tryz.cellsBool] at g1
    rw [o2, t2, Tryz.cellsEx] at g2
    rw [o3, t3, Tryz.cellsEx] at g3
    simp only [WtOk, DataW.weights, hu, List.map_cons, List.map_nil] at hw
    have w2 := WtOk.each hw (i := 2) (t := 44) (d := x2.1) (by simp [t2]) (by simp)
    have w3 := WtOk.each hw (i := 3) (t := 44) (d := x3.1) (by simp [t3]) (by simp)
    obtain ⟨b0, e0, _, wf0⟩ := DataW.trod_int Tryz.underlying3 g0
    simp at e0
    subst e0
    obtain ⟨b1, e1, _⟩ := DataW.trod_bool Tryz.underlying4 g1
    simp at e1
    subst e1
    simp only [List.take_succ_cons, List.drop, List.take] at g2
    obtain ⟨z2, hz2⟩ := open_ex enc W fuel k (by omega) b (o + 2) _ _ g2 w2 (fun j hj => by
      match j, hj with
      | 0, _ => exact hc 2 (by omega)
      | 1, _ => exact hc 3 (by omega)
      | 2, _ => exact hc 4 (by omega)
      | 3, _ => exact hc 5 (by omega)
      | j + 4, hj => omega)
    simp only [List.take_succ_cons, List.drop, List.take] at g3
    obtain ⟨z3, hz3⟩ := open_ex enc W fuel k (by omega) b (o + 6) _ _ g3 w3 (fun j hj => by
      match j, hj with
      | 0, _ => exact hc 6 (by omega)
      | 1, _ => exact hc 7 (by omega)
      | 2, _ => exact hc 8 (by omega)
      | 3, _ => exact hc 9 (by omega)
      | j + 4, hj => omega)
    exact ⟨⟨b0, b1, z2, z3⟩, ⟨hc 0 (by omega), hc 1 (by omega), hz2, hz3⟩, trivial⟩

def bigEm (m : Em) : Prop := fitEm m ∧ m.sets.length * 72 ≤ 140737488351232
theorem Tryz.cellsEm : Tryz.prog.cellsOf 94 = 2 := by kernel_rfl
theorem Tryz.bytesEm : Tryz.prog.bytesOf 94 = 40 := by kernel_rfl
theorem Tryz.cellsAss : Tryz.prog.cellsOf 71 = 1 := by kernel_rfl
theorem Tryz.underEm : ∃ f0 f1, Tryz.prog.underlying 94 = some (.struct #[f0, f1]) ∧ (f0.offset = 0 ∧ f1.offset = 1) ∧ f0.type = 9 ∧ f1.type = 71 := ⟨_, _, Tryz.underlying94, ⟨rfl, rfl⟩, rfl, rfl⟩
instance : Inhabited Em := ⟨⟨[], []⟩⟩
set_option maxRecDepth 100000 in
theorem open_Em {H : Type} (enc : TypeId × Value → H) (W : World) (fuel : Nat) : Opens enc W 94 2 (fun w b o x => EmAt w b o x ∧ bigEm x) fuel := by
  intro n hn b o cs y h hw hc
  obtain ⟨f0, f1, hu, ⟨o0, o1⟩, t0, t1⟩ := Tryz.underEm
  obtain ⟨xs, k, hk, rfl, hlen, hxl, hfl⟩ := DataW.trod_struct hu h
  rw [Tryz.cellsEm] at hlen
  match xs, hxl, cs, hlen with
  | [x0, x1], _, [c0, c1], _ =>
    have g0 := hfl 0 f0 rfl
    have g1 := hfl 1 f1 rfl
    rw [o0, t0, Tryz.cellsStr] at g0
    rw [o1, t1, Tryz.cellsAss] at g1
    simp only [WtOk, DataW.weights, hu, List.map_cons, List.map_nil] at hw
    have w0 := WtOk.each hw (i := 0) (t := 9) (d := x0.1) (by simp [t0]) (by simp)
    have w1 := WtOk.each hw (i := 1) (t := 71) (d := x1.1) (by simp [t1]) (by simp)
    obtain ⟨b0, e0, hx0, wf0⟩ := DataW.trod_string Tryz.underlying9 g0
    simp at e0
    subst e0
    rw [hx0] at w0
    have ls0 := w0.str
    simp at g1
    obtain ⟨a1, cc1, l1, rfl, hs1, hb1, hr1⟩ := open_rows (fuel := fuel) (n := k) Tryz.underlying71 Tryz.cellsAs Tryz.bytesAs (by decide) (by omega) (open_As enc W fuel) g1 w1
    obtain ⟨hs1, hf1⟩ := hs1.split
    exact ⟨⟨b0.data.toList, l1⟩, ⟨(by rw [← str_list]; exact hc 0 (by omega)), a1, cc1, hc 1 (by omega), hs1⟩, ⟨(by show b0.data.toList.length ≤ _; omega), hf1⟩, hb1⟩

def bigCsP (x : Cs) : Prop := fitCs x ∧ x.emits.length * 40 ≤ 140737488351232 ∧ ∀ m ∈ x.emits, m.sets.length * 72 ≤ 140737488351232
theorem Tryz.cellsCs : Tryz.prog.cellsOf 66 = 3 := by kernel_rfl
theorem Tryz.bytesCs : Tryz.prog.bytesOf 66 = 64 := by kernel_rfl
theorem Tryz.cellsCds : Tryz.prog.cellsOf 63 = 1 := by kernel_rfl
theorem Tryz.cellsEms : Tryz.prog.cellsOf 64 = 1 := by kernel_rfl
theorem Tryz.underCs : ∃ f0 f1 f2, Tryz.prog.underlying 66 = some (.struct #[f0, f1, f2]) ∧ (f0.offset = 0 ∧ f1.offset = 1 ∧ f2.offset = 2) ∧ f0.type = 63 ∧ f1.type = 9 ∧ f2.type = 64 := ⟨_, _, _, Tryz.underlying66, ⟨rfl, rfl, rfl⟩, rfl, rfl, rfl⟩
instance : Inhabited Cs := ⟨⟨[], [], []⟩⟩
set_option maxRecDepth 100000 in
theorem open_Cs {H : Type} (enc : TypeId × Value → H) (W : World) (fuel : Nat) : Opens enc W 66 3 (fun w b o x => CsAt w b o x ∧ bigCsP x) fuel := by
  intro n hn b o cs y h hw hc
  obtain ⟨f0, f1, f2, hu, ⟨o0, o1, o2⟩, t0, t1, t2⟩ := Tryz.underCs
  obtain ⟨xs, k, hk, rfl, hlen, hxl, hfl⟩ := DataW.trod_struct hu h
  rw [Tryz.cellsCs] at hlen
  match xs, hxl, cs, hlen with
  | [x0, x1, x2], _, [c0, c1, c2], _ =>
    have g0 := hfl 0 f0 rfl
    have g1 := hfl 1 f1 rfl
    have g2 := hfl 2 f2 rfl
    rw [o0, t0, Tryz.cellsCds] at g0
    rw [o1, t1, Tryz.cellsStr] at g1
    rw [o2, t2, Tryz.cellsEms] at g2
    simp only [WtOk, DataW.weights, hu, List.map_cons, List.map_nil] at hw
    have w0 := WtOk.each hw (i := 0) (t := 63) (d := x0.1) (by simp [t0]) (by simp)
    have w1 := WtOk.each hw (i := 1) (t := 9) (d := x1.1) (by simp [t1]) (by simp)
    have w2 := WtOk.each hw (i := 2) (t := 64) (d := x2.1) (by simp [t2]) (by simp)
    simp at g0
    obtain ⟨a0, cc0, l0, rfl, hs0, hb0, hr0⟩ := open_rows (fuel := fuel) (n := k) Tryz.underlying63 Tryz.cellsCd Tryz.bytesCd (by decide) (by omega) (open_Cd enc W fuel) g0 w0
    obtain ⟨hs0, hf0⟩ := hs0.split
    obtain ⟨b1, e1, hx1, wf1⟩ := DataW.trod_string Tryz.underlying9 g1
    simp at e1
    subst e1
    rw [hx1] at w1
    have ls1 := w1.str
    simp at g2
    obtain ⟨a2, cc2, l2, rfl, hs2, hb2, hr2⟩ := open_rows (fuel := fuel) (n := k) Tryz.underlying64 Tryz.cellsEm Tryz.bytesEm (by decide) (by omega) (open_Em enc W fuel) g2 w2
    obtain ⟨hs2, hf2⟩ := hs2.split
    exact ⟨⟨l0, b1.data.toList, l2⟩, ⟨⟨a0, cc0, hc 0 (by omega), hs0⟩, (by rw [← str_list]; exact hc 1 (by omega)), a2, cc2, hc 2 (by omega), hs2⟩, ⟨(by show b1.data.toList.length ≤ _; omega), fun m hm => (hf2 m hm).1⟩, hb2, fun m hm => (hf2 m hm).2⟩

def bigHaP (x : Ha) : Prop := fitHa x ∧ ∀ c ∈ x.cases, c.emits.length * 40 ≤ 140737488351232 ∧ ∀ m ∈ c.emits, m.sets.length * 72 ≤ 140737488351232
theorem Tryz.cellsHa : Tryz.prog.cellsOf 62 = 3 := by kernel_rfl
theorem Tryz.bytesHa : Tryz.prog.bytesOf 62 = 64 := by kernel_rfl
theorem Tryz.cellsNes : Tryz.prog.cellsOf 59 = 1 := by kernel_rfl
theorem Tryz.cellsCss : Tryz.prog.cellsOf 60 = 1 := by kernel_rfl
theorem Tryz.underHa : ∃ f0 f1 f2, Tryz.prog.underlying 62 = some (.struct #[f0, f1, f2]) ∧ (f0.offset = 0 ∧ f1.offset = 1 ∧ f2.offset = 2) ∧ f0.type = 9 ∧ f1.type = 59 ∧ f2.type = 60 := ⟨_, _, _, Tryz.underlying62, ⟨rfl, rfl, rfl⟩, rfl, rfl, rfl⟩
instance : Inhabited Ha := ⟨⟨[], [], []⟩⟩
set_option maxRecDepth 100000 in
theorem open_Ha {H : Type} (enc : TypeId × Value → H) (W : World) (fuel : Nat) : Opens enc W 62 3 (fun w b o x => HaAt w b o x ∧ bigHaP x) fuel := by
  intro n hn b o cs y h hw hc
  obtain ⟨f0, f1, f2, hu, ⟨o0, o1, o2⟩, t0, t1, t2⟩ := Tryz.underHa
  obtain ⟨xs, k, hk, rfl, hlen, hxl, hfl⟩ := DataW.trod_struct hu h
  rw [Tryz.cellsHa] at hlen
  match xs, hxl, cs, hlen with
  | [x0, x1, x2], _, [c0, c1, c2], _ =>
    have g0 := hfl 0 f0 rfl
    have g1 := hfl 1 f1 rfl
    have g2 := hfl 2 f2 rfl
    rw [o0, t0, Tryz.cellsStr] at g0
    rw [o1, t1, Tryz.cellsNes] at g1
    rw [o2, t2, Tryz.cellsCss] at g2
    simp only [WtOk, DataW.weights, hu, List.map_cons, List.map_nil] at hw
    have w0 := WtOk.each hw (i := 0) (t := 9) (d := x0.1) (by simp [t0]) (by simp)
    have w1 := WtOk.each hw (i := 1) (t := 59) (d := x1.1) (by simp [t1]) (by simp)
    have w2 := WtOk.each hw (i := 2) (t := 60) (d := x2.1) (by simp [t2]) (by simp)
    obtain ⟨b0, e0, hx0, wf0⟩ := DataW.trod_string Tryz.underlying9 g0
    simp at e0
    subst e0
    rw [hx0] at w0
    have ls0 := w0.str
    simp at g1
    obtain ⟨a1, cc1, l1, rfl, hs1, hb1, hr1⟩ := open_rows (fuel := fuel) (n := k) Tryz.underlying59 Tryz.cellsNe Tryz.bytesNe (by decide) (by omega) (open_Ne enc W fuel) g1 w1
    obtain ⟨hs1, hf1⟩ := hs1.split
    simp at g2
    obtain ⟨a2, cc2, l2, rfl, hs2, hb2, hr2⟩ := open_rows (fuel := fuel) (n := k) Tryz.underlying60 Tryz.cellsCs Tryz.bytesCs (by decide) (by omega) (open_Cs enc W fuel) g2 w2
    obtain ⟨hs2, hf2⟩ := hs2.split
    exact ⟨⟨b0.data.toList, l1, l2⟩, ⟨(by rw [← str_list]; exact hc 0 (by omega)), ⟨a1, cc1, hc 1 (by omega), hs1⟩, a2, cc2, hc 2 (by omega), hs2⟩, ⟨(by show b0.data.toList.length ≤ _; omega), hf1, fun m hm => (hf2 m hm).1⟩, fun m hm => (hf2 m hm).2⟩

theorem Tryz.cellsEvo : Tryz.prog.cellsOf 74 = 3 := by kernel_rfl
theorem Tryz.bytesEvo : Tryz.prog.bytesOf 74 = 64 := by kernel_rfl
theorem Tryz.cellsSts : Tryz.prog.cellsOf 72 = 1 := by kernel_rfl
theorem Tryz.underEvo : ∃ f0 f1 f2, Tryz.prog.underlying 74 = some (.struct #[f0, f1, f2]) ∧ (f0.offset = 0 ∧ f1.offset = 1 ∧ f2.offset = 2) ∧ f0.type = 9 ∧ f1.type = 71 ∧ f2.type = 72 := ⟨_, _, _, Tryz.underlying74, ⟨rfl, rfl, rfl⟩, rfl, rfl, rfl⟩
instance : Inhabited Evo := ⟨⟨[], [], []⟩⟩
set_option maxRecDepth 100000 in
theorem open_Evo {H : Type} (enc : TypeId × Value → H) (W : World) (fuel : Nat) : Opens enc W 74 3 (fun w b o x => EvoAt w b o x ∧ fitEv x) fuel := by
  intro n hn b o cs y h hw hc
  obtain ⟨f0, f1, f2, hu, ⟨o0, o1, o2⟩, t0, t1, t2⟩ := Tryz.underEvo
  obtain ⟨xs, k, hk, rfl, hlen, hxl, hfl⟩ := DataW.trod_struct hu h
  rw [Tryz.cellsEvo] at hlen
  match xs, hxl, cs, hlen with
  | [x0, x1, x2], _, [c0, c1, c2], _ =>
    have g0 := hfl 0 f0 rfl
    have g1 := hfl 1 f1 rfl
    have g2 := hfl 2 f2 rfl
    rw [o0, t0, Tryz.cellsStr] at g0
    rw [o1, t1, Tryz.cellsAss] at g1
    rw [o2, t2, Tryz.cellsSts] at g2
    simp only [WtOk, DataW.weights, hu, List.map_cons, List.map_nil] at hw
    have w0 := WtOk.each hw (i := 0) (t := 9) (d := x0.1) (by simp [t0]) (by simp)
    have w1 := WtOk.each hw (i := 1) (t := 71) (d := x1.1) (by simp [t1]) (by simp)
    have w2 := WtOk.each hw (i := 2) (t := 72) (d := x2.1) (by simp [t2]) (by simp)
    obtain ⟨b0, e0, hx0, wf0⟩ := DataW.trod_string Tryz.underlying9 g0
    simp at e0
    subst e0
    rw [hx0] at w0
    have ls0 := w0.str
    simp at g1
    obtain ⟨a1, cc1, l1, rfl, hs1, hb1, hr1⟩ := open_rows (fuel := fuel) (n := k) Tryz.underlying71 Tryz.cellsAs Tryz.bytesAs (by decide) (by omega) (open_As enc W fuel) g1 w1
    obtain ⟨hs1, hf1⟩ := hs1.split
    simp at g2
    obtain ⟨a2, cc2, l2, rfl, hs2, hb2, hr2⟩ := open_rows (fuel := fuel) (n := k) Tryz.underlying72 Tryz.cellsSt Tryz.bytesSt (by decide) (by omega) (open_St enc W fuel) g2 w2
    obtain ⟨hs2, hf2⟩ := hs2.split
    exact ⟨⟨b0.data.toList, l1, l2⟩, ⟨(by rw [← str_list]; exact hc 0 (by omega)), ⟨a1, cc1, hc 1 (by omega), hs1⟩, a2, cc2, hc 2 (by omega), hs2⟩, (by show b0.data.toList.length ≤ _; omega), hf1, hf2⟩
end Go.Proofs.YtingpmgpjmlioaaGreatDoor

namespace Go.Proofs.YtingpmgpjmlioaaGreatDoor
open Go.ChangeShapes Go.WideShapes Go.ChangeAt Go.RowKit
set_option linter.unusedVariables false

theorem WtOk.of {H : Type} {ts : List TypeId} {ds : List (DataW H)} (hsz : (DataW.weightsEach Tryz.prog ts ds).all (· ≤ reachBytes) = true) {j : Nat} {t : TypeId} {d : DataW H} (hj : ds[j]? = some d) (ht : ts[j]? = some t) : WtOk t d := fun x hx => by
  have := List.all_eq_true.1 hsz x (DataW.weights_mem_each ht hj x hx)
  simpa using this

set_option maxRecDepth 100000 in
theorem open_exV {H : Type} (enc : TypeId × Value → H) (W : World) (n : Nat) (cs : List Value) (y : DataW H × List MemPlace) (h : DataW.trod enc Tryz.prog W 0 (fun _ => true) true n 44 cs = some y) (hw : WtOk 44 y.1) : ∃ x a c, cs = (exV x a c).toList ∧ ExAt W x a c := by
  obtain ⟨f0, f1, f2, f3, hu, ⟨o0, o1, o2, o3⟩, t0, t1, t2, t3⟩ := Tryz.underEx
  obtain ⟨xs, k, hk, rfl, hlen, hxl, hfl⟩ := DataW.trod_struct hu h
  rw [Tryz.cellsEx] at hlen
  match xs, hxl, cs, hlen with
  | [x0, x1, x2, x3], _, [c0, c1, c2, c3], _ =>
    have g0 := hfl 0 f0 rfl
    have g1 := hfl 1 f1 rfl
    have g2 := hfl 2 f2 rfl
    have g3 := hfl 3 f3 rfl
    rw [o0, t0, Tryz.cellsInt] at g0
    rw [o1, t1, Tryz.cellsInt] at g1
    rw [o2, t2, Tryz.cellsStr] at g2
    rw [o3, t3, Tryz.cellsExs] at g3
    simp only [WtOk, DataW.weights, hu, List.map_cons, List.map_nil] at hw
    have w2 := WtOk.each hw (i := 2) (t := 9) (d := x2.1) (by simp [t2]) (by simp)
    have w3 := WtOk.each hw (i := 3) (t := 42) (d := x3.1) (by simp [t3]) (by simp)
    obtain ⟨b0, e0, _, wf0⟩ := DataW.trod_int Tryz.underlying3 g0
    obtain ⟨b1, e1, _, wf1⟩ := DataW.trod_int Tryz.underlying3 g1
    obtain ⟨b2, e2, hx2, wf2⟩ := DataW.trod_string Tryz.underlying9 g2
    simp at e0 e1 e2
    subst e0 e1 e2
    have bn0 := bounds_i64 wf0
    have bn1 := bounds_i64 wf1
    simp at g3
    obtain ⟨a, c, l, rfl, hs, _, hroom⟩ := open_rows (fuel := k) (n := k) Tryz.underlying42 Tryz.cellsEx Tryz.bytesEx (by decide) (by omega) (open_ex enc W k) g3 w3
    have hs2 : b2.data.toList.length ≤ 140737488355328 := by
      rw [hx2] at w2
      have := w2.str
      omega
    refine ⟨.mk b0 b1 b2.data.toList l, a, c, ?_, exL_at hs hroom ⟨by omega, by omega⟩ ⟨by omega, by omega⟩ hs2⟩
    rw [show Value.string b2 = sv b2.data.toList from str_list b2]
    rfl

set_option maxRecDepth 100000 in
theorem open_exA {H : Type} {enc : TypeId × Value → H} {W : World} {b0 : Nat} {v : Value} {d : DataW H} {p : List MemPlace} {ts : List TypeId} {ds : List (DataW H)} (hsz : (DataW.weightsEach Tryz.prog ts ds).all (· ≤ reachBytes) = true) {j : Nat} (hj : ds[j]? = some d) (ht : ts[j]? = some 44) (hv : Value.okWide Tryz.prog W .any b0 44 v)
    (h : DataW.Trod enc Tryz.prog W 0 (fun _ => true) true 44 v d p) : ∃ x a c, v = .agg (exV x a c) ∧ ExAt W x a c := by
  obtain ⟨f0, f1, f2, f3, hu, -⟩ := Tryz.underEx
  obtain ⟨cs, rfl, hcs⟩ := okWide_struct hu hv
  obtain ⟨n, hn⟩ := h
  obtain ⟨x, a, c, e, hx⟩ := open_exV enc W n _ _ hn (WtOk.of hsz hj ht)
  refine ⟨x, a, c, ?_, hx⟩
  congr 1
  exact Array.toList_inj.1 e

set_option maxRecDepth 100000 in
theorem open_cdA {H : Type} {enc : TypeId × Value → H} {W : World} {b0 : Nat} {v : Value} {d : DataW H} {p : List MemPlace} {ts : List TypeId} {ds : List (DataW H)} (hsz : (DataW.weightsEach Tryz.prog ts ds).all (· ≤ reachBytes) = true) {j : Nat} (hj : ds[j]? = some d) (ht : ts[j]? = some 46) (hv : Value.okWide Tryz.prog W .any b0 46 v)
    (h : DataW.Trod enc Tryz.prog W 0 (fun _ => true) true 46 v d p) : ∃ x a c a' c', v = .agg (cdV x a c a' c') ∧ ExAt W x.A a c ∧ ExAt W x.B a' c' := by
  obtain ⟨f0, f1, f2, f3, hu, ⟨o0, o1, o2, o3⟩, t0, t1, t2, t3⟩ := Tryz.underCd
  obtain ⟨cs, rfl, hcs⟩ := okWide_struct hu hv
  obtain ⟨n, hn⟩ := h
  have hw := WtOk.of hsz hj ht
  obtain ⟨xs, k, hk, hy, hlen, hxl, hfl⟩ := DataW.trod_struct hu hn
  have hd : d = _ := congrArg Prod.fst hy
  subst hd
  rw [Tryz.cellsCd] at hlen
  obtain ⟨cl, hcl⟩ : ∃ cl, cl = (Value.agg cs).cells.toList := ⟨_, rfl⟩
  rw [← hcl] at hlen hfl
  have hcl2 : cs = cl.toArray := by rw [hcl]; simp [Value.cells]
  clear hcl
  match xs, hxl, cl, hlen with
  | [x0, x1, x2, x3], _, [c0, c1, c2, c3, c4, c5, c6, c7, c8, c9], _ =>
    have g0 := hfl 0 f0 rfl
    have g1 := hfl 1 f1 rfl
    have g2 := hfl 2 f2 rfl
    have g3 := hfl 3 f3 rfl
    rw [o0, t0, Tryz.cellsInt] at g0
    rw [o1, t1, Tryz.cellsBool] at g1
    rw [o2, t2, Tryz.cellsEx] at g2
    rw [o3, t3, Tryz.cellsEx] at g3
    simp only [WtOk, DataW.weights, hu, List.map_cons, List.map_nil] at hw
    have w2 := WtOk.each hw (i := 2) (t := 44) (d := x2.1) (by simp [t2]) (by simp)
    have w3 := WtOk.each hw (i := 3) (t := 44) (d := x3.1) (by simp [t3]) (by simp)
    obtain ⟨b0, e0, _, wf0⟩ := DataW.trod_int Tryz.underlying3 g0
    obtain ⟨b1, e1, _⟩ := DataW.trod_bool Tryz.underlying4 g1
    simp at e0 e1
    subst e0 e1
    obtain ⟨x, a, c, e2, hx⟩ := open_exV enc W k _ _ g2 w2
    obtain ⟨z, a', c', e3, hz⟩ := open_exV enc W k _ _ g3 w3
    simp at e2 e3
    obtain ⟨rfl, rfl, rfl, rfl⟩ := e2
    obtain ⟨rfl, rfl, rfl, rfl⟩ := e3
    exact ⟨⟨b0, b1, x, z⟩, a, c, a', c', by rw [hcl2], hx, hz⟩

theorem Tryz.underRu : ∃ f0 f1, Tryz.prog.underlying 25 = some (.struct #[f0, f1]) ∧ Go.Deep.oneCellFields Tryz.prog #[f0, f1] = true ∧ f0.type = 22 ∧ f1.type = 23 := ⟨_, _, Tryz.underlying25, by kernel_rfl, rfl, rfl⟩
theorem Tryz.cellsRu : Tryz.prog.cellsOf 25 = 2 := by kernel_rfl
set_option maxRecDepth 100000 in
theorem open_ruA {H : Type} {enc : TypeId × Value → H} {W : World} {b0 : Nat} {v : Value} {d : DataW H} {p : List MemPlace} {ts : List TypeId} {ds : List (DataW H)} (hsz : (DataW.weightsEach Tryz.prog ts ds).all (· ≤ reachBytes) = true) {j : Nat} (hj : ds[j]? = some d) (ht : ts[j]? = some 25) (hv : Value.okWide Tryz.prog W .any b0 25 v)
    (h : DataW.Trod enc Tryz.prog W 0 (fun _ => true) true 25 v d p) : ∃ ha hc hs va vc vs, v = .agg (rulV ha (List.length hs) hc va (List.length vs) vc) ∧ SlOf 3 HaAt W (.slice ha hs.length hc) hs ∧ (∀ h ∈ hs, bigHaP h) ∧ hs.length * 64 ≤ 140737488351232 ∧ SlOf 3 EvoAt W (.slice va vs.length vc) vs ∧ (∀ h ∈ vs, fitEv h) ∧ vs.length * 64 ≤ 140737488351232 := by
  obtain ⟨f0, f1, hu, hone, t0, t1⟩ := Tryz.underRu
  have hw := WtOk.of hsz hj ht
  obtain ⟨v0, v1, y0, y1, k, rfl, rfl, _, g0, g1⟩ := Go.Joins.open_agg2 hu hone Tryz.cellsRu hv h
  rw [t0] at g0
  rw [t1] at g1
  simp only [WtOk, DataW.weights, hu, List.map_cons, List.map_nil] at hw
  have w0 := WtOk.each hw (i := 0) (t := 22) (d := y0.1) (by simp [t0]) (by simp)
  have w1 := WtOk.each hw (i := 1) (t := 23) (d := y1.1) (by simp [t1]) (by simp)
  obtain ⟨a0, c0, l0, rfl, hs0, hb0, _⟩ := open_rows (fuel := k) (n := k) Tryz.underlying22 Tryz.cellsHa Tryz.bytesHa (by decide) (by omega) (open_Ha enc W k) g0 w0
  obtain ⟨hs0, hf0⟩ := hs0.split
  obtain ⟨a1, c1, l1, rfl, hs1, hb1, _⟩ := open_rows (fuel := k) (n := k) Tryz.underlying23 Tryz.cellsEvo Tryz.bytesEvo (by decide) (by omega) (open_Evo enc W k) g1 w1
  obtain ⟨hs1, hf1⟩ := hs1.split
  exact ⟨a0, c0, l0, a1, c1, l1, rfl, hs0, hf0, hb0, hs1, hf1, hb1⟩
end Go.Proofs.YtingpmgpjmlioaaGreatDoor

namespace Go.Proofs.YtingpmgpjmlioaaGreatDoor
open Go.ChangeShapes Go.WideShapes Go.ChangeAt Go.RowKit
set_option linter.unusedVariables false

def FldAt (w : World) (b o : Nat) (f : Fld) : Prop := w.cell? ⟨b, o, none⟩ = some (sv f.name) ∧ w.cell? ⟨b, o + 1, none⟩ = some (.bool f.text) ∧ w.cell? ⟨b, o + 2, none⟩ = some (.int .i64 f.n) ∧ w.cell? ⟨b, o + 3, none⟩ = some (sv f.s)
def okFd (f : Fld) : Prop := f.name.length ≤ 140737488351232 ∧ f.s.length ≤ 140737488351232 ∧ I64 f.n
theorem okFd.small {f : Fld} (h : okFd f) : Go.Proofs.YtingpmgpjmlioaaGreatDoor.small f := ⟨by have := h.2.1; omega, h.2.2⟩
theorem okFd.fits {f : Fld} (h : okFd f) : Go.Proofs.YtingpmgpjmlioaaGreatDoor.fits f := ⟨by have := h.1; omega, by have := h.2.1; omega, h.2.2.1, h.2.2.2⟩
theorem Tryz.bytesFd : Tryz.prog.bytesOf 48 = 48 := by kernel_rfl
set_option maxRecDepth 100000 in
theorem open_Fd {H : Type} (enc : TypeId × Value → H) (W : World) (fuel : Nat) : Opens enc W 48 4 (fun w b o x => FldAt w b o x ∧ okFd x) fuel := by
  intro n hn b o cs y h hw hc
  obtain ⟨f0, f1, f2, f3, hu, ⟨o0, o1, o2, o3⟩, t0, t1, t2, t3⟩ := Tryz.underFld
  obtain ⟨xs, k, hk, rfl, hlen, hxl, hfl⟩ := DataW.trod_struct hu h
  rw [Tryz.cellsFld] at hlen
  match xs, hxl, cs, hlen with
  | [x0, x1, x2, x3], _, [c0, c1, c2, c3], _ =>
    have g0 := hfl 0 f0 rfl
    have g1 := hfl 1 f1 rfl
    have g2 := hfl 2 f2 rfl
    have g3 := hfl 3 f3 rfl
    rw [o0, t0, Tryz.cellsStr] at g0
    rw [o1, t1, Tryz.cellsBool] at g1
    rw [o2, t2, Tryz.cellsInt] at g2
    rw [o3, t3, Tryz.cellsStr] at g3
    simp only [WtOk, DataW.weights, hu, List.map_cons, List.map_nil] at hw
    have w0 := WtOk.each hw (i := 0) (t := 9) (d := x0.1) (by simp [t0]) (by simp)
    have w3 := WtOk.each hw (i := 3) (t := 9) (d := x3.1) (by simp [t3]) (by simp)
    obtain ⟨b0, e0, hx0, wf0⟩ := DataW.trod_string Tryz.underlying9 g0
    obtain ⟨b1, e1, _⟩ := DataW.trod_bool Tryz.underlying4 g1
    obtain ⟨b2, e2, _, wf2⟩ := DataW.trod_int Tryz.underlying3 g2
    obtain ⟨b3, e3, hx3, wf3⟩ := DataW.trod_string Tryz.underlying9 g3
    simp at e0 e1 e2 e3
    subst e0 e1 e2 e3
    have bn2 := bounds_i64 wf2
    rw [hx0] at w0
    rw [hx3] at w3
    exact ⟨⟨b0.data.toList, b1, b2, b3.data.toList⟩, ⟨(by rw [← str_list]; exact hc 0 (by omega)), hc 1 (by omega), hc 2 (by omega), (by rw [← str_list]; exact hc 3 (by omega))⟩, w0.str, w3.str, by show _ ≤ b2; omega, by show b2 ≤ _; omega⟩

theorem Tryz.cellsFds : Tryz.prog.cellsOf 30 = 1 := by kernel_rfl
set_option maxRecDepth 100000 in
theorem open_sfl {H : Type} {enc : TypeId × Value → H} {W : World} {v : Value} {d : DataW H} {p : List MemPlace} {ts : List TypeId} {ds : List (DataW H)} (hsz : (DataW.weightsEach Tryz.prog ts ds).all (· ≤ reachBytes) = true) {j : Nat} (hj : ds[j]? = some d) (ht : ts[j]? = some 30) (hv : ∃ a n c, v = .slice a n c)
    (h : DataW.Trod enc Tryz.prog W 0 (fun _ => true) true 30 v d p) : ∃ (a : Option Addr) (c : Nat) (l : List Fld), v = .slice a l.length c ∧ FdN W a c l ∧ (∀ f ∈ l, okFd f) ∧ l.length * 48 ≤ 140737488351232 := by
  obtain ⟨n, hn⟩ := h
  obtain ⟨a0, n0, c0, rfl⟩ := hv
  obtain ⟨a, c, l, e, hs, hb, hr⟩ := open_rows (fuel := n) (n := n) Tryz.underlying30 Tryz.cellsFld Tryz.bytesFd (by decide) (by omega) (open_Fd enc W n) hn (WtOk.of hsz hj ht)
  obtain ⟨hs, hf⟩ := hs.split
  refine ⟨a, c, l, e, ⟨?_, fun hc => by obtain ⟨b, off, e, _⟩ := hr hc; exact ⟨b, off, e⟩⟩, hf, hb⟩
  obtain ⟨ao, cap, e2, h1, h2, h4⟩ := hs
  exact ⟨ao, cap, e2, h1, h2, fun hz => by
    obtain ⟨b, off, e, hlt, hc⟩ := h4 (by simpa using hz)
    exact ⟨b, off, e, hlt, fun i hi => hc i _ (List.getElem?_eq_getElem hi)⟩⟩
theorem sfl_fdn {W : World} {a : Option Addr} {c : Nat} {l : List Fld} (hs : SlOf 4 FldAt W (.slice a l.length c) l) (hr : c ≠ 0 → ∃ b off, a = some ⟨b, off, none⟩ ∧ b < W.heap.size) : FdN W a c l := by
  refine ⟨?_, fun hc => by obtain ⟨b, off, e, _⟩ := hr hc; exact ⟨b, off, e⟩⟩
  obtain ⟨ao, cap, e2, h1, h2, h4⟩ := hs
  exact ⟨ao, cap, e2, h1, h2, fun hz => by
    obtain ⟨b, off, e, hlt, hc⟩ := h4 (by simpa using hz)
    exact ⟨b, off, e, hlt, fun i hi => hc i _ (List.getElem?_eq_getElem hi)⟩⟩

theorem Tryz.underEvt : ∃ f0 f1 f2, Tryz.prog.underlying 34 = some (.struct #[f0, f1, f2]) ∧ Go.Deep.oneCellFields Tryz.prog #[f0, f1, f2] = true ∧ f0.type = 9 ∧ f1.type = 3 ∧ f2.type = 30 := ⟨_, _, _, Tryz.underlying34, by kernel_rfl, rfl, rfl, rfl⟩
theorem Tryz.cellsEvt : Tryz.prog.cellsOf 34 = 3 := by kernel_rfl
set_option maxRecDepth 100000 in
theorem open_evA {H : Type} {enc : TypeId × Value → H} {W : World} {b0 : Nat} {v : Value} {d : DataW H} {p : List MemPlace} {ts : List TypeId} {ds : List (DataW H)} (hsz : (DataW.weightsEach Tryz.prog ts ds).all (· ≤ reachBytes) = true) {j : Nat} (hj : ds[j]? = some d) (ht : ts[j]? = some 34) (hv : Value.okWide Tryz.prog W .any b0 34 v)
    (h : DataW.Trod enc Tryz.prog W 0 (fun _ => true) true 34 v d p) : ∃ tp vr a c fs, v = .agg (evtV tp vr a (List.length fs) c) ∧ FdN W a c fs ∧ (∀ f ∈ fs, okFd f) ∧ fs.length * 48 ≤ 140737488351232 ∧ tp.length ≤ 140737488351232 ∧ I64 vr := by
  obtain ⟨f0, f1, f2, hu, hone, t0, t1, t2⟩ := Tryz.underEvt
  have hw := WtOk.of hsz hj ht
  obtain ⟨v0, v1, v2, y0, y1, y2, k, rfl, rfl, _, g0, g1, g2⟩ := Go.Joins.open_agg3 hu hone Tryz.cellsEvt hv h
  rw [t0] at g0
  rw [t1] at g1
  rw [t2] at g2
  simp only [WtOk, DataW.weights, hu, List.map_cons, List.map_nil] at hw
  have w0 := WtOk.each hw (i := 0) (t := 9) (d := y0.1) (by simp [t0]) (by simp)
  have w2 := WtOk.each hw (i := 2) (t := 30) (d := y2.1) (by simp [t2]) (by simp)
  obtain ⟨s0, e0, hx0, _⟩ := DataW.trod_string Tryz.underlying9 g0
  obtain ⟨s1, e1, _, wf1⟩ := DataW.trod_int Tryz.underlying3 g1
  have bn := bounds_i64 wf1
  simp at e0 e1
  subst e0 e1
  rw [hx0] at w0
  obtain ⟨a, c, l, rfl, hs, hb, hr⟩ := open_rows (fuel := k) (n := k) Tryz.underlying30 Tryz.cellsFld Tryz.bytesFd (by decide) (by omega) (open_Fd enc W k) g2 w2
  obtain ⟨hs, hf⟩ := hs.split
  exact ⟨s0.data.toList, s1, a, c, l, by rw [str_list], sfl_fdn hs hr, hf, hb, w0.str, ⟨by omega, by omega⟩⟩
end Go.Proofs.YtingpmgpjmlioaaGreatDoor
