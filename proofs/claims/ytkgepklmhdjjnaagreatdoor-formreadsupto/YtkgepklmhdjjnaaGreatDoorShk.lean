/-
  DERIVED. The map of fields that were seen, and the closure of Read.
-/
import Derived.Test.YtkgepklmhdjjnaaGreatDoorShy
import Derived.Maps.OwnSet
import Derived.Maps.AppendAt
namespace Go.Proofs.YtkgepklmhdjjnaaGreatDoor
open Go.RowKit Go.Maps
set_option linter.unusedVariables false

def rawE (v : Value) : Option (DataW Value × List MemPlace) := some (.held v, [])
theorem ownsMap_frame {H : Type} {P : Program} {k : TypeId} {R : Value → Option (DataW H × List MemPlace)} {w w' : World} {b n : Nat} {D : DataW H} (h : w.ownsMap P k R b n D) (hk : w'.heap[b]? = w.heap[b]?) : w'.ownsMap P k R b n D := by
  obtain ⟨es, clock, hb, r⟩ := h
  exact ⟨es, clock, hk.trans hb, r⟩
def lit (k : List UInt8) : Lit := .string k
theorem lit_inj {a b : List UInt8} (h : lit a = lit b) : a = b := by unfold lit at h; injection h
theorem lit_key {k : List UInt8} (h : k.length ≤ maxLen) : keyOf Tryz.prog 9 (sv k) = some (lit k) := by
  have hz : (⟨k.toArray⟩ : ByteArray).size ≤ maxLen := h
  exact WideMaps.keyOf_string_mk Tryz.underlying9 hz
theorem lit_is (k : List UInt8) : WideAt.IsKeyLit (lit k) := trivial
theorem keyedS : Keyed Tryz.prog 9 := string_keyed Tryz.underlying9
theorem map_ne {w : World} {m q N : Nat} {D : DataW Value} {cur : Array Value} {t : TypeId} {fr : Nat × Nat} (h : w.ownsMap Tryz.prog 9 rawE m N D) (hq : w.heap[q]? = some (.cells cur t fr)) : q ≠ m := by
  rintro rfl
  obtain ⟨es, clock, hb, _⟩ := h
  rw [hq] at hb; cases hb
theorem zeroFld (w : World) : (zeroValue 33).run Tryz.prog w = .ok (.agg (fv fld0)) w := by kernel_rfl

/-- The field of a name among fields. -/
def getF (S : List Fld) (k : List UInt8) : Option Fld := S.find? (fun f => f.name == k)

/-- The map at block m holds these fields, by their names. -/
def SnAt (w : World) (m : Nat) (S : List Fld) : Prop :=
  ∃ D : DataW Value, w.ownsMap Tryz.prog 9 rawE m S.length D ∧ (∀ k, D.atKey (lit k) (.held (.agg (fv fld0))) = .held (.agg (fv ((getF S k).getD fld0)))) ∧
    (∀ kl, Maps.has D kl = true ↔ ∃ f ∈ S, kl = lit f.name) ∧ Maps.size D = S.length

theorem SnAt.frame {w w' : World} {m : Nat} {S : List Fld} (h : SnAt w m S) (hk : w'.heap[m]? = w.heap[m]?) : SnAt w' m S := by
  obtain ⟨D, h1, h2⟩ := h
  exact ⟨D, ownsMap_frame h1 hk, h2⟩
theorem SnAt.lt {w : World} {m : Nat} {S : List Fld} (h : SnAt w m S) : m < w.heap.size := by
  obtain ⟨D, h1, h2⟩ := h
  exact h1.lt
theorem SnAt.ne {w : World} {m q : Nat} {S : List Fld} (h : SnAt w m S) {cur : Array Value} {t : TypeId} {fr : Nat × Nat} (hq : w.heap[q]? = some (.cells cur t fr)) : q ≠ m := by
  obtain ⟨D, h1, h2⟩ := h
  exact map_ne h1 hq
theorem SnAt.made (w : World) : SnAt (w.alloc (.map #[] 0)) w.heap.size [] :=
  ⟨.map [], World.ownsMap_made w Tryz.prog 9 rawE, fun k => rfl, fun kl => by simp [Maps.has], rfl⟩
theorem SnAt.len {w : World} {m : Nat} {S : List Fld} (h : SnAt w m S) (ty : TypeId) : (Builtin.len_ #[66] ty #[.map (some m)]).run Tryz.prog w = .ok (.int .i64 S.length) w := by
  obtain ⟨D, h1, _, _, h4⟩ := h
  rw [h1.len Tryz.underlying66 ty, h4]
theorem SnAt.look {w : World} {m : Nat} {S : List Fld} (h : SnAt w m S) (k : List UInt8) (hk : k.length ≤ maxLen) :
    (Instr.lookup 66 (.map (some m)) (sv k) true).run Tryz.prog w = .ok (.tuple #[.agg (fv ((getF S k).getD fld0)), .bool (S.any (fun f => f.name == k))]) w := by
  obtain ⟨D, h1, h2, h3, _⟩ := h
  obtain ⟨u, ps, hrun, hv⟩ := h1.look_ok keyedS Tryz.underlying66 (zeroFld w) (zd := .held (.agg (fv fld0))) (zp := []) rfl (lit_key hk)
  rw [h2 k] at hv
  simp only [rawE, Option.some.injEq, Prod.mk.injEq, DataW.held.injEq] at hv
  have he : Maps.has D (lit k) = S.any (fun f => f.name == k) := by
    rw [Bool.eq_iff_iff, h3, List.any_eq_true]
    constructor
    · rintro ⟨f, hf, e⟩; exact ⟨f, hf, by simp [lit_inj e]⟩
    · rintro ⟨f, hf, e⟩; exact ⟨f, hf, by rw [beq_iff_eq.1 e]⟩
  rw [hrun, hv.1, he]
theorem SnAt.look1 {w : World} {m : Nat} {S : List Fld} (h : SnAt w m S) (k : List UInt8) (hk : k.length ≤ maxLen) :
    (Instr.lookup 66 (.map (some m)) (sv k) false).run Tryz.prog w = .ok (.agg (fv ((getF S k).getD fld0))) w := by
  obtain ⟨D, h1, h2, h3, _⟩ := h
  obtain ⟨u, ps, hrun, hv⟩ := h1.lookup keyedS Tryz.underlying66 (zeroFld w) (zd := .held (.agg (fv fld0))) (zp := []) rfl (lit_key hk)
  rw [h2 k] at hv
  simp only [rawE, Option.some.injEq, Prod.mk.injEq, DataW.held.injEq] at hv
  rw [hrun, hv.1]

theorem SnAt.put {w : World} {m : Nat} {S : List Fld} (h : SnAt w m S) (f : Fld) (hk : f.name.length ≤ maxLen) (hn : S.any (fun g => g.name == f.name) = false) (hS : S.length < 1000) :
    ∃ w', (Instr.mapUpdate 66 (.map (some m)) (sv f.name) (.agg (fv f))).run Tryz.prog w = .ok () w' ∧ SnAt w' m (S ++ [f]) ∧ w.grownBy w' (some m) := by
  obtain ⟨D, h1, h2, h3, h4⟩ := h
  obtain ⟨w', hrun, ho, hg⟩ := h1.update keyedS Tryz.underlying66 (val := .agg (fv f)) (by unfold maxLen; omega) (lit_key hk) rfl
  have hmap : IsMap D := by obtain ⟨es, clock, _, _, _, e⟩ := h1; exact ⟨_, e⟩
  have hne : ∀ j, j ≠ f.name → lit j ≠ lit f.name := fun j hj e => hj (lit_inj e)
  have hno : ∀ g ∈ S, g.name ≠ f.name := fun g hg e => by
    have := List.any_eq_false.1 hn g hg
    simp [e] at this
  have hh : Maps.has D (lit f.name) = false := by
    rw [Bool.eq_false_iff]
    intro e
    obtain ⟨g, hg, e2⟩ := (h3 _).1 e
    exact hno g hg (lit_inj e2).symm
  refine ⟨w', hrun, ⟨_, (by rw [List.length_append]; exact ho), ?_, ?_, ?_⟩, hg⟩
  · intro k
    unfold getF
    rw [List.find?_append]
    by_cases e : k = f.name
    · subst e
      rw [atKey_put_same hmap (lit_is _)]
      have : S.find? (fun g => g.name == f.name) = none := by
        rw [List.find?_eq_none]; intro g hg; simpa using hno g hg
      rw [this]; simp
    · rw [atKey_put_other (hne k e), h2 k]
      have : [f].find? (fun g => g.name == k) = none := by simp; exact fun e' => e e'.symm
      rw [this, Option.or_none]; rfl
  · intro kl
    by_cases e : kl = lit f.name
    · subst e
      exact ⟨fun _ => ⟨f, by simp, rfl⟩, fun _ => has_put_same hmap (lit_is _) _⟩
    · rw [has_put_other e, h3]
      constructor
      · rintro ⟨g, hg, rfl⟩; exact ⟨g, by simp [hg], rfl⟩
      · rintro ⟨g, hg, rfl⟩
        rcases List.mem_append.1 hg with hg | hg
        · exact ⟨g, hg, rfl⟩
        · rw [List.mem_singleton.1 hg] at e; exact absurd rfl e
  · rw [size_put (h1.tidy keyedS), hh, h4, List.length_append]; rfl

/-! ### Where Read stands -/
structure RdSt (w0 w : World) (C m : Nat) (S : List Fld) : Prop where
  bel : Below w0.heap.size w0 w
  cell : w.heap[C]? = some (.cells #[.map (some m)] 66 (0, 0))
  geC : w0.heap.size ≤ C
  gem : w0.heap.size ≤ m
  sn : SnAt w m S
theorem RdSt.grown {w0 w w' : World} {C m : Nat} {S : List Fld} (h : RdSt w0 w C m S) (hb : Below w.heap.size w w') : RdSt w0 w' C m S :=
  ⟨h.bel.trans (hb.mono h.bel.size), (hb.block C (lt_of_block h.cell)).trans h.cell, h.geC, h.gem, h.sn.frame (hb.block m h.sn.lt)⟩
theorem RdSt.at {w0 w : World} {C m : Nat} {S : List Fld} (h : RdSt w0 w C m S) : w.cell? ⟨C, 0, none⟩ = some (.map (some m)) := (cell_of_row _ _ _ _ _ _ h.cell).trans rfl
theorem RdSt.put {w0 w w' : World} {C m : Nat} {S S' : List Fld} (h : RdSt w0 w C m S) (hs : SnAt w' m S') (hg : w.grownBy w' (some m)) : RdSt w0 w' C m S' :=
  ⟨h.bel.grown hg h.bel.size (fun k e => by cases e; exact h.gem), (hg.block C (lt_of_block h.cell) (fun e => h.sn.ne h.cell (Option.some.inj e))).trans h.cell, h.geC, h.gem, hs⟩

/-- What a further part comes to. -/
def readStep (S : List Fld) (p : List UInt8) : Except Int (List Fld) :=
  if S.length = 16 then .error 120 else match readP p with
    | .error e => .error e
    | .ok f => if S.any (fun g => g.name == f.name) then .error 124 else .ok (S ++ [f])
def errS : Except Int (List Fld) → Int
  | .error n => n
  | .ok _ => 0
def restS (S : List Fld) : Except Int (List Fld) → List Fld
  | .error _ => S
  | .ok S' => S'
end Go.Proofs.YtkgepklmhdjjnaaGreatDoor
