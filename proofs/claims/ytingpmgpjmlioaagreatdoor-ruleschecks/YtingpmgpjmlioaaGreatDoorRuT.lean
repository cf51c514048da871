/-
  DERIVED. Tables of rules in memory.
-/
import Derived.Test.YtingpmgpjmlioaaGreatDoorRuW
import Derived.Test.YtingpmgpjmlioaaGreatDoorRuO
namespace Go.Proofs.YtingpmgpjmlioaaGreatDoor
open Go.RowKit
set_option linter.unusedVariables false

/-- A slice whose things, of so many cells each, lie there. -/
def SlOf {α : Type} (sz : Nat) (At : World → Nat → Nat → α → Prop) (w : World) (v : Value) (l : List α) : Prop :=
  ∃ ao cap, v = .slice ao l.length cap ∧ l.length ≤ cap ∧ cap ≤ 9223372036854775807 ∧
    (l.length ≠ 0 → ∃ b off, ao = some ⟨b, off, none⟩ ∧ b < w.heap.size ∧ ∀ i x, l[i]? = some x → At w b (off + i * sz) x)
theorem SlOf.grown {α : Type} {sz : Nat} {At : World → Nat → Nat → α → Prop} {w w' : World} {v : Value} {l : List α} (h : SlOf sz At w v l) (hAt : ∀ (w w' : World) (b o : Nat) (x : α), At w b o x → Below w.heap.size w w' → At w' b o x) (hb : Below w.heap.size w w') : SlOf sz At w' v l := by
  obtain ⟨ao, cap, rfl, h1, h2, h4⟩ := h
  refine ⟨ao, cap, rfl, h1, h2, fun hz => ?_⟩
  obtain ⟨b, off, e, hlt, hc⟩ := h4 hz
  exact ⟨b, off, e, Nat.lt_of_lt_of_le hlt hb.size, fun i x hi => hAt _ _ _ _ _ (hc i x hi) hb⟩
theorem SlOf.at {α : Type} {sz : Nat} {At : World → Nat → Nat → α → Prop} {w : World} {a : Option Addr} {n c : Nat} {l : List α} (h : SlOf sz At w (.slice a n c) l) {i : Nat} {x : α} (hi : l[i]? = some x) : ∃ b off, a = some ⟨b, off, none⟩ ∧ b < w.heap.size ∧ At w b (off + i * sz) x := by
  obtain ⟨ao, cap, e, h1, h2, h4⟩ := h
  cases e
  obtain ⟨b, off, e, hlt, hc⟩ := h4 (by have := (List.getElem?_eq_some_iff.1 hi).1; omega)
  exact ⟨b, off, e, hlt, hc i x hi⟩
theorem SlOf.len {α : Type} {sz : Nat} {At : World → Nat → Nat → α → Prop} {w : World} {a : Option Addr} {n c : Nat} {l : List α} (h : SlOf sz At w (.slice a n c) l) : n = l.length ∧ l.length ≤ c ∧ c ≤ 9223372036854775807 := by
  obtain ⟨ao, cap, e, h1, h2, h4⟩ := h
  cases e
  exact ⟨rfl, h1, h2⟩
theorem SlOf.nil {α : Type} {sz : Nat} {At : World → Nat → Nat → α → Prop} (w : World) : SlOf sz At w (.slice none 0 0) ([] : List α) := ⟨none, 0, rfl, by simp, by omega, fun h => absurd rfl h⟩

theorem kept {w w' : World} (hb : Below w.heap.size w w') {a : Addr} {v : Value} (hc : w.cell? a = some v) : w'.cell? a = some v :=
  (hb.cell (World.block_lt_of_cell? w a hc)).trans hc

/-- A text of this machine. -/
def StAt (w : World) (b o : Nat) (s : List UInt8) : Prop := w.cell? ⟨b, o, none⟩ = some (sv s)
theorem StAt.grown {w w' : World} {b o : Nat} {s : List UInt8} (h : StAt w b o s) (hb : Below w.heap.size w w') : StAt w' b o s := kept hb h

/-- An Assign. -/
structure As where
  nm : List UInt8
  e : Ex
/-- An expression's four cells. -/
def ExC (w : World) (b o : Nat) (x : Ex) : Prop := w.cell? ⟨b, o, none⟩ = some (.int .i64 x.kind) ∧ w.cell? ⟨b, o + 1, none⟩ = some (.int .i64 x.n) ∧ w.cell? ⟨b, o + 2, none⟩ = some (sv x.s) ∧ ∃ a c, w.cell? ⟨b, o + 3, none⟩ = some (.slice a x.args.length c) ∧ ExAt w x a c
theorem ExC.grown {w w' : World} {b o : Nat} {x : Ex} (h : ExC w b o x) (hb : Below w.heap.size w w') : ExC w' b o x := by
  obtain ⟨h0, h1, h2, a, c, h3, h4⟩ := h
  exact ⟨kept hb h0, kept hb h1, kept hb h2, a, c, kept hb h3, h4.grown hb⟩
def AsAt (w : World) (b o : Nat) (a : As) : Prop := w.cell? ⟨b, o, none⟩ = some (sv a.nm) ∧ ExC w b (o + 1) a.e
theorem AsAt.grown {w w' : World} {b o : Nat} {a : As} (h : AsAt w b o a) (hb : Below w.heap.size w w') : AsAt w' b o a := ⟨kept hb h.1, h.2.grown hb⟩

/-- An Evolve. -/
structure Evo where
  type : List UInt8
  sets : List As
  drops : List (List UInt8)
def EvoAt (w : World) (b o : Nat) (v : Evo) : Prop := w.cell? ⟨b, o, none⟩ = some (sv v.type) ∧ (∃ a c, w.cell? ⟨b, o + 1, none⟩ = some (.slice a v.sets.length c) ∧ SlOf 5 AsAt w (.slice a v.sets.length c) v.sets) ∧ ∃ a c, w.cell? ⟨b, o + 2, none⟩ = some (.slice a v.drops.length c) ∧ SlOf 1 StAt w (.slice a v.drops.length c) v.drops
theorem EvoAt.grown {w w' : World} {b o : Nat} {v : Evo} (h : EvoAt w b o v) (hb : Below w.heap.size w w') : EvoAt w' b o v := by
  obtain ⟨h0, ⟨a, c, h1, h2⟩, a', c', h3, h4⟩ := h
  exact ⟨kept hb h0, ⟨a, c, kept hb h1, h2.grown (fun _ _ _ _ _ => AsAt.grown) hb⟩, a', c', kept hb h3, h4.grown (fun _ _ _ _ _ => StAt.grown) hb⟩

/-- A condition's ten cells. -/
def CdAt (w : World) (b o : Nat) (d : Cd) : Prop := w.cell? ⟨b, o, none⟩ = some (.int .i64 d.kind) ∧ w.cell? ⟨b, o + 1, none⟩ = some (.bool d.neg) ∧ ExC w b (o + 2) d.A ∧ ExC w b (o + 6) d.B
theorem CdAt.grown {w w' : World} {b o : Nat} {d : Cd} (h : CdAt w b o d) (hb : Below w.heap.size w w') : CdAt w' b o d := ⟨kept hb h.1, kept hb h.2.1, h.2.2.1.grown hb, h.2.2.2.grown hb⟩

/-- An Emit. -/
structure Em where
  type : List UInt8
  sets : List As
def EmAt (w : World) (b o : Nat) (m : Em) : Prop := w.cell? ⟨b, o, none⟩ = some (sv m.type) ∧ ∃ a c, w.cell? ⟨b, o + 1, none⟩ = some (.slice a m.sets.length c) ∧ SlOf 5 AsAt w (.slice a m.sets.length c) m.sets
theorem EmAt.grown {w w' : World} {b o : Nat} {m : Em} (h : EmAt w b o m) (hb : Below w.heap.size w w') : EmAt w' b o m := by
  obtain ⟨h0, a, c, h1, h2⟩ := h
  exact ⟨kept hb h0, a, c, kept hb h1, h2.grown (fun _ _ _ _ _ => AsAt.grown) hb⟩

/-- A Case. -/
structure Cs where
  whn : List Cd
  refuse : List UInt8
  emits : List Em
def CsAt (w : World) (b o : Nat) (x : Cs) : Prop := (∃ a c, w.cell? ⟨b, o, none⟩ = some (.slice a x.whn.length c) ∧ SlOf 10 CdAt w (.slice a x.whn.length c) x.whn) ∧ w.cell? ⟨b, o + 1, none⟩ = some (sv x.refuse) ∧ ∃ a c, w.cell? ⟨b, o + 2, none⟩ = some (.slice a x.emits.length c) ∧ SlOf 2 EmAt w (.slice a x.emits.length c) x.emits
theorem CsAt.grown {w w' : World} {b o : Nat} {x : Cs} (h : CsAt w b o x) (hb : Below w.heap.size w w') : CsAt w' b o x := by
  obtain ⟨⟨a, c, h1, h2⟩, h0, a', c', h3, h4⟩ := h
  exact ⟨⟨a, c, kept hb h1, h2.grown (fun _ _ _ _ _ => CdAt.grown) hb⟩, kept hb h0, a', c', kept hb h3, h4.grown (fun _ _ _ _ _ => EmAt.grown) hb⟩

/-- A Need. -/
structure Ne where
  nm : List UInt8
  text : Bool
def NeAt (w : World) (b o : Nat) (x : Ne) : Prop := w.cell? ⟨b, o, none⟩ = some (sv x.nm) ∧ w.cell? ⟨b, o + 1, none⟩ = some (.bool x.text)
theorem NeAt.grown {w w' : World} {b o : Nat} {x : Ne} (h : NeAt w b o x) (hb : Below w.heap.size w w') : NeAt w' b o x := ⟨kept hb h.1, kept hb h.2⟩

/-- A Handler. -/
structure Ha where
  cmd : List UInt8
  needs : List Ne
  cases : List Cs
def HaAt (w : World) (b o : Nat) (x : Ha) : Prop := w.cell? ⟨b, o, none⟩ = some (sv x.cmd) ∧ (∃ a c, w.cell? ⟨b, o + 1, none⟩ = some (.slice a x.needs.length c) ∧ SlOf 2 NeAt w (.slice a x.needs.length c) x.needs) ∧ ∃ a c, w.cell? ⟨b, o + 2, none⟩ = some (.slice a x.cases.length c) ∧ SlOf 3 CsAt w (.slice a x.cases.length c) x.cases
theorem HaAt.grown {w w' : World} {b o : Nat} {x : Ha} (h : HaAt w b o x) (hb : Below w.heap.size w w') : HaAt w' b o x := by
  obtain ⟨h0, ⟨a, c, h1, h2⟩, a', c', h3, h4⟩ := h
  exact ⟨kept hb h0, ⟨a, c, kept hb h1, h2.grown (fun _ _ _ _ _ => NeAt.grown) hb⟩, a', c', kept hb h3, h4.grown (fun _ _ _ _ _ => CsAt.grown) hb⟩

/-! ### What Fold does -/
/-- One Assign's turn. -/
def setR (st : List UInt8) (l m : List Fld) (nx : List Fld) (a : As) : List Fld := match evalE st l m a.e with
  | .error _ => nx
  | .ok f => if (setF nx ⟨a.nm, f.text, f.n, f.s⟩).length ≤ 16 then setF nx ⟨a.nm, f.text, f.n, f.s⟩ else nx
def foldR (vs : List Evo) (st : List UInt8) (l : List Fld) (t : List UInt8) (m : List Fld) : List Fld := match vs.find? (fun v => v.type == t) with
  | none => l
  | some v => v.drops.foldl dropF (v.sets.foldl (setR st l m) l)
end Go.Proofs.YtingpmgpjmlioaaGreatDoor

namespace Go.Proofs.YtingpmgpjmlioaaGreatDoor
open Go.RowKit
set_option linter.unusedVariables false

/-- An event that was made. -/
structure EvM where
  type : List UInt8
  fields : List Fld
/-- A decision. -/
structure Dc where
  refused : Bool
  reason : List UInt8
  events : List EvM

def handR (hs : List Ha) (cmd : List UInt8) : Except Int Ha := match hs.find? (fun h => h.cmd == cmd) with
  | some h => .ok h
  | none => .error 136
def needOk (m : List Fld) (n : Ne) : Bool := hasF m n.nm && ((getA m n.nm).text == n.text)
def needR (m : List Fld) (l : List Ne) : Except Int Unit := if m.length ≠ l.length then .error 137 else if l.all (needOk m) then .ok () else .error 137
def allR (S : Sc) : List Cd → Except Int Bool
  | [] => .ok true
  | d :: r => match holdsR S d with
    | .error e => .error e
    | .ok false => .ok false
    | .ok true => allR S r
def setsG (ev : Ex → Except Int Fld) : List Fld → List As → Except Int (List Fld)
  | acc, [] => .ok acc
  | acc, a :: r => match ev a.e with
    | .error e => .error e
    | .ok f => setsG ev (setF acc ⟨a.nm, f.text, f.n, f.s⟩) r
def setsR (S : Sc) : List Fld → List As → Except Int (List Fld) := setsG (evalA S)
def eventR (S : Sc) (m : Em) : Except Int EvM := match setsR S [] m.sets with
  | .error e => .error e
  | .ok fs => .ok ⟨m.type, fs⟩
def eventsR (S : Sc) : List Em → Except Int (List EvM)
  | [] => .ok []
  | m :: r => match eventR S m with
    | .error e => .error e
    | .ok v => match eventsR S r with
      | .error e => .error e
      | .ok vs => .ok (v :: vs)
def outcomeR (S : Sc) (c : Cs) : Except Int Dc := if c.emits = [] then .ok ⟨true, c.refuse, []⟩ else match eventsR S c.emits with
  | .error e => .error e
  | .ok vs => .ok ⟨false, [], vs⟩
/-- 'no case'. -/
abbrev noCaseT : List UInt8 := [110, 111, 32, 99, 97, 115, 101]
def decideR (S : Sc) : List Cs → Except Int Dc
  | [] => .ok ⟨true, noCaseT, []⟩
  | c :: r => match allR S c.whn with
    | .error e => .error e
    | .ok true => outcomeR S c
    | .ok false => decideR S r
def decR (S : Sc) (hs : List Ha) (cmd : List UInt8) : Except Int Dc := match handR hs cmd with
  | .error e => .error e
  | .ok h => match needR S.given h.needs with
    | .error e => .error e
    | .ok _ => decideR S h.cases

theorem allR_stop (S : Sc) : ∀ (l : List Cd) (k : Nat), (∀ i d, i < k → l[i]? = some d → holdsR S d = .ok true) → allR S l = allR S (l.drop k)
  | l, 0, _ => by simp
  | [], k + 1, _ => by simp
  | d :: r, k + 1, h => by
    have h0 := h 0 d (by omega) rfl
    rw [allR, h0]
    simp only [List.drop_succ_cons]
    exact allR_stop S r k (fun i x hi hx => h (i + 1) x (by omega) (by simpa using hx))
theorem setsG_ok {ev : Ex → Except Int Fld} {acc : List Fld} {a : As} {r : List As} {f : Fld} (hf : ev a.e = .ok f) : setsG ev acc (a :: r) = setsG ev (setF acc ⟨a.nm, f.text, f.n, f.s⟩) r := by rw [setsG, hf]
theorem setsG_bad {ev : Ex → Except Int Fld} {acc : List Fld} {a : As} {r : List As} {e : Int} (hf : ev a.e = .error e) : setsG ev acc (a :: r) = .error e := by rw [setsG, hf]
theorem drop_consT {α : Type} {l : List α} {k : Nat} {a : α} (hk : l[k]? = some a) : l.drop k = a :: l.drop (k + 1) := by
  obtain ⟨h1, h2⟩ := List.getElem?_eq_some_iff.1 hk
  rw [List.drop_eq_getElem_cons h1, h2]
theorem setsR_drop (S : Sc) {l : List As} {k : Nat} {acc : List Fld} {a : As} {f : Fld} (hk : l[k]? = some a) (hf : evalA S a.e = .ok f) : setsR S acc (l.drop k) = setsR S (setF acc ⟨a.nm, f.text, f.n, f.s⟩) (l.drop (k + 1)) :=
  (congrArg (setsG (evalA S) acc) (drop_consT hk)).trans (setsG_ok hf)
theorem setsR_err (S : Sc) {l : List As} {k : Nat} {acc : List Fld} {a : As} {e : Int} (hk : l[k]? = some a) (hf : evalA S a.e = .error e) : setsR S acc (l.drop k) = .error e :=
  (congrArg (setsG (evalA S) acc) (drop_consT hk)).trans (setsG_bad hf)
end Go.Proofs.YtingpmgpjmlioaaGreatDoor

namespace Go.Proofs.YtingpmgpjmlioaaGreatDoor
open Go.RowKit
set_option linter.unusedVariables false

theorem SlOf.pick {α V : Type} {sz : Nat} {At : World → Nat → Nat → α → Prop} {R : World → Nat → Nat → V → Prop} (p : V → α) {w : World} {v : Value} {l : List α} (h : SlOf sz At w v l) (hp : ∀ b o x, x ∈ l → At w b o x → ∃ y, p y = x ∧ R w b o y) : ∃ Y : List V, Y.map p = l ∧ SlOf sz R w v Y := by
  obtain ⟨ao, cap, rfl, h1, h2, h4⟩ := h
  by_cases hz : l.length = 0
  · have : l = [] := List.length_eq_zero_iff.1 hz
    subst this
    exact ⟨[], rfl, ao, cap, rfl, by simp, h2, fun h => absurd rfl h⟩
  · obtain ⟨b, off, e, hlt, hc⟩ := h4 hz
    have hx : ∀ i : Fin l.length, ∃ y, p y = l[i] ∧ R w b (off + i.1 * sz) y := fun i => hp b _ _ (List.getElem_mem i.2) (hc i.1 _ (List.getElem?_eq_getElem i.2))
    obtain ⟨f, hf⟩ := Classical.axiomOfChoice hx
    refine ⟨List.ofFn f, ?_, ao, cap, by simp, by simpa using h1, h2, fun _ => ⟨b, off, e, hlt, fun i x hi => ?_⟩⟩
    · refine List.ext_getElem (by simp) (fun i h1 h2 => ?_)
      simp only [List.getElem_map, List.getElem_ofFn]
      exact (hf _).1
    · obtain ⟨hl, hx'⟩ := List.getElem?_eq_some_iff.1 hi
      rw [← hx']
      simp only [List.getElem_ofFn]
      exact (hf ⟨i, by simpa using hl⟩).2

/-- An expression's cells. -/
def NdR (w : World) (b o : Nat) (d : Nd) : Prop := w.cell? ⟨b, o, none⟩ = some (.int .i64 d.x.kind) ∧ w.cell? ⟨b, o + 1, none⟩ = some (.int .i64 d.x.n) ∧ w.cell? ⟨b, o + 2, none⟩ = some (sv d.x.s) ∧ w.cell? ⟨b, o + 3, none⟩ = some (.slice d.a d.x.args.length d.c) ∧ d.at w
theorem Nd.grown {d : Nd} {w w' : World} (h : d.at w) (hb : Below w.heap.size w w') : d.at w' := ExAt.grown h hb
theorem NdR.grown {w w' : World} {b o : Nat} {d : Nd} (h : NdR w b o d) (hb : Below w.heap.size w w') : NdR w' b o d :=
  ⟨kept hb h.1, kept hb h.2.1, kept hb h.2.2.1, kept hb h.2.2.2.1, Nd.grown h.2.2.2.2 hb⟩
theorem ExC.nd {w : World} {b o : Nat} {x : Ex} (h : ExC w b o x) : ∃ d : Nd, d.x = x ∧ NdR w b o d := by
  obtain ⟨h0, h1, h2, a, c, h3, h4⟩ := h
  exact ⟨⟨x, a, c⟩, rfl, h0, h1, h2, h3, h4⟩

abbrev bigT : Nat := 140737488355328

structure AsV where
  nm : List UInt8
  e : Nd
  fit : nm.length ≤ 140737488355328
def AsV.p (s : AsV) : As := ⟨s.nm, s.e.x⟩
abbrev AsV.v (s : AsV) : Array Value := #[sv s.nm, .int .i64 s.e.x.kind, .int .i64 s.e.x.n, sv s.e.x.s, .slice s.e.a s.e.x.args.length s.e.c]
def AsR (w : World) (b o : Nat) (s : AsV) : Prop := w.cell? ⟨b, o, none⟩ = some (sv s.nm) ∧ NdR w b (o + 1) s.e
theorem AsR.grown {w w' : World} {b o : Nat} {s : AsV} (h : AsR w b o s) (hb : Below w.heap.size w w') : AsR w' b o s := ⟨kept hb h.1, h.2.grown hb⟩
def fitAs (s : As) : Prop := s.nm.length ≤ 140737488355328
theorem asPick {w : World} {v : Value} {l : List As} (h : SlOf 5 AsAt w v l) (hf : ∀ s ∈ l, fitAs s) : ∃ Y : List AsV, Y.map AsV.p = l ∧ SlOf 5 AsR w v Y :=
  h.pick AsV.p (fun b o x hx h => by
    obtain ⟨d, hd, hr⟩ := h.2.nd
    exact ⟨⟨x.nm, d, hf x hx⟩, by unfold AsV.p; rw [hd], h.1, hr⟩)

structure EmV where
  type : List UInt8
  sets : List AsV
  a : Option Addr
  c : Nat
  fit : type.length ≤ 140737488355328
def EmV.p (m : EmV) : Em := ⟨m.type, m.sets.map AsV.p⟩
abbrev EmV.v (m : EmV) : Array Value := #[sv m.type, .slice m.a m.sets.length m.c]
def EmO (w : World) (m : EmV) : Prop := SlOf 5 AsR w (.slice m.a m.sets.length m.c) m.sets
theorem EmO.grown {w w' : World} {m : EmV} (h : EmO w m) (hb : Below w.heap.size w w') : EmO w' m := SlOf.grown h (fun _ _ _ _ _ => AsR.grown) hb
def EmR (w : World) (b o : Nat) (m : EmV) : Prop := w.cell? ⟨b, o, none⟩ = some (sv m.type) ∧ w.cell? ⟨b, o + 1, none⟩ = some (.slice m.a m.sets.length m.c) ∧ EmO w m
theorem EmR.grown {w w' : World} {b o : Nat} {m : EmV} (h : EmR w b o m) (hb : Below w.heap.size w w') : EmR w' b o m := ⟨kept hb h.1, kept hb h.2.1, h.2.2.grown hb⟩
def fitEm (m : Em) : Prop := m.type.length ≤ 140737488355328 ∧ ∀ s ∈ m.sets, fitAs s
theorem emPick {w : World} {v : Value} {l : List Em} (h : SlOf 2 EmAt w v l) (hf : ∀ s ∈ l, fitEm s) : ∃ Y : List EmV, Y.map EmV.p = l ∧ SlOf 2 EmR w v Y :=
  h.pick EmV.p (fun b o x hx h => by
    obtain ⟨h0, a, c, h1, h2⟩ := h
    obtain ⟨Y, hY, hs⟩ := asPick h2 (hf x hx).2
    have hl : x.sets.length = Y.length := by rw [← hY]; simp
    rw [hl] at h1 hs
    exact ⟨⟨x.type, Y, a, c, (hf x hx).1⟩, by unfold EmV.p; simp only [hY], h0, h1, hs⟩)

structure CdV where
  kind : Int
  neg : Bool
  A : Nd
  B : Nd
def CdV.p (d : CdV) : Cd := ⟨d.kind, d.neg, d.A.x, d.B.x⟩
abbrev CdV.v (d : CdV) : Array Value := #[.int .i64 d.kind, .bool d.neg, .int .i64 d.A.x.kind, .int .i64 d.A.x.n, sv d.A.x.s, .slice d.A.a d.A.x.args.length d.A.c, .int .i64 d.B.x.kind, .int .i64 d.B.x.n, sv d.B.x.s, .slice d.B.a d.B.x.args.length d.B.c]
def CdO (w : World) (d : CdV) : Prop := d.A.at w ∧ d.B.at w
theorem CdO.grown {w w' : World} {d : CdV} (h : CdO w d) (hb : Below w.heap.size w w') : CdO w' d := ⟨Nd.grown h.1 hb, Nd.grown h.2 hb⟩
def CdR (w : World) (b o : Nat) (d : CdV) : Prop := w.cell? ⟨b, o, none⟩ = some (.int .i64 d.kind) ∧ w.cell? ⟨b, o + 1, none⟩ = some (.bool d.neg) ∧ NdR w b (o + 2) d.A ∧ NdR w b (o + 6) d.B
theorem CdR.grown {w w' : World} {b o : Nat} {d : CdV} (h : CdR w b o d) (hb : Below w.heap.size w w') : CdR w' b o d := ⟨kept hb h.1, kept hb h.2.1, h.2.2.1.grown hb, h.2.2.2.grown hb⟩
theorem CdR.ok {w : World} {b o : Nat} {d : CdV} (h : CdR w b o d) : CdO w d := ⟨h.2.2.1.2.2.2.2, h.2.2.2.2.2.2.2⟩
theorem cdPick {w : World} {v : Value} {l : List Cd} (h : SlOf 10 CdAt w v l) : ∃ Y : List CdV, Y.map CdV.p = l ∧ SlOf 10 CdR w v Y :=
  h.pick CdV.p (fun b o x hx h => by
    obtain ⟨h0, h1, h2, h3⟩ := h
    obtain ⟨A, hA, hA'⟩ := h2.nd
    obtain ⟨B, hB, hB'⟩ := h3.nd
    exact ⟨⟨x.kind, x.neg, A, B⟩, by unfold CdV.p; simp only [hA, hB], h0, h1, hA', hB'⟩)

structure CsV where
  whn : List CdV
  wa : Option Addr
  wc : Nat
  refuse : List UInt8
  emits : List EmV
  ea : Option Addr
  ec : Nat
  fit : refuse.length ≤ 140737488355328
def CsV.p (x : CsV) : Cs := ⟨x.whn.map CdV.p, x.refuse, x.emits.map EmV.p⟩
abbrev CsV.v (x : CsV) : Array Value := #[.slice x.wa x.whn.length x.wc, sv x.refuse, .slice x.ea x.emits.length x.ec]
def CsO (w : World) (x : CsV) : Prop := SlOf 10 CdR w (.slice x.wa x.whn.length x.wc) x.whn ∧ SlOf 2 EmR w (.slice x.ea x.emits.length x.ec) x.emits
theorem CsO.grown {w w' : World} {x : CsV} (h : CsO w x) (hb : Below w.heap.size w w') : CsO w' x := ⟨SlOf.grown h.1 (fun _ _ _ _ _ => CdR.grown) hb, SlOf.grown h.2 (fun _ _ _ _ _ => EmR.grown) hb⟩
def CsR (w : World) (b o : Nat) (x : CsV) : Prop := w.cell? ⟨b, o, none⟩ = some (.slice x.wa x.whn.length x.wc) ∧ w.cell? ⟨b, o + 1, none⟩ = some (sv x.refuse) ∧ w.cell? ⟨b, o + 2, none⟩ = some (.slice x.ea x.emits.length x.ec) ∧ CsO w x
theorem CsR.grown {w w' : World} {b o : Nat} {x : CsV} (h : CsR w b o x) (hb : Below w.heap.size w w') : CsR w' b o x := ⟨kept hb h.1, kept hb h.2.1, kept hb h.2.2.1, h.2.2.2.grown hb⟩
def fitCs (x : Cs) : Prop := x.refuse.length ≤ 140737488355328 ∧ ∀ m ∈ x.emits, fitEm m
theorem csPick {w : World} {v : Value} {l : List Cs} (h : SlOf 3 CsAt w v l) (hf : ∀ s ∈ l, fitCs s) : ∃ Y : List CsV, Y.map CsV.p = l ∧ SlOf 3 CsR w v Y :=
  h.pick CsV.p (fun b o x hx h => by
    obtain ⟨⟨a, c, h1, h2⟩, h0, a', c', h3, h4⟩ := h
    obtain ⟨Y, hY, hs⟩ := cdPick h2
    obtain ⟨Z, hZ, ht⟩ := emPick h4 (hf x hx).2
    have hl : x.whn.length = Y.length := by rw [← hY]; simp
    have hm : x.emits.length = Z.length := by rw [← hZ]; simp
    rw [hl] at h1 hs
    rw [hm] at h3 ht
    exact ⟨⟨Y, a, c, x.refuse, Z, a', c', (hf x hx).1⟩, by unfold CsV.p; simp only [hY, hZ], h1, h0, h3, hs, ht⟩)

structure HaV where
  cmd : List UInt8
  needs : List Ne
  na : Option Addr
  nc : Nat
  cases : List CsV
  ca : Option Addr
  cc : Nat
  fit : cmd.length ≤ 140737488355328
  nfit : ∀ n ∈ needs, n.nm.length ≤ 140737488355328
def HaV.p (x : HaV) : Ha := ⟨x.cmd, x.needs, x.cases.map CsV.p⟩
abbrev HaV.v (x : HaV) : Array Value := #[sv x.cmd, .slice x.na x.needs.length x.nc, .slice x.ca x.cases.length x.cc]
def HaO (w : World) (x : HaV) : Prop := SlOf 2 NeAt w (.slice x.na x.needs.length x.nc) x.needs ∧ SlOf 3 CsR w (.slice x.ca x.cases.length x.cc) x.cases
theorem HaO.grown {w w' : World} {x : HaV} (h : HaO w x) (hb : Below w.heap.size w w') : HaO w' x := ⟨SlOf.grown h.1 (fun _ _ _ _ _ => NeAt.grown) hb, SlOf.grown h.2 (fun _ _ _ _ _ => CsR.grown) hb⟩
def HaR (w : World) (b o : Nat) (x : HaV) : Prop := w.cell? ⟨b, o, none⟩ = some (sv x.cmd) ∧ w.cell? ⟨b, o + 1, none⟩ = some (.slice x.na x.needs.length x.nc) ∧ w.cell? ⟨b, o + 2, none⟩ = some (.slice x.ca x.cases.length x.cc) ∧ HaO w x
theorem HaR.grown {w w' : World} {b o : Nat} {x : HaV} (h : HaR w b o x) (hb : Below w.heap.size w w') : HaR w' b o x := ⟨kept hb h.1, kept hb h.2.1, kept hb h.2.2.1, h.2.2.2.grown hb⟩
def fitHa (x : Ha) : Prop := x.cmd.length ≤ 140737488355328 ∧ (∀ n ∈ x.needs, n.nm.length ≤ 140737488355328) ∧ ∀ c ∈ x.cases, fitCs c
theorem haPick {w : World} {v : Value} {l : List Ha} (h : SlOf 3 HaAt w v l) (hf : ∀ s ∈ l, fitHa s) : ∃ Y : List HaV, Y.map HaV.p = l ∧ SlOf 3 HaR w v Y :=
  h.pick HaV.p (fun b o x hx h => by
    obtain ⟨h0, ⟨a, c, h1, h2⟩, a', c', h3, h4⟩ := h
    obtain ⟨Z, hZ, ht⟩ := csPick h4 (hf x hx).2.2
    have hm : x.cases.length = Z.length := by rw [← hZ]; simp
    rw [hm] at h3 ht
    exact ⟨⟨x.cmd, x.needs, a, c, Z, a', c', (hf x hx).1, (hf x hx).2.1⟩, by unfold HaV.p; simp only [hZ], h0, h1, h3, h2, ht⟩)

structure EvV where
  type : List UInt8
  sets : List AsV
  sa : Option Addr
  sc : Nat
  drops : List (List UInt8)
  da : Option Addr
  dc : Nat
  fit : type.length ≤ 140737488355328
  dfit : ∀ n ∈ drops, n.length ≤ 140737488355328
def EvV.p (x : EvV) : Evo := ⟨x.type, x.sets.map AsV.p, x.drops⟩
abbrev EvV.v (x : EvV) : Array Value := #[sv x.type, .slice x.sa x.sets.length x.sc, .slice x.da x.drops.length x.dc]
def EvO (w : World) (x : EvV) : Prop := SlOf 5 AsR w (.slice x.sa x.sets.length x.sc) x.sets ∧ SlOf 1 StAt w (.slice x.da x.drops.length x.dc) x.drops
theorem EvO.grown {w w' : World} {x : EvV} (h : EvO w x) (hb : Below w.heap.size w w') : EvO w' x := ⟨SlOf.grown h.1 (fun _ _ _ _ _ => AsR.grown) hb, SlOf.grown h.2 (fun _ _ _ _ _ => StAt.grown) hb⟩
def EvR (w : World) (b o : Nat) (x : EvV) : Prop := w.cell? ⟨b, o, none⟩ = some (sv x.type) ∧ w.cell? ⟨b, o + 1, none⟩ = some (.slice x.sa x.sets.length x.sc) ∧ w.cell? ⟨b, o + 2, none⟩ = some (.slice x.da x.drops.length x.dc) ∧ EvO w x
theorem EvR.grown {w w' : World} {b o : Nat} {x : EvV} (h : EvR w b o x) (hb : Below w.heap.size w w') : EvR w' b o x := ⟨kept hb h.1, kept hb h.2.1, kept hb h.2.2.1, h.2.2.2.grown hb⟩
def fitEv (x : Evo) : Prop := x.type.length ≤ 140737488355328 ∧ (∀ s ∈ x.sets, fitAs s) ∧ ∀ n ∈ x.drops, n.length ≤ 140737488355328
theorem evPick {w : World} {v : Value} {l : List Evo} (h : SlOf 3 EvoAt w v l) (hf : ∀ s ∈ l, fitEv s) : ∃ Y : List EvV, Y.map EvV.p = l ∧ SlOf 3 EvR w v Y :=
  h.pick EvV.p (fun b o x hx h => by
    obtain ⟨h0, ⟨a, c, h1, h2⟩, a', c', h3, h4⟩ := h
    obtain ⟨Z, hZ, ht⟩ := asPick h2 (hf x hx).2.1
    have hm : x.sets.length = Z.length := by rw [← hZ]; simp
    rw [hm] at h1 ht
    exact ⟨⟨x.type, Z, a, c, x.drops, a', c', (hf x hx).1, (hf x hx).2.2⟩, by unfold EvV.p; simp only [hZ], h0, h1, h3, ht, h4⟩)

/-! ### What a table goes through -/
def casesV (hs : List HaV) : List CsV := hs.flatMap (·.cases)
def emitsV (hs : List HaV) : List EmV := (casesV hs).flatMap (·.emits)
def condsV (hs : List HaV) : List CdV := (casesV hs).flatMap (·.whn)
def setsV (hs : List HaV) (vs : List EvV) : List AsV := (emitsV hs).flatMap (·.sets) ++ vs.flatMap (·.sets)
def cdExs (d : CdV) : List Nd := if d.kind = 4 then [d.A] else [d.A, d.B]
def exprsV (hs : List HaV) (vs : List EvV) : List Nd := (condsV hs).flatMap cdExs ++ (setsV hs vs).map (·.e)

def casesP (hs : List Ha) : List Cs := hs.flatMap (·.cases)
def emitsP (hs : List Ha) : List Em := (casesP hs).flatMap (·.emits)
def condsP (hs : List Ha) : List Cd := (casesP hs).flatMap (·.whn)
def setsP (hs : List Ha) (vs : List Evo) : List As := (emitsP hs).flatMap (·.sets) ++ vs.flatMap (·.sets)
def cdExP (d : Cd) : List Ex := if d.kind = 4 then [d.A] else [d.A, d.B]
def exprsP (hs : List Ha) (vs : List Evo) : List Ex := (condsP hs).flatMap cdExP ++ (setsP hs vs).map (·.e)

theorem casesV_p (hs : List HaV) : (casesV hs).map CsV.p = casesP (hs.map HaV.p) := by
  simp only [casesV, casesP, List.map_flatMap, List.flatMap_map, HaV.p]
theorem emitsV_p (hs : List HaV) : (emitsV hs).map EmV.p = emitsP (hs.map HaV.p) := by
  rw [emitsP, ← casesV_p]; simp only [emitsV, List.map_flatMap, List.flatMap_map, CsV.p]
theorem condsV_p (hs : List HaV) : (condsV hs).map CdV.p = condsP (hs.map HaV.p) := by
  rw [condsP, ← casesV_p]; simp only [condsV, List.map_flatMap, List.flatMap_map, CsV.p]
theorem setsV_p (hs : List HaV) (vs : List EvV) : (setsV hs vs).map AsV.p = setsP (hs.map HaV.p) (vs.map EvV.p) := by
  rw [setsP, ← emitsV_p]; simp only [setsV, List.map_append, List.map_flatMap, List.flatMap_map, EmV.p, EvV.p]
theorem exprsV_p (hs : List HaV) (vs : List EvV) : (exprsV hs vs).map (·.x) = exprsP (hs.map HaV.p) (vs.map EvV.p) := by
  rw [exprsP, ← condsV_p, ← setsV_p]
  simp only [exprsV, List.map_append, List.map_flatMap, List.flatMap_map, List.map_map]
  congr 1
  congr 1
  funext d
  simp only [cdExs, cdExP, CdV.p]
  by_cases h : d.kind = 4 <;> simp [h]

/-- All that is there of a table. -/
structure TabR (w : World) (ha : Option Addr) (hc : Nat) (hs : List HaV) (va : Option Addr) (vc : Nat) (vs : List EvV) : Prop where
  hand : SlOf 3 HaR w (.slice ha hs.length hc) hs
  evol : SlOf 3 EvR w (.slice va vs.length vc) vs
theorem TabR.grown {w w' : World} {ha : Option Addr} {hc : Nat} {hs : List HaV} {va : Option Addr} {vc : Nat} {vs : List EvV} (h : TabR w ha hc hs va vc vs) (hb : Below w.heap.size w w') : TabR w' ha hc hs va vc vs :=
  ⟨SlOf.grown h.hand (fun _ _ _ _ _ => HaR.grown) hb, SlOf.grown h.evol (fun _ _ _ _ _ => EvR.grown) hb⟩
theorem SlOf.mem {α : Type} {sz : Nat} {At : World → Nat → Nat → α → Prop} {w : World} {v : Value} {l : List α} (h : SlOf sz At w v l) {x : α} (hx : x ∈ l) : ∃ b o, At w b o x := by
  obtain ⟨ao, cap, e, h1, h2, h4⟩ := h
  obtain ⟨i, hi⟩ := List.mem_iff_getElem?.1 hx
  obtain ⟨b, off, _, _, hc⟩ := h4 (by have := (List.getElem?_eq_some_iff.1 hi).1; omega)
  exact ⟨b, _, hc i x hi⟩
theorem TabR.cs {w : World} {ha : Option Addr} {hc : Nat} {hs : List HaV} {va : Option Addr} {vc : Nat} {vs : List EvV} (h : TabR w ha hc hs va vc vs) {x : CsV} (hx : x ∈ casesV hs) : CsO w x := by
  obtain ⟨y, hy, hx⟩ := List.mem_flatMap.1 hx
  obtain ⟨b, o, hr⟩ := h.hand.mem hy
  obtain ⟨b, o, hr⟩ := hr.2.2.2.2.mem hx
  exact hr.2.2.2
theorem TabR.em {w : World} {ha : Option Addr} {hc : Nat} {hs : List HaV} {va : Option Addr} {vc : Nat} {vs : List EvV} (h : TabR w ha hc hs va vc vs) {x : EmV} (hx : x ∈ emitsV hs) : EmO w x := by
  obtain ⟨y, hy, hx⟩ := List.mem_flatMap.1 hx
  obtain ⟨b, o, hr⟩ := (h.cs hy).2.mem hx
  exact hr.2.2
theorem TabR.cd {w : World} {ha : Option Addr} {hc : Nat} {hs : List HaV} {va : Option Addr} {vc : Nat} {vs : List EvV} (h : TabR w ha hc hs va vc vs) {x : CdV} (hx : x ∈ condsV hs) : CdO w x := by
  obtain ⟨y, hy, hx⟩ := List.mem_flatMap.1 hx
  obtain ⟨b, o, hr⟩ := (h.cs hy).1.mem hx
  exact hr.ok
theorem TabR.sets {w : World} {ha : Option Addr} {hc : Nat} {hs : List HaV} {va : Option Addr} {vc : Nat} {vs : List EvV} (h : TabR w ha hc hs va vc vs) {x : AsV} (hx : x ∈ setsV hs vs) : x.e.at w := by
  rcases List.mem_append.1 hx with hx | hx
  · obtain ⟨y, hy, hx⟩ := List.mem_flatMap.1 hx
    obtain ⟨b, o, hr⟩ := SlOf.mem (h.em hy) hx
    exact hr.2.2.2.2.2
  · obtain ⟨y, hy, hx⟩ := List.mem_flatMap.1 hx
    obtain ⟨b, o, hr⟩ := h.evol.mem hy
    obtain ⟨b, o, hr⟩ := hr.2.2.2.1.mem hx
    exact hr.2.2.2.2.2
theorem TabR.ex {w : World} {ha : Option Addr} {hc : Nat} {hs : List HaV} {va : Option Addr} {vc : Nat} {vs : List EvV} (h : TabR w ha hc hs va vc vs) {x : Nd} (hx : x ∈ exprsV hs vs) : x.at w := by
  rcases List.mem_append.1 hx with hx | hx
  · obtain ⟨y, hy, hx⟩ := List.mem_flatMap.1 hx
    have := h.cd hy
    unfold cdExs at hx
    split at hx
    · rw [List.mem_singleton.1 hx]; exact this.1
    · rcases List.mem_cons.1 hx with rfl | hx
      · exact this.1
      · rw [List.mem_singleton.1 hx]; exact this.2
  · obtain ⟨y, hy, rfl⟩ := List.mem_map.1 hx
    exact h.sets hy

/-! ### What Check asks -/
def distinctT : List (List UInt8) → Bool
  | [] => true
  | s :: r => !r.contains s && distinctT r
/-- All names may be, and no two are the same. -/
def apartT (l : List (List UInt8)) : Bool := l.all nameB && distinctT l
def manyX (e : Ex) : Bool := decide (64 < (nodesX e).length)
def tooManyR (hs : List Ha) (vs : List Evo) : Bool :=
  decide (32 < hs.length) || decide (32 < vs.length) || hs.any (fun h => decide (16 < h.needs.length) || decide (16 < h.cases.length)) ||
  (casesP hs).any (fun c => decide (16 < c.whn.length) || decide (16 < c.emits.length)) || (emitsP hs).any (fun m => decide (16 < m.sets.length)) ||
  vs.any (fun v => decide (16 < v.sets.length) || decide (16 < v.drops.length)) || (exprsP hs vs).any manyX
def badNameX (e : Ex) : Bool := (nodesX e).any (fun x => nmsX x && !nameB x.s)
def misnamedR (hs : List Ha) (vs : List Evo) : Bool :=
  !apartT (hs.map (·.cmd)) || !apartT (vs.map (·.type)) || hs.any (fun h => !apartT (h.needs.map (·.nm))) || (emitsP hs).any (fun m => !nameB m.type || !apartT (m.sets.map (·.nm))) ||
  vs.any (fun v => v.sets.any (fun a => !nameB a.nm) || v.drops.any (fun d => !nameB d)) || (exprsP hs vs).any badNameX
def badCase (c : Cs) : Bool := decide (200 < c.refuse.length) || (c.refuse.isEmpty == c.emits.isEmpty)
def badCond (d : Cd) : Bool := decide (d.kind < 1) || decide (4 < d.kind) || (decide (d.kind = 4) && !nmsX d.A)
def badFormX (e : Ex) : Bool := !formX e || (nodesX e).any (fun x => decide (x.kind = 2) && decide (200 < x.s.length))
def misformedR (hs : List Ha) (vs : List Evo) : Bool := (casesP hs).any badCase || (condsP hs).any badCond || (exprsP hs vs).any badFormX
def checkT (hs : List Ha) (vs : List Evo) : Int := if tooManyR hs vs then 130 else if misnamedR hs vs then 131 else if misformedR hs vs then 132 else 0
end Go.Proofs.YtingpmgpjmlioaaGreatDoor
