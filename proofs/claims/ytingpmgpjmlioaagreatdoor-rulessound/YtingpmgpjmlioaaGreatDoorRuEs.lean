/-
  DERIVED. The document's needs and made.
-/
import Derived.Test.YtingpmgpjmlioaaGreatDoorRuEm
import Derived.Test.YtingpmgpjmlioaaGreatDoorRuDg
import Derived.Test.YtingpmgpjmlioaaGreatDoorShpl
import Derived.Deep.RegionHeld3
import Derived.Test.YtingpmgpjmlioaaGreatDoorRuOd
namespace Go.Proofs.YtingpmgpjmlioaaGreatDoor
open Go.RowKit
set_option linter.unusedVariables false

/-- Has a command the fields that it must have? -/
def needB (m : List Fld) (l : List Ne) : Bool := decide (l.length = m.length) && l.all (needOk m)
theorem needB_R (m : List Fld) (l : List Ne) : needR m l = if needB m l then .ok () else .error 137 := by
  unfold needR needB
  by_cases h : m.length = l.length
  · rw [if_neg (by omega), decide_eq_true h.symm, Bool.true_and]
  · rw [if_pos h, decide_eq_false (by omega), Bool.false_and]
    rfl

end Go.Proofs.YtingpmgpjmlioaaGreatDoor

namespace Go.Proofs.YtingpmgpjmlioaaGreatDoor
open Go.RowKit
set_option linter.unusedVariables false

/-- An event of a decision, by the document. -/
def madeP (st : List UInt8) (l m : List Fld) (x : Em) : Except Int EvM := match setsG (evalE st l m) [] x.sets with
  | .error e => .error e
  | .ok fs => .ok ⟨x.type, fs⟩
theorem madeP_R (st : List UInt8) (l m : List Fld) (x : Em) : madeP st l m x = eventR ⟨st, l, m, none, 0, none, 0, 0⟩ x := rfl

/-- What made comes to. -/
def MadeE (w : World) (r : Except Int EvM) (e : Ending) (w' : World) : Prop :=
  (match r with
    | .ok v => ∃ a c, e = .returned (.tuple #[.agg (emvV v.type (.slice a v.fields.length c)), .int .i64 0]) ∧ FOwn w' w.heap.size (.slice a v.fields.length c) v.fields
    | .error n => e = .returned (.tuple #[.agg ev00, .int .i64 n])) ∧ Below w.heap.size w w'

/-- Where made stands. -/
structure MdSt (w wr : World) (B : Nat) (em : Array Value) (tp : List UInt8) (v : Value) (cur : List Fld) (k : Nat) : Prop where
  bel : Below w.heap.size w wr
  eb : wr.heap[B]? = some (.cells em 94 (0, 0))
  rb : wr.heap[B + 1]? = some (.cells ev00 34 (0, 0))
  ob : wr.heap[B + 2]? = some (.cells (emvV tp v) 34 (0, 0))
  own : FOwn wr (B + 3) v cur
  len : cur.length ≤ k
  siz : B + 3 ≤ wr.heap.size
theorem MdSt.grown {w wr wr' : World} {B : Nat} {em : Array Value} {tp : List UInt8} {v : Value} {cur : List Fld} {k : Nat} (h : MdSt w wr B em tp v cur k) (hb : Below wr.heap.size wr wr') : MdSt w wr' B em tp v cur k :=
  have hs := h.siz
  ⟨h.bel.trans (hb.mono h.bel.size), (hb.block _ (by omega)).trans h.eb, (hb.block _ (by omega)).trans h.rb, (hb.block _ (by omega)).trans h.ob, h.own.below hb (Nat.le_refl _), h.len, by have := hb.size; omega⟩
theorem fown_set1 {w : World} {base q i : Nat} {v : Value} {L : List Fld} (h : FOwn w base v L) (hq : q < base) (x : Value) : FOwn (w.setCell ⟨q, i, none⟩ x) base v L := by
  obtain ⟨h1, h2⟩ := h
  refine ⟨h1, ?_⟩
  rcases h2 with h | ⟨g, cap, cu, a1, b1, c1, r1⟩
  · exact .inl h
  · exact .inr ⟨g, cap, cu, a1, b1, (heap_setCell_other _ ⟨q, i, none⟩ _ _ (show g ≠ q by omega)).trans c1, r1⟩
theorem MdSt.put {w wr wr' : World} {B : Nat} {em : Array Value} {tp : List UInt8} {v v' : Value} {cur cur' : List Fld} {k : Nat} (h : MdSt w wr B em tp v cur k) (hB : B = w.heap.size) (hb : Below wr.heap.size wr wr') (ho : FOwn wr' wr.heap.size v' cur') (hl : cur'.length ≤ k + 1) : MdSt w (wr'.setCell ⟨B + 2, 2, none⟩ v') B em tp v' cur' (k + 1) := by
  have g := h.grown hb
  have hs := h.siz
  refine ⟨g.bel.setCell (show w.heap.size ≤ B + 2 by omega) _, (heap_setCell_other _ ⟨B + 2, 2, none⟩ _ _ (show B ≠ B + 2 by omega)).trans g.eb, (heap_setCell_other _ ⟨B + 2, 2, none⟩ _ _ (show B + 1 ≠ B + 2 by omega)).trans g.rb, ?_, fown_set1 (ho.mono hs) (by omega) _, hl, by rw [show (wr'.setCell ⟨B + 2, 2, none⟩ v').heap.size = wr'.heap.size by simp [World.setCell]]; exact g.siz⟩
  rw [heap_setCell_same _ (B + 2) 2 _ _ _ g.ob]
  rfl

end Go.Proofs.YtingpmgpjmlioaaGreatDoor

namespace Go.Proofs.YtingpmgpjmlioaaGreatDoor
open Go.RowKit
set_option linter.unusedVariables false

def allG (Hd : Cd → Except Int Bool) : List Cd → Except Int Bool
  | [] => .ok true
  | d :: r => match Hd d with
    | .error e => .error e
    | .ok false => .ok false
    | .ok true => allG Hd r
theorem allG_eq (S : Sc) : ∀ l, allR S l = allG (holdsR S) l
  | [] => rfl
  | d :: r => by
    rw [allR, allG, allG_eq S r]
    generalize holdsR S d = q
    cases q with
    | error e => rfl
    | ok b => cases b <;> rfl
theorem allG_err {Hd : Cd → Except Int Bool} {l : List Cd} {k : Nat} {d : Cd} {n : Int} (hk : l[k]? = some d) (h : Hd d = .error n) : allG Hd (l.drop k) = .error n := by
  rw [drop_consT hk, allG, h]
theorem allG_no {Hd : Cd → Except Int Bool} {l : List Cd} {k : Nat} {d : Cd} (hk : l[k]? = some d) (h : Hd d = .ok false) : allG Hd (l.drop k) = .ok false := by
  rw [drop_consT hk, allG, h]
theorem allG_yes {Hd : Cd → Except Int Bool} {l : List Cd} {k : Nat} {d : Cd} (hk : l[k]? = some d) (h : Hd d = .ok true) : allG Hd (l.drop k) = allG Hd (l.drop (k + 1)) := by
  rw [drop_consT hk, allG, h]
def outG (mv : Em → Except Int EvM) (c : Cs) : Except Int Dc := if c.emits = [] then .ok ⟨true, c.refuse, []⟩ else match eventsG mv c.emits with
  | .error e => .error e
  | .ok vs => .ok ⟨false, [], vs⟩
theorem outG_eq (S : Sc) (c : Cs) : outcomeR S c = outG (eventR S) c := by
  unfold outcomeR outG
  rw [eventsR_eq]
  generalize eventsG (eventR S) c.emits = q
  cases q <;> rfl

theorem holdsE_err {st : List UInt8} {l m : List Fld} {d : Cd} {n : Int} (h : holdsE st l m d = .error n) : n ≠ 0 := by
  rw [← holdsP_eq] at h
  unfold holdsP tailP at h
  split at h
  · cases h; decide
  · split at h
    · cases h
    · split at h
      · rename_i e he
        cases h
        exact evalE_err he
      · split at h
        · rename_i e he
          cases h
          exact evalE_err he
        · split at h
          · cases h
          · split at h
            · cases h; decide
            · split at h <;> cases h
theorem setsG_errz {ev : Ex → Except Int Fld} (hz : ∀ x n, ev x = .error n → n ≠ 0) : ∀ (l : List As) (acc : List Fld) (n : Int), setsG ev acc l = .error n → n ≠ 0
  | [], acc, n, h => by rw [setsG] at h; cases h
  | a :: r, acc, n, h => by
    rw [setsG] at h
    cases hx : ev a.e with
    | error e => rw [hx] at h; cases h; exact hz _ _ hx
    | ok f => rw [hx] at h; exact setsG_errz hz r _ n h
theorem madeP_err {st : List UInt8} {l m : List Fld} {x : Em} {n : Int} (h : madeP st l m x = .error n) : n ≠ 0 := by
  unfold madeP at h
  cases hs : setsG (evalE st l m) [] x.sets with
  | error e => rw [hs] at h; cases h; exact setsG_errz (fun x n q => evalE_err q) _ _ _ hs
  | ok fs => rw [hs] at h; cases h
/-- What a loop over conditions knows: A is what all come to. -/
def alSt (Hd : Cd → Except Int Bool) (A : Except Int Bool) (l : List Cd) (k : Nat) (t : Bool) : Prop := if t then A = allG Hd (l.drop k) else A = .ok false

theorem evown_set1 {w : World} {base q i : Nat} {v : Value} {L : List EvM} (h : EvOwn w base v L) (hq : q < base) (x : Value) : EvOwn (w.setCell ⟨q, i, none⟩ x) base v L := by
  have hk : ∀ g, base ≤ g → (w.setCell ⟨q, i, none⟩ x).heap[g]? = w.heap[g]? := fun g hg => heap_setCell_other _ ⟨q, i, none⟩ _ _ (show g ≠ q by omega)
  obtain ⟨R, ⟨h1, h2⟩, h3, h4⟩ := h
  refine ⟨R, ⟨h1, ?_⟩, h3, fun i e r hi hr => ?_⟩
  · rcases h2 with h | ⟨g, cap, cur, a, b, c, r⟩
    · exact .inl h
    · exact .inr ⟨g, cap, cur, a, b, (hk g b).trans c, r⟩
  · obtain ⟨a, b, c1, c2⟩ := h4 i e r hi hr
    refine ⟨a, b, c1, ?_⟩
    rcases c2 with h | ⟨g, cap, cur, a, b, c, r⟩
    · exact .inl h
    · exact .inr ⟨g, cap, cur, a, b, (hk g b).trans c, r⟩

/-- Where the making of events stands: the decision's box at D. -/
structure CsSt (w wr : World) (D : Nat) (v : Value) (acc : List EvM) (k : Nat) : Prop where
  bel : Below w.heap.size w wr
  ob : wr.heap[D]? = some (.cells #[.bool false, .string ⟨#[]⟩, v] 37 (0, 0))
  own : EvOwn wr (D + 1) v acc
  len : acc.length = k
  siz : D + 1 ≤ wr.heap.size
  lt : w.heap.size ≤ D
theorem CsSt.grown {w wr wr' : World} {D : Nat} {v : Value} {acc : List EvM} {k : Nat} (h : CsSt w wr D v acc k) (hb : Below wr.heap.size wr wr') : CsSt w wr' D v acc k :=
  have hs := h.siz
  ⟨h.bel.trans (hb.mono h.bel.size), (hb.block _ (by omega)).trans h.ob, h.own.below hb (Nat.le_refl _), h.len, by have := hb.size; omega, h.lt⟩
theorem CsSt.put {w w5 wr' : World} {D : Nat} {v v' : Value} {acc acc' : List EvM} {k : Nat} (g : CsSt w w5 D v acc k) (hb : Below (D + 1) w5 wr') (ho : EvOwn wr' (D + 1) v' acc') (hl : acc'.length = k + 1) : CsSt w (wr'.setCell ⟨D, 2, none⟩ v') D v' acc' (k + 1) := by
  have hs := g.siz
  have ht := g.lt
  refine ⟨(g.bel.trans (hb.mono (by omega))).setCell (show w.heap.size ≤ D by omega) _, ?_, evown_set1 ho (by omega) _, hl, by rw [show (wr'.setCell ⟨D, 2, none⟩ v').heap.size = wr'.heap.size by simp [World.setCell]]; have := hb.size; omega, ht⟩
  rw [heap_setCell_same _ D 2 _ _ _ ((hb.block _ (by omega)).trans g.ob)]
  rfl
theorem cs_next {w w5 wr' : World} {D : Nat} {v v' : Value} {acc : List EvM} {e : EvM} {k : Nat} (g : CsSt w w5 D v acc k) (hb : Below (D + 1) w5 wr') (ho : EvOwn wr' (D + 1) v' (acc ++ [e])) : ∃ a n c, v' = .slice a n c ∧ wr'.heap[D]? = some (.cells #[.bool false, .string ⟨#[]⟩, v] 37 (0, 0)) ∧ CsSt w (wr'.setCell ⟨D, 2, none⟩ (.slice a n c)) D (.slice a n c) (acc ++ [e]) (k + 1) := by
  obtain ⟨a, c, rfl⟩ := ho.slice
  exact ⟨a, _, c, rfl, (hb.block _ (by omega)).trans g.ob, g.put hb ho (by rw [List.length_append, g.len]; rfl)⟩

end Go.Proofs.YtingpmgpjmlioaaGreatDoor

namespace Go.Proofs.YtingpmgpjmlioaaGreatDoor
open Go.RowKit
set_option linter.unusedVariables false

/-- A slice of events reads as these. -/
def EvRd (w : World) (v : Value) (L : List EvM) : Prop := ∃ a c, v = .slice a L.length c ∧ L.length ≤ c ∧ c ≤ 9223372036854775807 ∧
  ∀ (k : Nat) (e : EvM), L[k]? = some e → ∃ b off fa fc, a = some ⟨b, off, none⟩ ∧ b < w.heap.size ∧ w.cell? ⟨b, off + k * 3, none⟩ = some (sv e.type) ∧ w.cell? ⟨b, off + k * 3 + 1, none⟩ = some (.int .i64 0) ∧ w.cell? ⟨b, off + k * 3 + 2, none⟩ = some (.slice fa e.fields.length fc) ∧ FdL w (.slice fa e.fields.length fc) e.fields
theorem EvRd.below {B : Nat} {w w' : World} {v : Value} {L : List EvM} (h : EvRd w v L) (hb : Below B w w') (hB : w.heap.size ≤ B) : EvRd w' v L := by
  obtain ⟨a, c, rfl, h1, h2, h3⟩ := h
  refine ⟨a, c, rfl, h1, h2, fun k e hk => ?_⟩
  obtain ⟨b, off, fa, fc, e1, hlt, c0, c1, c2, hf⟩ := h3 k e hk
  exact ⟨b, off, fa, fc, e1, Nat.lt_of_lt_of_le hlt hb.size, cell_kept hb hB c0, cell_kept hb hB c1, cell_kept hb hB c2, hf.below hb hB⟩
theorem EvOwn.rd {w : World} {base : Nat} {v : Value} {L : List EvM} (h : EvOwn w base v L) : EvRd w v L := by
  obtain ⟨R, ⟨h1, h2⟩, h3, h4⟩ := h
  rcases h2 with ⟨rfl, e⟩ | ⟨g, cap, cur, rfl, hb, hg, hn, hm, hs, ht⟩
  · have : L = [] := List.eq_nil_of_length_eq_zero (by omega)
    subst this
    exact ⟨none, 0, rfl, by simp, by omega, fun k e hk => by simp at hk⟩
  · refine ⟨some ⟨g, 0, none⟩, cap, by rw [h3], by omega, by unfold maxLen at hm; omega, fun k e hk => ?_⟩
    have hkl := (List.getElem?_eq_some_iff.1 hk).1
    obtain ⟨r, hr⟩ : ∃ r, R[k]? = some r := ⟨_, List.getElem?_eq_getElem (by omega)⟩
    obtain ⟨e0, e1, e2⟩ := h4 k e r hk hr
    obtain ⟨q0, q1, q2⟩ := ecs_get R k r hr
    have at' : ∀ j u, (ecs R)[j]? = some u → w.cell? ⟨g, j, none⟩ = some u := by
      intro j u hu
      have hj := (List.getElem?_eq_some_iff.1 hu).1
      have e : (cur.toList.take (R.length * 3))[j]? = (ecs R)[j]? := by rw [ht]
      rw [List.getElem?_take_of_lt (by omega), hu] at e
      simp only [World.cell?, hg]
      simpa using e
    refine ⟨g, 0, r.a, r.c, rfl, lt_of_block hg, ?_, ?_, ?_, ?_⟩
    · rw [← e0, Nat.zero_add]; exact at' _ _ q0
    · rw [Nat.zero_add]; exact at' _ _ q1
    · rw [← e1, Nat.zero_add]; exact at' _ _ q2
    · rw [← e1]; exact e2.fdl

end Go.Proofs.YtingpmgpjmlioaaGreatDoor

namespace Go.Proofs.YtingpmgpjmlioaaGreatDoor
open Go.RowKit
set_option linter.unusedVariables false

theorem dec_none {st : List UInt8} {l m : List Fld} {hs : List Ha} {cmd : List UInt8} (h : ∀ x ∈ hs, x.cmd ≠ cmd) : decE st l m hs cmd = .error 136 := by
  unfold decE decR handR
  rw [List.find?_eq_none.2 (fun x hx => by simpa using h x hx)]
theorem dec_some {st : List UInt8} {l m : List Fld} {hs : List Ha} {cmd : List UInt8} {k : Nat} {x : Ha} (h : ∀ j, j < k → ∀ u, hs[j]? = some u → u.cmd ≠ cmd) (hk : hs[k]? = some x) (hx : x.cmd = cmd) : decE st l m hs cmd = if needB m x.needs then decideG (allG (holdsE st l m)) (outG (madeP st l m)) x.cases else .error 137 := by
  obtain ⟨hl, rfl⟩ := List.getElem?_eq_some_iff.1 hk
  unfold decE decR handR
  rw [List.find?_eq_some_iff_getElem.2 ⟨by simpa using hx, k, hl, rfl, fun j hj => by simpa using h j hj _ (List.getElem?_eq_getElem (by omega))⟩]
  simp only
  rw [needB_R]
  cases needB m hs[k].needs with
  | false => rfl
  | true =>
    simp only [if_true]
    rw [decideR_eq]
    have e1 : allR ⟨st, l, m, none, 0, none, 0, 0⟩ = allG (holdsE st l m) := by funext d; rw [allG_eq]; rfl
    have e2 : outcomeR ⟨st, l, m, none, 0, none, 0, 0⟩ = outG (madeP st l m) := by funext c; rw [outG_eq]; rfl
    rw [e1, e2]

end Go.Proofs.YtingpmgpjmlioaaGreatDoor

namespace Go.Proofs.YtingpmgpjmlioaaGreatDoor
open Go.RowKit
set_option linter.unusedVariables false

/-- The decision, or none; the error, or 0. -/
def decV (R : Except Int Dc) : Dc := match R with | .ok d => d | .error _ => ⟨false, [], []⟩
def decN (R : Except Int Dc) : Int := match R with | .ok _ => 0 | .error n => n
theorem caughtD_two {w w' : World} {R : Except Int Dc} {e : Ending} (h : CaughtD w R e w') : ∃ a c, e = .returned (.tuple #[.agg #[.bool (decV R).refused, sv (decV R).reason, .slice a (decV R).events.length c], .int .i64 (decN R)]) ∧ EvOwn w' w.heap.size (.slice a (decV R).events.length c) (decV R).events ∧ Below w.heap.size w w' := by
  obtain ⟨h1, h2⟩ := h
  cases R with
  | error n => exact ⟨none, 0, h1, EvOwn.nil _ _, h2⟩
  | ok d =>
    obtain ⟨v, rfl, ho⟩ := h1
    obtain ⟨a, c, rfl⟩ := ho.slice
    exact ⟨a, c, rfl, ho, h2⟩

theorem bigHaP.v {hs : List Ha} {Y : List HaV} (hY : Y.map HaV.p = hs) (h : ∀ x ∈ hs, bigHaP x) : ∀ y ∈ Y, bigHa y := by
  intro y hy x hx
  have hp : y.p ∈ hs := by rw [← hY]; exact List.mem_map_of_mem hy
  have hc : x.p ∈ y.p.cases := List.mem_map_of_mem hx
  obtain ⟨h1, h2⟩ := (h _ hp).2 _ hc
  refine ⟨?_, fun m hm => ?_⟩
  · have : x.p.emits.length = x.emits.length := by simp [CsV.p]
    omega
  · have hm' : m.p ∈ x.p.emits := List.mem_map_of_mem hm
    have h3 := h2 _ hm'
    have : m.p.sets.length = m.sets.length := by simp [EmV.p]
    omega
theorem bigHaP.r {hs : List Ha} (h : ∀ x ∈ hs, bigHaP x) : ∀ x ∈ hs, ∀ c ∈ x.cases, c.emits.length ≤ 3600000000000 ∧ ∀ e ∈ c.emits, e.sets.length ≤ 2000000000000 := by
  intro x hx c hc
  obtain ⟨h1, h2⟩ := (h _ hx).2 _ hc
  exact ⟨by omega, fun e he => by have := h2 e he; omega⟩

/-- Only fields that lie between lo and hi have been written over. -/
structure Mut (lo hi : Nat) (wL wr : World) : Prop where
  bel : Below lo wL wr
  shp : ∀ q cur, lo ≤ q → q < hi → wL.heap[q]? = some (.cells cur 48 (0, 0)) → ∃ cur', wr.heap[q]? = some (.cells cur' 48 (0, 0)) ∧ cur'.size = cur.size
  oth : ∀ q, (hi ≤ q ∨ ∀ cur, wL.heap[q]? ≠ some (.cells cur 48 (0, 0))) → wr.heap[q]? = wL.heap[q]?
theorem Mut.refl (lo hi : Nat) (w : World) (h : lo ≤ w.heap.size) : Mut lo hi w w := ⟨(Below.refl _ _).mono h, fun q cur _ _ h => ⟨cur, h, rfl⟩, fun q _ => rfl⟩
theorem Mut.set1 {lo hi : Nat} {wL wr : World} (h : Mut lo hi wL wr) {g : Nat} {cur0 : Array Value} (hg : lo ≤ g) (hh : g < hi) (hf : wL.heap[g]? = some (.cells cur0 48 (0, 0))) (i : Nat) (x : Value) : Mut lo hi wL (wr.setCell ⟨g, i, none⟩ x) := by
  refine ⟨h.bel.setCell (p := ⟨g, i, none⟩) hg x, fun q cur hq hq2 hc => ?_, fun q hq => ?_⟩
  · obtain ⟨cur', h1, h2⟩ := h.shp q cur hq hq2 hc
    by_cases e : q = g
    · subst e
      exact ⟨_, heap_setCell_same _ q i _ _ _ h1, by rw [Array.size_setIfInBounds]; exact h2⟩
    · exact ⟨cur', (heap_setCell_other _ ⟨g, i, none⟩ _ _ e).trans h1, h2⟩
  · have e : q ≠ g := by
      rintro rfl
      rcases hq with hq | hq
      · omega
      · exact hq cur0 hf
    exact (heap_setCell_other _ ⟨g, i, none⟩ _ _ e).trans (h.oth q hq)
theorem Mut.put {lo hi : Nat} {wL wr : World} (h : Mut lo hi wL wr) {g : Nat} {cur0 : Array Value} (hg : lo ≤ g) (hh : g < hi) (hf : wL.heap[g]? = some (.cells cur0 48 (0, 0))) (k : Nat) (f : Fld) : Mut lo hi wL ((((wr.setCell ⟨g, k * 4, none⟩ (sv f.name)).setCell ⟨g, k * 4 + 1, none⟩ (.bool f.text)).setCell ⟨g, k * 4 + 2, none⟩ (.int .i64 f.n)).setCell ⟨g, k * 4 + 3, none⟩ (sv f.s)) :=
  (((h.set1 hg hh hf _ _).set1 hg hh hf _ _).set1 hg hh hf _ _).set1 hg hh hf _ _
theorem evown_heap {w w' : World} {base : Nat} {v : Value} {L : List EvM} (h : EvOwn w base v L) (hk : ∀ g, base ≤ g → w'.heap[g]? = w.heap[g]?) : EvOwn w' base v L := by
  obtain ⟨R, ⟨h1, h2⟩, h3, h4⟩ := h
  refine ⟨R, ⟨h1, ?_⟩, h3, fun i e r hi hr => ?_⟩
  · rcases h2 with h | ⟨g, cap, cur, a, b, c, r⟩
    · exact .inl h
    · exact .inr ⟨g, cap, cur, a, b, (hk g b).trans c, r⟩
  · obtain ⟨a, b, c1, c2⟩ := h4 i e r hi hr
    refine ⟨a, b, c1, ?_⟩
    rcases c2 with h | ⟨g, cap, cur, a, b, c, r⟩
    · exact .inl h
    · exact .inr ⟨g, cap, cur, a, b, (hk g b).trans c, r⟩
theorem Mut.own {lo hi base : Nat} {wL wr : World} {v : Value} {L : List EvM} (h : Mut lo hi wL wr) (hb : hi ≤ base) (ho : EvOwn wL base v L) : EvOwn wr base v L := evown_heap ho (fun g hg => h.oth g (.inl (by omega)))

/-- Where the fields of some events lie. -/
def EvPl (lo hi : Nat) (wL : World) (a : Option Addr) (n : Nat) : Prop := ∀ i, i < n → ∃ ge fa fn fc, a = some ⟨ge, 0, none⟩ ∧ ge < wL.heap.size ∧ (∀ cur, wL.heap[ge]? ≠ some (.cells cur 48 (0, 0))) ∧ wL.cell? ⟨ge, i * 3 + 2, none⟩ = some (.slice fa fn fc) ∧ (fn ≤ fc ∧ fc ≤ 9223372036854775807) ∧ (fn = 0 ∨ ∃ g cur, fa = some ⟨g, 0, none⟩ ∧ lo ≤ g ∧ g < hi ∧ wL.heap[g]? = some (.cells cur 48 (0, 0)) ∧ fn * 4 ≤ cur.size)
theorem EvOwn.max {w : World} {lo n c : Nat} {a : Option Addr} {L : List EvM} (h : EvOwn w lo (.slice a n c) L) : n ≤ 9223372036854775807 := by
  obtain ⟨_, _, e, h1, h2, _⟩ := h.rd
  cases e
  omega
theorem EvOwn.pl {wL w5 : World} {lo n c : Nat} {a : Option Addr} {L : List EvM} (h : EvOwn w5 lo (.slice a n c) L) (hb : Below w5.heap.size w5 wL) : EvPl lo w5.heap.size wL a n := by
  intro i hi
  have hn : n = L.length := by obtain ⟨_, _, e⟩ := h.slice; cases e; rfl
  obtain ⟨R, ⟨h1, h2⟩, h3, h4⟩ := h
  rcases h2 with ⟨e, e0⟩ | ⟨g, cap, cur, e, hb0, hg, hn0, hm, hs, ht⟩
  · cases e; omega
  · cases e
    obtain ⟨ev, he⟩ : ∃ ev, L[i]? = some ev := ⟨_, List.getElem?_eq_getElem (by omega)⟩
    obtain ⟨r, hr⟩ : ∃ r, R[i]? = some r := ⟨_, List.getElem?_eq_getElem (by omega)⟩
    obtain ⟨e0, e1, e2⟩ := h4 i ev r he hr
    obtain ⟨q0, q1, q2⟩ := ecs_get R i r hr
    obtain ⟨rt, ra, rn, rc⟩ := r
    simp only at e0 e1 e2 q0 q1 q2
    have hj := (List.getElem?_eq_some_iff.1 q2).1
    have hgl := lt_of_block hg
    have hgL : wL.heap[g]? = some (.cells cur 34 (0, 0)) := (hb.block g hgl).trans hg
    refine ⟨g, ra, rn, rc, rfl, lt_of_block hgL, fun cur' e => ?_, ?_, ?_, ?_⟩
    · rw [hgL] at e
      exact absurd e (by simp)
    · have e : (cur.toList.take (R.length * 3))[i * 3 + 2]? = (ecs R)[i * 3 + 2]? := by rw [ht]
      rw [List.getElem?_take_of_lt (by have := (List.getElem?_eq_some_iff.1 hr).1; omega), q2] at e
      simp only [World.cell?, hgL]
      simpa using e
    · obtain ⟨_, _, e, h5, h6, _⟩ := e2.fdl
      cases e
      exact ⟨h5, h6⟩
    · rcases e2.2 with ⟨e, e0⟩ | ⟨g', cap', cur', e, hb', hg', hn', hm', hs', ht'⟩
      · left
        cases e
        rfl
      · right
        cases e
        refine ⟨g', cur', rfl, hb', lt_of_block hg', (hb.block g' (lt_of_block hg')).trans hg', ?_⟩
        rw [hs']
        exact Nat.mul_le_mul_right 4 hn'
end Go.Proofs.YtingpmgpjmlioaaGreatDoor
