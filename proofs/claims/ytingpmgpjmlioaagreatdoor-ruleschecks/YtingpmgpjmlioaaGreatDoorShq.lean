/-
  DERIVED. The walk of readValue.
-/
import Derived.Test.YtingpmgpjmlioaaGreatDoorShr
import Derived.Lib.AtoiAllCases
import Derived.Lib.SmallJoins
import Derived.Maps.OwnSet
import Derived.Maps.AppendAt
namespace Go.Proofs.YtingpmgpjmlioaaGreatDoor
open Go.RowKit
set_option linter.unusedVariables false

/-- A number's text. -/
def readNum (v : List UInt8) : Option Int := match Lib.atoiAll v with
  | .ok n => if Lib.itoa n = v then some n else none
  | _ => none
/-- A text's text, without its quote. -/
def readTxt (r : List UInt8) : Option (List UInt8) := match unesc r with
  | some s => if s.length ≤ 200 then some s else none
  | none => none
/-- A value's text: a field without a name. -/
def readV (v : List UInt8) : Option Fld := match v with
  | [] => none
  | c :: r => if c = 39 then (readTxt r).map (fun s => ⟨[], true, 0, s⟩) else (readNum (c :: r)).map (fun n => ⟨[], false, n, []⟩)

/-- What readValue hands out: a field, and whether it is one. -/
def RvPost (w : World) (o : Option Fld) (e : Ending) (w' : World) : Prop :=
  ∃ f : Fld, e = .returned (.tuple #[.agg (fv f), .bool o.isSome]) ∧ (∀ g, o = some g → f = g) ∧ Below w.heap.size w w'

theorem prefix_yes (r : List UInt8) : Lib.trimPrefix (⟨(39 :: r).toArray⟩ : ByteArray).data.toList (⟨#[39]⟩ : ByteArray).data.toList = r ∧ Lib.hasPrefix (⟨(39 :: r).toArray⟩ : ByteArray).data.toList (⟨#[39]⟩ : ByteArray).data.toList = true := by
  simp [Lib.trimPrefix, Lib.hasPrefix]
theorem prefix_no (v : List UInt8) (h : ∀ r, v ≠ 39 :: r) : Lib.trimPrefix (⟨v.toArray⟩ : ByteArray).data.toList (⟨#[39]⟩ : ByteArray).data.toList = v ∧ Lib.hasPrefix (⟨v.toArray⟩ : ByteArray).data.toList (⟨#[39]⟩ : ByteArray).data.toList = false := by
  have : Lib.hasPrefix v [39] = false := by
    unfold Lib.hasPrefix
    rcases v with _ | ⟨c, r⟩
    · rfl
    · have hc : ¬ 39 = c := fun e => h r (by rw [e])
      simp [List.isPrefixOf, hc]
  simp [Lib.trimPrefix, this]

abbrev fld0 : Fld := ⟨[], false, 0, []⟩

end Go.Proofs.YtingpmgpjmlioaaGreatDoor

namespace Go.Proofs.YtingpmgpjmlioaaGreatDoor
open Go.RowKit
set_option linter.unusedVariables false

theorem atoi_bounds {v : List UInt8} {n : Int} (h : Lib.atoiAll v = .ok n) : -9223372036854775808 ≤ n ∧ n ≤ 9223372036854775807 := Lib.atoiAll_bounds h

end Go.Proofs.YtingpmgpjmlioaaGreatDoor

namespace Go.Proofs.YtingpmgpjmlioaaGreatDoor
open Go.RowKit
set_option linter.unusedVariables false

/-- A value that has a name. -/
def namedF (nm : List UInt8) : Option Fld → Except Int Fld
  | none => .error 122
  | some f => .ok ⟨nm, f.text, f.n, f.s⟩
/-- What a part tells. -/
def readP (p : List UInt8) : Except Int Fld := match (cutA 61 p).2 with
  | none => .error 121
  | some v => if nameB (cutA 61 p).1 then namedF (cutA 61 p).1 (readV v) else .error 121
def errN : Except Int Fld → Int
  | .error n => n
  | .ok _ => 0
def RfPost (w : World) (o : Except Int Fld) (e : Ending) (w' : World) : Prop :=
  ∃ f : Fld, e = .returned (.tuple #[.agg (fv f), .int .i64 (errN o)]) ∧ (∀ g, o = .ok g → f = g) ∧ Below w.heap.size w w'

theorem cutA_len (c : UInt8) (s : List UInt8) : (cutA c s).1.length ≤ s.length ∧ ((cutA c s).2.getD []).length ≤ s.length := by
  induction s with
  | nil => simp [cutA]
  | cons d r ih =>
    unfold cutA
    split
    · simp
    · simp; omega

theorem FBox.put0 {w : World} {q : Nat} {f : Fld} (h : FBox w q f) (a : List UInt8) : FBox (w.setCell ⟨q, 0, none⟩ (sv a)) q ⟨a, f.text, f.n, f.s⟩ := by
  unfold FBox at h ⊢
  rw [heap_setCell_same w q 0 _ _ _ h]
  rfl
theorem FBox.set0 {w : World} {b : Nat} {f : Fld} (h : FBox w b f) (q : Nat) (hq : q ≠ b) (x : Value) : FBox (w.setCell ⟨q, 0, none⟩ x) b f := by
  exact h.same (heap_setCell_other _ _ _ _ (Ne.symm hq))

end Go.Proofs.YtingpmgpjmlioaaGreatDoor

namespace Go.Proofs.YtingpmgpjmlioaaGreatDoor
open Go.RowKit Go.Maps
set_option linter.unusedVariables false

def rawE (v : Value) : Option (DataW Value × List MemPlace) := some (.held v, [])
theorem ownsMap_frame {H : Type} {P : Program} {k : TypeId} {R : Value → Option (DataW H × List MemPlace)} {w w' : World} {b n : Nat} {D : DataW H} (h : w.ownsMap P k R b n D) (hk : w'.heap[b]? = w.heap[b]?) : w'.ownsMap P k R b n D := by
  obtain ⟨es, clock, hb, r⟩ := h
  exact ⟨es, clock, hk.trans hb, r⟩
def lit (k : List UInt8) : Lit := .string k
theorem lit_inj {a b : List UInt8} (h : lit a = lit b) : a = b := by unfold lit at h; injection h
theorem lit_key {k : List UInt8} (h : k.length ≤ maxLen) : keyOf Tryz.prog 9 (sv k) = some (lit k) := by
  have hz : (⟨k.toArray⟩ : ByteArray).size ≤ maxLen := h
  exact WideMaps.keyOf_string_mk Tryz.underlying9 hz
theorem lit_is (k : List UInt8) : WideAt.IsKeyLit (lit k) := trivial
theorem keyedS : Keyed Tryz.prog 9 := string_keyed Tryz.underlying9
theorem map_ne {w : World} {m q N : Nat} {D : DataW Value} {cur : Array Value} {t : TypeId} {fr : Nat × Nat} (h : w.ownsMap Tryz.prog 9 rawE m N D) (hq : w.heap[q]? = some (.cells cur t fr)) : q ≠ m := by
  rintro rfl
  obtain ⟨es, clock, hb, _⟩ := h
  rw [hq] at hb; cases hb
theorem zeroFld (w : World) : (zeroValue 48).run Tryz.prog w = .ok (.agg (fv fld0)) w := by kernel_rfl

/-- The field of a name among fields. -/
def getF (S : List Fld) (k : List UInt8) : Option Fld := S.find? (fun f => f.name == k)

/-- The map at block m holds these fields, by their names. -/
def SnAt (w : World) (m : Nat) (S : List Fld) : Prop :=
  ∃ D : DataW Value, w.ownsMap Tryz.prog 9 rawE m S.length D ∧ (∀ k, D.atKey (lit k) (.held (.agg (fv fld0))) = .held (.agg (fv ((getF S k).getD fld0)))) ∧
    (∀ kl, Maps.has D kl = true ↔ ∃ f ∈ S, kl = lit f.name) ∧ Maps.size D = S.length

theorem SnAt.frame {w w' : World} {m : Nat} {S : List Fld} (h : SnAt w m S) (hk : w'.heap[m]? = w.heap[m]?) : SnAt w' m S := by
  obtain ⟨D, h1, h2⟩ := h
  exact ⟨D, ownsMap_frame h1 hk, h2⟩
theorem SnAt.lt {w : World} {m : Nat} {S : List Fld} (h : SnAt w m S) : m < w.heap.size := by
  obtain ⟨D, h1, h2⟩ := h
  exact h1.lt
theorem SnAt.ne {w : World} {m q : Nat} {S : List Fld} (h : SnAt w m S) {cur : Array Value} {t : TypeId} {fr : Nat × Nat} (hq : w.heap[q]? = some (.cells cur t fr)) : q ≠ m := by
  obtain ⟨D, h1, h2⟩ := h
  exact map_ne h1 hq
theorem SnAt.made (w : World) : SnAt (w.alloc (.map #[] 0)) w.heap.size [] :=
  ⟨.map [], World.ownsMap_made w Tryz.prog 9 rawE, fun k => rfl, fun kl => by simp [Maps.has], rfl⟩
/-- What a further part comes to. -/
def readStep (S : List Fld) (p : List UInt8) : Except Int (List Fld) :=
  if S.length = 16 then .error 120 else match readP p with
    | .error e => .error e
    | .ok f => if S.any (fun g => g.name == f.name) then .error 124 else .ok (S ++ [f])
def errS : Except Int (List Fld) → Int
  | .error n => n
  | .ok _ => 0
def restS (S : List Fld) : Except Int (List Fld) → List Fld
  | .error _ => S
  | .ok S' => S'
end Go.Proofs.YtingpmgpjmlioaaGreatDoor

namespace Go.Proofs.YtingpmgpjmlioaaGreatDoor
open Go.RowKit Go.Maps
set_option linter.unusedVariables false

theorem readP_name {p : List UInt8} {f : Fld} (h : readP p = .ok f) : nameB f.name = true := by
  unfold readP at h
  split at h
  · cases h
  · split at h
    · rename_i hn
      unfold namedF at h
      split at h
      · cases h
      · cases h; exact hn
    · cases h

theorem readP_err {p : List UInt8} {e : Int} (h : readP p = .error e) : e ≠ 0 := by
  unfold readP at h
  split at h
  · cases h; decide
  · split at h
    · unfold namedF at h
      split at h
      · cases h; decide
      · cases h
    · cases h; decide

end Go.Proofs.YtingpmgpjmlioaaGreatDoor

namespace Go.Proofs.YtingpmgpjmlioaaGreatDoor
open Go.RowKit Go.Maps
set_option linter.unusedVariables false

/-- A text cut at each byte c. -/
def splitA (c : UInt8) : List UInt8 → List (List UInt8)
  | [] => [[]]
  | d :: r => if d = c then [] :: splitA c r else match splitA c r with
    | p :: ps => (d :: p) :: ps
    | [] => [[d]]
theorem splitA_cut (c : UInt8) (s : List UInt8) : splitA c s = (cutA c s).1 :: (match (cutA c s).2 with | none => [] | some r => splitA c r) := by
  induction s with
  | nil => rfl
  | cons d r ih =>
    by_cases h : d = c
    · rw [splitA, cutA, if_pos h, if_pos h]
    · rw [splitA, cutA, if_neg h, if_neg h, ih]

/-- Parts gone through from the left. -/
def foldParts (S : List Fld) : List (List UInt8) → Except Int (List Fld)
  | [] => .ok S
  | p :: ps => match readStep S p with
    | .error e => .error e
    | .ok S' => foldParts S' ps
/-- What Read gathers. -/
def readAll (t : List UInt8) : Except Int (List Fld) := if t = [] then .ok [] else foldParts [] (splitA 38 t)

theorem cutA_lt {c : UInt8} {s p r : List UInt8} (h : cutA c s = (p, some r)) : r.length < s.length := by
  rcases cutA_index c s with ⟨_, h2⟩ | ⟨i, _, h2, h3⟩
  · rw [h2] at h; cases h
  · rw [h3] at h; cases h; simp; omega

theorem readStep_err {S : List Fld} {p : List UInt8} {e : Int} (h : readStep S p = .error e) : e ≠ 0 := by
  unfold readStep at h
  split at h
  · cases h; decide
  · split at h
    · rename_i e' he; cases h; exact readP_err he
    · split at h
      · cases h; decide
      · cases h
theorem readStep_len {S S' : List Fld} {p : List UInt8} (h : readStep S p = .ok S') (hl : S.length ≤ 16) : S'.length ≤ 16 := by
  unfold readStep at h
  split at h
  · cases h
  · split at h
    · cases h
    · split at h
      · cases h
      · cases h; simp; omega

def strLen : Value → Nat
  | .string s => s.size
  | _ => 0
def leftM (t : Value) : Value → Nat
  | .bool true => strLen t + 1
  | _ => 0

end Go.Proofs.YtingpmgpjmlioaaGreatDoor
