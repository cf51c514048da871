/-
  DERIVED. The document's Same: two requests.
-/
import Derived.Test.YtankbanonbmffabGreatDoorRqL
import Derived.Deep.QuietTactic
namespace Go.Proofs.YtankbanonbmffabGreatDoor
open Go.RowKit
set_option linter.unusedVariables false

theorem same_of_hd {a b : List Hd} (hl : a.length = b.length) {k : Nat} (h : a.take k = b.take k) (hk : k < a.length) : (a.take (k + 1) = b.take (k + 1) ↔ a[k]? = b[k]?) := by
  rw [List.take_add_one, List.take_add_one, h]
  constructor
  · intro e
    have e2 := List.append_cancel_left e
    rw [List.getElem?_eq_getElem hk, List.getElem?_eq_getElem (by omega)] at e2 ⊢
    simpa using e2
  · intro e; rw [e]

theorem belowDN {B : Nat} {a b : World} (h : Below B a b) (n : Nat) : Below B a (b.drewN n) := ⟨h.os, h.tape, h.output, h.size, h.block⟩
def sameR (m p q : List UInt8) (hs : List Hd) (b : List UInt8) (cl : Bool) (m2 p2 q2 : List UInt8) (hs2 : List Hd) (b2 : List UInt8) (cl2 : Bool) : Bool :=
  hs == hs2 && m == m2 && p == p2 && q == q2 && b == b2 && cl == cl2

end Go.Proofs.YtankbanonbmffabGreatDoor
