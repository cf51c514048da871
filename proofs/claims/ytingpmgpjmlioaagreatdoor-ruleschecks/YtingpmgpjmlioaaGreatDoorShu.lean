/-
  DERIVED. The walk of Unescape.
-/
import Derived.Test.YtingpmgpjmlioaaGreatDoorShe
namespace Go.Proofs.YtingpmgpjmlioaaGreatDoor
open Go.RowKit
set_option linter.unusedVariables false

theorem drop_at {s : List UInt8} {k : Nat} {d : UInt8} (h : s[k]? = some d) : s.drop k = d :: s.drop (k + 1) := by
  obtain ⟨h1, h2⟩ := List.getElem?_eq_some_iff.1 h
  rw [← h2]; exact List.drop_eq_getElem_cons h1

theorem hexV_lt {c : UInt8} {x : Nat} (h : hexV c = some x) : x < 16 := by
  unfold hexV at h
  split at h
  · rename_i hd
    have := digitB_iff.1 hd
    have := Option.some.inj h
    omega
  · split at h
    · have := Option.some.inj h; omega
    · split at h
      · have := Option.some.inj h; omega
      · cases h

theorem unesc_37 {a b : UInt8} {t : List UInt8} {d : UInt8} (hd : d.toNat = 37) : unesc (d :: a :: b :: t) = match hexV a, hexV b with
    | some x, some y => (unesc t).map (UInt8.ofNat (16 * x + y) :: ·)
    | _, _ => none := by
  rw [unesc, if_pos hd]
  all_goals (cases hexV a <;> cases hexV b <;> rfl)
theorem unesc_cut {t : List UInt8} {d : UInt8} (hd : d.toNat = 37) (ht : t.length < 2) : unesc (d :: t) = none := by
  rcases t with _ | ⟨a, _ | ⟨b, t⟩⟩
  · simp [unesc, hd]
  · simp [unesc, hd]
  · simp at ht; omega
theorem unesc_bad {t : List UInt8} {d : UInt8} (hd : d.toNat ≠ 37) (hp : plainB d = false) : unesc (d :: t) = none := by
  rcases t with _ | ⟨a, _ | ⟨b, t⟩⟩ <;> simp [unesc, hd, hp]

set_option maxRecDepth 100000 in
theorem or_facts : ∀ x : Nat, x < 16 → ∀ y : Nat, y < 16 → bits BinOp.or IntKind.u8 ((x : Int) * 16) (y : Int) = ((16 * x + y : Nat) : Int) := by decide

/-- The answer. -/
abbrev unA (r : Option (List UInt8)) : Value := .tuple #[sv (r.getD []), .bool r.isSome]

theorem plain_37 {d : UInt8} (h : d.toNat = 37) : plainB d = false := by
  cases hp : plainB d with
  | false => rfl
  | true => exact absurd h (plain_ne hp)

end Go.Proofs.YtingpmgpjmlioaaGreatDoor
