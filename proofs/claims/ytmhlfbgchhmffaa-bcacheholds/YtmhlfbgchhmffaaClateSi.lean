/-
  DERIVED. Pin, Unpin, Clean and Drop of a cache, at one instance.
-/
import Derived.Test.YtmhlfbgchhmffaaCput3Si
namespace Go.Proofs.Ytmhlfbgchhmffaa.Si
open Go.RowKit Go.Maps Go.Proofs.Ytmhlfbgchhmffaa
set_option linter.unusedVariables false

theorem Pin_none (w : World) (N c M Z : Nat) (L : List T) (k : ByteArray) (h : CAt w N c M Z L) (hk : good k) (hn : fnd L k = none) :
    Calls Try.prog 15 #[.pointer (some ⟨c, 0, none⟩), .string k] w fun e w' => e = .returned (.int .i64 71) ∧ CAt w' N c M Z L ∧ Fr N w w' := by
  have H := hide h
  clear h
  go_enter Try.func15, Try.ntmps15
  go_wp2_with fail
  refine (there_any w N c M Z L k (unhide H) hk).mono ?_
  rw [hn]
  simp only [ptr_none, Option.isSome_none, if_false, Bool.false_eq_true]
  rintro e1 w1 ⟨rfl, b1⟩
  go_wp2
  go_ret
  exact ⟨rfl, (unhide H).below b1, Fr.of_below b1⟩
set_option maxHeartbeats 1000000 in
theorem Pin_some (w : World) (N c M Z : Nat) (L1 L2 : List T) (t : T) (h : CAt w N c M Z (L1 ++ t :: L2)) (hZ : Z ≤ 1000000) :
    Calls Try.prog 15 #[.pointer (some ⟨c, 0, none⟩), .string t.k] w fun e w' => e = .returned (.int .i64 0) ∧ CAt w' N c M (Z + 1) (L1 ++ ⟨t.b, t.k, t.v, t.d, t.p + 1⟩ :: L2) ∧ Fr N w w' := by
  obtain ⟨m, l, n, D, h⟩ := h
  have hf : fnd (L1 ++ t :: L2) t.k = some t.b := fnd_mid (keys_mid h.keys).1
  have hk : good t.k := h.gk t (by simp)
  have H := hide h
  clear h
  go_enter Try.func15, Try.ntmps15
  go_wp2_with fail
  refine (there_any w N c M Z (L1 ++ t :: L2) t.k ⟨m, l, n, D, unhide H⟩ hk).mono ?_
  rw [hf]
  simp only [ptr_some, Option.isSome_some, if_true]
  rintro e1 w1 ⟨rfl, b1⟩
  have h1 : CIn w1 N c M Z m l n D (L1 ++ t :: L2) := (unhide H).grown (fun k hk _ => b1.block k hk)
  obtain ⟨_, _, _, t3, _⟩ := cell_t h1.ls.at
  have hfz := froz h1.ls.at
  have hp : t.p ≤ Z := h1.pz t (by simp)
  have hpi : (t.p : Int) ≤ 1000000 := by omega
  have u2 := up h1.ls.at 3 (.int .i64 ((t.p : Int) + 1))
  have bt : But (fun q => q = t.b) w1 (w1.setCell ⟨t.b, 3, none⟩ (.int .i64 ((t.p : Int) + 1))) := (But.refl (fun q => q = t.b) w1).set (show t.b = t.b from rfl) _
  have HC := hide (h1.turn (t' := ⟨t.b, t.k, t.v, t.d, t.p + 1⟩) rfl rfl (Nat.le_succ Z) (by simpa using hp) u2 bt)
  have B1 := hide b1
  clear h1 b1 u2 bt
  go_wp2
  go_ret
  exact ⟨rfl, ⟨m, l, n, D, (unhide HC).1⟩, (Fr.of_below (unhide B1)).trans (unhide HC).2⟩
theorem Pin_nil (w : World) (k : ByteArray) : Calls Try.prog 15 #[.pointer none, .string k] w fun e w' => e = .returned (.int .i64 1) ∧ w' = w := by
  go_enter Try.func15, Try.ntmps15
  go_wp2_with fail
  refine (there_nil w k).mono ?_
  rintro e1 w1 ⟨rfl, rfl⟩
  go_wp2
  go_ret
  exact ⟨rfl, rfl⟩

end Go.Proofs.Ytmhlfbgchhmffaa.Si
