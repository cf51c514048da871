/-
  DERIVED. Pin, Unpin, Clean and Drop of a cache, at one instance.
-/
import Derived.Test.YtmhlfbgchhmffaaCput3Ii
namespace Go.Proofs.Ytmhlfbgchhmffaa.Ii
open Go.RowKit Go.Maps Go.Proofs.Ytmhlfbgchhmffaa
set_option linter.unusedVariables false

theorem Pin_none (w : World) (N c M Z : Nat) (L : List T) (k : Int) (h : CAt w N c M Z L) (hk : good k) (hn : fnd L k = none) :
    Calls Try.prog 23 #[.pointer (some ⟨c, 0, none⟩), .int .i64 k] w fun e w' => e = .returned (.int .i64 71) ∧ CAt w' N c M Z L ∧ Fr N w w' := by
  have H := hide h
  clear h
  go_enter Try.func23, Try.ntmps23
  go_wp2_with fail
  refine (there_any w N c M Z L k (unhide H) hk).mono ?_
  rw [hn]
  simp only [ptr_none, Option.isSome_none, if_false, Bool.false_eq_true]
  rintro e1 w1 ⟨rfl, b1⟩
  go_wp2
  go_ret
  exact ⟨rfl, (unhide H).below b1, Fr.of_below b1⟩
set_option maxHeartbeats 1000000 in
theorem Pin_some (w : World) (N c M Z : Nat) (L1 L2 : List T) (t : T) (h : CAt w N c M Z (L1 ++ t :: L2)) (hZ : Z ≤ 1000000) :
    Calls Try.prog 23 #[.pointer (some ⟨c, 0, none⟩), .int .i64 t.k] w fun e w' => e = .returned (.int .i64 0) ∧ CAt w' N c M (Z + 1) (L1 ++ ⟨t.b, t.k, t.v, t.d, t.p + 1⟩ :: L2) ∧ Fr N w w' := by
  obtain ⟨m, l, n, D, h⟩ := h
  have hf : fnd (L1 ++ t :: L2) t.k = some t.b := fnd_mid (keys_mid h.keys).1
  have hk : good t.k := h.gk t (by simp)
  have H := hide h
  clear h
  go_enter Try.func23, Try.ntmps23
  go_wp2_with fail
  refine (there_any w N c M Z (L1 ++ t :: L2) t.k ⟨m, l, n, D, unhide H⟩ hk).mono ?_
  rw [hf]
  simp only [ptr_some, Option.isSome_some, if_true]
  rintro e1 w1 ⟨rfl, b1⟩
  have h1 : CIn w1 N c M Z m l n D (L1 ++ t :: L2) := (unhide H).grown (fun k hk _ => b1.block k hk)
  obtain ⟨_, _, _, t3, _⟩ := cell_t h1.ls.at
  have hfz := froz h1.ls.at
  have hp : t.p ≤ Z := h1.pz t (by simp)
  have hpi : (t.p : Int) ≤ 1000000 := by omega
  have u2 := up h1.ls.at 3 (.int .i64 ((t.p : Int) + 1))
  have bt : But (fun q => q = t.b) w1 (w1.setCell ⟨t.b, 3, none⟩ (.int .i64 ((t.p : Int) + 1))) := (But.refl (fun q => q = t.b) w1).set (show t.b = t.b from rfl) _
  have HC := hide (h1.turn (t' := ⟨t.b, t.k, t.v, t.d, t.p + 1⟩) rfl rfl (Nat.le_succ Z) (by simpa using hp) u2 bt)
  have B1 := hide b1
  clear h1 b1 u2 bt
  go_wp2
  go_ret
  exact ⟨rfl, ⟨m, l, n, D, (unhide HC).1⟩, (Fr.of_below (unhide B1)).trans (unhide HC).2⟩
theorem Pin_nil (w : World) (k : Int) : Calls Try.prog 23 #[.pointer none, .int .i64 k] w fun e w' => e = .returned (.int .i64 1) ∧ w' = w := by
  go_enter Try.func23, Try.ntmps23
  go_wp2_with fail
  refine (there_nil w k).mono ?_
  rintro e1 w1 ⟨rfl, rfl⟩
  go_wp2
  go_ret
  exact ⟨rfl, rfl⟩

theorem Unpin_none (w : World) (N c M Z : Nat) (L : List T) (k : Int) (h : CAt w N c M Z L) (hk : good k) (hn : fnd L k = none) :
    Calls Try.prog 24 #[.pointer (some ⟨c, 0, none⟩), .int .i64 k] w fun e w' => e = .returned (.int .i64 71) ∧ CAt w' N c M Z L ∧ Fr N w w' := by
  have H := hide h
  clear h
  go_enter Try.func24, Try.ntmps24
  go_wp2_with fail
  refine (there_any w N c M Z L k (unhide H) hk).mono ?_
  rw [hn]
  simp only [ptr_none, Option.isSome_none, if_false, Bool.false_eq_true]
  rintro e1 w1 ⟨rfl, b1⟩
  go_wp2
  go_ret
  exact ⟨rfl, (unhide H).below b1, Fr.of_below b1⟩
theorem Unpin_zero (w : World) (N c M Z : Nat) (L1 L2 : List T) (t : T) (h : CAt w N c M Z (L1 ++ t :: L2)) (hp : t.p = 0) :
    Calls Try.prog 24 #[.pointer (some ⟨c, 0, none⟩), .int .i64 t.k] w fun e w' => e = .returned (.int .i64 72) ∧ CAt w' N c M Z (L1 ++ t :: L2) ∧ Fr N w w' := by
  obtain ⟨m, l, n, D, h⟩ := h
  have hf : fnd (L1 ++ t :: L2) t.k = some t.b := fnd_mid (keys_mid h.keys).1
  have hk : good t.k := h.gk t (by simp)
  have H := hide h
  clear h
  go_enter Try.func24, Try.ntmps24
  go_wp2_with fail
  refine (there_any w N c M Z (L1 ++ t :: L2) t.k ⟨m, l, n, D, unhide H⟩ hk).mono ?_
  rw [hf]
  simp only [ptr_some, Option.isSome_some, if_true]
  rintro e1 w1 ⟨rfl, b1⟩
  have h1 : CIn w1 N c M Z m l n D (L1 ++ t :: L2) := (unhide H).grown (fun k hk _ => b1.block k hk)
  obtain ⟨_, _, _, t3, _⟩ := cell_t h1.ls.at
  rw [hp] at t3
  have H1 := hide h1
  clear h1
  go_wp2
  go_ret
  exact ⟨rfl, ⟨m, l, n, D, unhide H1⟩, Fr.of_below b1⟩
set_option maxHeartbeats 1000000 in
theorem Unpin_some (w : World) (N c M Z : Nat) (L1 L2 : List T) (t : T) (h : CAt w N c M Z (L1 ++ t :: L2)) (hp0 : t.p ≠ 0) (hZ : Z ≤ 1000000) :
    Calls Try.prog 24 #[.pointer (some ⟨c, 0, none⟩), .int .i64 t.k] w fun e w' => e = .returned (.int .i64 0) ∧ CAt w' N c M Z (L1 ++ ⟨t.b, t.k, t.v, t.d, t.p - 1⟩ :: L2) ∧ Fr N w w' := by
  obtain ⟨m, l, n, D, h⟩ := h
  have hf : fnd (L1 ++ t :: L2) t.k = some t.b := fnd_mid (keys_mid h.keys).1
  have hk : good t.k := h.gk t (by simp)
  have H := hide h
  obtain ⟨q, hq⟩ : ∃ q, t.p = q + 1 := ⟨t.p - 1, by omega⟩
  have e1 : t.p - 1 = q := by omega
  rw [e1]
  clear h e1
  go_enter Try.func24, Try.ntmps24
  go_wp2_with fail
  refine (there_any w N c M Z (L1 ++ t :: L2) t.k ⟨m, l, n, D, unhide H⟩ hk).mono ?_
  rw [hf]
  simp only [ptr_some, Option.isSome_some, if_true]
  rintro e1 w1 ⟨rfl, b1⟩
  have h1 : CIn w1 N c M Z m l n D (L1 ++ t :: L2) := (unhide H).grown (fun k hk _ => b1.block k hk)
  obtain ⟨_, _, _, t3, _⟩ := cell_t h1.ls.at
  have hfz := froz h1.ls.at
  have hp : t.p ≤ Z := h1.pz t (by simp)
  have e0 : ((q + 1 : Nat) : Int) = (q : Int) + 1 := by omega
  rw [hq, e0] at t3
  have hz : ((q : Int) + 1 == 0) = false := by simp; omega
  have hz1 : ¬ ((q : Int) + 1 = 0) := by omega
  have hpi : (q : Int) + 1 ≤ 1000000 := by omega
  have u2 := up h1.ls.at 3 (.int .i64 (q : Int))
  have bt : But (fun x => x = t.b) w1 (w1.setCell ⟨t.b, 3, none⟩ (.int .i64 (q : Int))) := (But.refl (fun x => x = t.b) w1).set (show t.b = t.b from rfl) _
  have HC := hide (h1.turn (t' := ⟨t.b, t.k, t.v, t.d, q⟩) rfl rfl (Nat.le_refl Z) (by simp; omega) u2 bt)
  have B1 := hide b1
  clear h1 b1 u2 bt hq e0 hp hp0
  go_wp2
  go_ret
  exact ⟨rfl, ⟨m, l, n, D, (unhide HC).1⟩, (Fr.of_below (unhide B1)).trans (unhide HC).2⟩
theorem Unpin_nil (w : World) (k : Int) : Calls Try.prog 24 #[.pointer none, .int .i64 k] w fun e w' => e = .returned (.int .i64 1) ∧ w' = w := by
  go_enter Try.func24, Try.ntmps24
  go_wp2_with fail
  refine (there_nil w k).mono ?_
  rintro e1 w1 ⟨rfl, rfl⟩
  go_wp2
  go_ret
  exact ⟨rfl, rfl⟩

theorem Clean_none (w : World) (N c M Z : Nat) (L : List T) (k : Int) (h : CAt w N c M Z L) (hk : good k) (hn : fnd L k = none) :
    Calls Try.prog 25 #[.pointer (some ⟨c, 0, none⟩), .int .i64 k] w fun e w' => e = .returned (.int .i64 71) ∧ CAt w' N c M Z L ∧ Fr N w w' := by
  have H := hide h
  clear h
  go_enter Try.func25, Try.ntmps25
  go_wp2_with fail
  refine (there_any w N c M Z L k (unhide H) hk).mono ?_
  rw [hn]
  simp only [ptr_none, Option.isSome_none, if_false, Bool.false_eq_true]
  rintro e1 w1 ⟨rfl, b1⟩
  go_wp2
  go_ret
  exact ⟨rfl, (unhide H).below b1, Fr.of_below b1⟩
theorem Clean_some (w : World) (N c M Z : Nat) (L1 L2 : List T) (t : T) (h : CAt w N c M Z (L1 ++ t :: L2)) :
    Calls Try.prog 25 #[.pointer (some ⟨c, 0, none⟩), .int .i64 t.k] w fun e w' => e = .returned (.int .i64 0) ∧ CAt w' N c M Z (L1 ++ ⟨t.b, t.k, t.v, false, t.p⟩ :: L2) ∧ Fr N w w' := by
  obtain ⟨m, l, n, D, h⟩ := h
  have hf : fnd (L1 ++ t :: L2) t.k = some t.b := fnd_mid (keys_mid h.keys).1
  have hk : good t.k := h.gk t (by simp)
  have H := hide h
  clear h
  go_enter Try.func25, Try.ntmps25
  go_wp2_with fail
  refine (there_any w N c M Z (L1 ++ t :: L2) t.k ⟨m, l, n, D, unhide H⟩ hk).mono ?_
  rw [hf]
  simp only [ptr_some, Option.isSome_some, if_true]
  rintro e1 w1 ⟨rfl, b1⟩
  have h1 : CIn w1 N c M Z m l n D (L1 ++ t :: L2) := (unhide H).grown (fun k hk _ => b1.block k hk)
  obtain ⟨_, _, t2, _⟩ := cell_t h1.ls.at
  have hfz := froz h1.ls.at
  have u2 := up h1.ls.at 2 (.bool false)
  have bt : But (fun x => x = t.b) w1 (w1.setCell ⟨t.b, 2, none⟩ (.bool false)) := (But.refl (fun x => x = t.b) w1).set (show t.b = t.b from rfl) _
  have HC := hide (h1.turn (t' := ⟨t.b, t.k, t.v, false, t.p⟩) rfl rfl (Nat.le_refl Z) (h1.pz t (by simp)) u2 bt)
  have B1 := hide b1
  clear h1 b1 u2 bt
  go_wp2
  go_ret
  exact ⟨rfl, ⟨m, l, n, D, (unhide HC).1⟩, (Fr.of_below (unhide B1)).trans (unhide HC).2⟩
theorem Clean_nil (w : World) (k : Int) : Calls Try.prog 25 #[.pointer none, .int .i64 k] w fun e w' => e = .returned (.int .i64 1) ∧ w' = w := by
  go_enter Try.func25, Try.ntmps25
  go_wp2_with fail
  refine (there_nil w k).mono ?_
  rintro e1 w1 ⟨rfl, rfl⟩
  go_wp2
  go_ret
  exact ⟨rfl, rfl⟩

theorem Drop_none (w : World) (N c M Z : Nat) (L : List T) (k : Int) (h : CAt w N c M Z L) (hk : good k) (hn : fnd L k = none) :
    Calls Try.prog 26 #[.pointer (some ⟨c, 0, none⟩), .int .i64 k] w fun e w' => e = .returned (.int .i64 71) ∧ CAt w' N c M Z L ∧ Fr N w w' := by
  have H := hide h
  clear h
  go_enter Try.func26, Try.ntmps26
  go_wp2_with fail
  refine (there_any w N c M Z L k (unhide H) hk).mono ?_
  rw [hn]
  simp only [ptr_none, Option.isSome_none, if_false, Bool.false_eq_true]
  rintro e1 w1 ⟨rfl, b1⟩
  go_wp2
  go_ret
  exact ⟨rfl, (unhide H).below b1, Fr.of_below b1⟩
theorem Drop_pin (w : World) (N c M Z : Nat) (L1 L2 : List T) (t : T) (h : CAt w N c M Z (L1 ++ t :: L2)) (hp : t.p ≠ 0) :
    Calls Try.prog 26 #[.pointer (some ⟨c, 0, none⟩), .int .i64 t.k] w fun e w' => e = .returned (.int .i64 72) ∧ CAt w' N c M Z (L1 ++ t :: L2) ∧ Fr N w w' := by
  obtain ⟨m, l, n, D, h⟩ := h
  have hf : fnd (L1 ++ t :: L2) t.k = some t.b := fnd_mid (keys_mid h.keys).1
  have hk : good t.k := h.gk t (by simp)
  have hp1 : (0 : Int) < (t.p : Int) := by omega
  have H := hide h
  clear h
  go_enter Try.func26, Try.ntmps26
  go_wp2_with fail
  refine (there_any w N c M Z (L1 ++ t :: L2) t.k ⟨m, l, n, D, unhide H⟩ hk).mono ?_
  rw [hf]
  simp only [ptr_some, Option.isSome_some, if_true]
  rintro e1 w1 ⟨rfl, b1⟩
  have h1 : CIn w1 N c M Z m l n D (L1 ++ t :: L2) := (unhide H).grown (fun k hk _ => b1.block k hk)
  obtain ⟨_, _, _, t3, _⟩ := cell_t h1.ls.at
  have H1 := hide h1
  clear h1
  go_wp2
  go_ret
  exact ⟨rfl, ⟨m, l, n, D, unhide H1⟩, Fr.of_below b1⟩
set_option maxHeartbeats 1000000 in
theorem Drop_some (w : World) (N c M Z : Nat) (L1 L2 : List T) (t : T) (h : CAt w N c M Z (L1 ++ t :: L2)) (hp : t.p = 0) :
    Calls Try.prog 26 #[.pointer (some ⟨c, 0, none⟩), .int .i64 t.k] w fun e w' => e = .returned (.int .i64 0) ∧ CAt w' N c M Z (L1 ++ L2) ∧ Fr N w w' := by
  obtain ⟨m, l, n, D, h⟩ := h
  have hf : fnd (L1 ++ t :: L2) t.k = some t.b := fnd_mid (keys_mid h.keys).1
  have hk : good t.k := h.gk t (by simp)
  have H := hide h
  clear h
  go_enter Try.func26, Try.ntmps26
  go_wp2_with fail
  refine (there_any w N c M Z (L1 ++ t :: L2) t.k ⟨m, l, n, D, unhide H⟩ hk).mono ?_
  rw [hf]
  simp only [ptr_some, Option.isSome_some, if_true]
  rintro e1 w1 ⟨rfl, b1⟩
  have h1 : CIn w1 N c M Z m l n D (L1 ++ t :: L2) := (unhide H).grown (fun k hk _ => b1.block k hk)
  obtain ⟨_, _, _, t3, _⟩ := cell_t h1.ls.at
  rw [hp] at t3
  have H1 : Hid (CAt w1 N c M Z (L1 ++ t :: L2)) := hide ⟨m, l, n, D, h1⟩
  have B1 := hide b1
  clear h1 b1
  go_wp2_with fail
  refine (crem_any w1 N c M Z L1 L2 t (unhide H1)).mono ?_
  rintro e1 w2 ⟨rfl, a1, _, a3⟩
  have H2 := hide a1
  have F2 := hide ((Fr.of_below (unhide B1)).trans a3)
  clear a1 a3
  go_wp2
  go_ret
  exact ⟨rfl, unhide H2, unhide F2⟩
theorem Drop_nil (w : World) (k : Int) : Calls Try.prog 26 #[.pointer none, .int .i64 k] w fun e w' => e = .returned (.int .i64 1) ∧ w' = w := by
  go_enter Try.func26, Try.ntmps26
  go_wp2_with fail
  refine (there_nil w k).mono ?_
  rintro e1 w1 ⟨rfl, rfl⟩
  go_wp2
  go_ret
  exact ⟨rfl, rfl⟩
end Go.Proofs.Ytmhlfbgchhmffaa.Ii
