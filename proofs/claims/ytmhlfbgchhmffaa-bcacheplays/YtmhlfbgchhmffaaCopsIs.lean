/-
  DERIVED. New, isEmpty, Len, there, loose, add and remove of a cache, at one instance.
-/
import Derived.Test.YtmhlfbgchhmffaaCfindIs
namespace Go.Proofs.Ytmhlfbgchhmffaa.Is
open Go.RowKit Go.Maps Go.Proofs.Ytmhlfbgchhmffaa
set_option linter.unusedVariables false

theorem CIn.c0 {w : World} {N c M Z m l n : Nat} {D : DataW Value} {L : List T} (h : CIn w N c M Z m l n D L) : w.cell? ⟨c, 0, none⟩ = some (.int .i64 (M : Int)) := (cell_of_row _ _ _ _ _ _ h.cb).trans rfl
theorem CIn.c1 {w : World} {N c M Z m l n : Nat} {D : DataW Value} {L : List T} (h : CIn w N c M Z m l n D L) : w.cell? ⟨c, 1, none⟩ = some (.map (some m)) := (cell_of_row _ _ _ _ _ _ h.cb).trans rfl
theorem CIn.c2 {w : World} {N c M Z m l n : Nat} {D : DataW Value} {L : List T} (h : CIn w N c M Z m l n D L) : w.cell? ⟨c, 2, none⟩ = some (.pointer (some ⟨l, 0, none⟩)) := (cell_of_row _ _ _ _ _ _ h.cb).trans rfl

theorem New_no (w : World) (M : Int) (hM : M < 1 ∨ 1024 < M) : Calls Try.prog 30 #[.int .i64 M] w fun e w' => e = .returned (.tuple #[.pointer none, .int .i64 1]) ∧ w' = w := by
  rcases hM with h | h
  · go_enter Try.func30, Try.ntmps30
    go_wp2
    go_ret2
    exact ⟨rfl, rfl⟩
  · have h1 : ¬ M < 1 := by omega
    go_enter Try.func30, Try.ntmps30
    go_wp2
    go_ret2
    exact ⟨rfl, rfl⟩
theorem New_any (w : World) (M : Nat) (h1 : 1 ≤ M) (h2 : M ≤ 1024) : Calls Try.prog 30 #[.int .i64 (M : Int)] w fun e w' => ∃ c, e = .returned (.tuple #[.pointer (some ⟨c, 0, none⟩), .int .i64 0]) ∧ w.heap.size ≤ c ∧ CAt w' w.heap.size c M 0 [] ∧ Below w.heap.size w w' := by
  have k1 : ¬ (M : Int) < 1 := by omega
  have k2 : ¬ (1024 : Int) < (M : Int) := by omega
  have mm : ∀ w : World, (Instr.makeMap 115 none).run Try.prog w = .ok (.map (some w.heap.size)) (w.alloc (.map #[] 0)) := fun w => rfl
  go_enter Try.func30, Try.ntmps30
  go_wp2
  go_ret2
  have hm := World.ownsMap_made (H := Value) w Try.prog 3 rawE
  refine ⟨w.heap.size + 2, rfl, by omega, ⟨w.heap.size, w.heap.size + 1, 0, _, ?_, ⟨?_, trivial, List.nodup_nil⟩, (hm.alloc _).alloc _, fun k => ?_, List.nodup_nil, by omega, by omega, by omega, by simp, by simp, h1, h2, Nat.le_refl _, by simp, by simp⟩, ?_⟩
  · have e := heap_alloc_new ((w.alloc (.map #[] 0)).alloc (.cells #[.pointer none, .pointer none, .int .i64 0] 119)) (.cells #[.int .i64 (M : Int), .map (some w.heap.size), .pointer (some ⟨w.heap.size + 1, 0, none⟩)] 121)
    simpa using e
  · have e := heap_alloc_new (w.alloc (.map #[] 0)) (.cells #[.pointer none, .pointer none, .int .i64 0] 119)
    exact (Below.heap_alloc _ _ (w.heap.size + 1) (by simp)).trans (by simpa [ptr, hd, lst] using e)
  · rfl
  · exact (((Below.refl w.heap.size w).alloc (Nat.le_refl _) _).alloc (by simp) _).alloc (by simp; omega) _

theorem isEmpty_any (w : World) (N c M Z : Nat) (L : List T) (h : CAt w N c M Z L) : Calls Try.prog 58 #[.pointer (some ⟨c, 0, none⟩)] w fun e w' => e = .returned (.bool (decide (L.length = 0))) ∧ w' = w := by
  obtain ⟨m, l, n, D, h⟩ := h
  have c2 := h.c2
  obtain ⟨_, _, l2⟩ := cell_l h.ls
  clear h
  go_enter Try.func58, Try.ntmps58
  go_wp2
  go_ret
  refine ⟨congrArg (fun z => Ending.returned (.bool z)) ?_, rfl⟩
  by_cases e : L.length = 0 <;> simp [e]
theorem isEmpty_nil (w : World) : Calls Try.prog 58 #[.pointer none] w fun e w' => e = .returned (.bool true) ∧ w' = w := by
  go_enter Try.func58, Try.ntmps58
  go_wp2
  go_ret
  exact ⟨rfl, rfl⟩
theorem Len_any (w : World) (N c M Z : Nat) (L : List T) (h : CAt w N c M Z L) : Calls Try.prog 33 #[.pointer (some ⟨c, 0, none⟩)] w fun e w' => e = .returned (.int .i64 (L.length : Int)) ∧ w' = w := by
  have H := hide h
  obtain ⟨m, l, n, D, h⟩ := h
  have c2 := h.c2
  obtain ⟨_, _, l2⟩ := cell_l h.ls
  clear h
  by_cases e : L.length = 0
  · have hd : decide (L.length = 0) = true := by simpa using e
    go_enter Try.func33, Try.ntmps33
    go_wp2_with fail
    refine (isEmpty_any w N c M Z L (unhide H)).mono ?_
    rintro e1 w1 ⟨rfl, rfl⟩
    go_wp2
    go_ret
    rw [e]
    exact ⟨rfl, rfl⟩
  · have hd : decide (L.length = 0) = false := by simpa using e
    go_enter Try.func33, Try.ntmps33
    go_wp2_with fail
    refine (isEmpty_any w N c M Z L (unhide H)).mono ?_
    rintro e1 w1 ⟨rfl, rfl⟩
    go_wp2
    go_ret
    exact ⟨rfl, rfl⟩
theorem Len_nil (w : World) : Calls Try.prog 33 #[.pointer none] w fun e w' => e = .returned (.int .i64 0) ∧ w' = w := by
  go_enter Try.func33, Try.ntmps33
  go_wp2_with fail
  refine (isEmpty_nil w).mono ?_
  rintro e1 w1 ⟨rfl, rfl⟩
  go_wp2
  go_ret
  exact ⟨rfl, rfl⟩

theorem there_any (w : World) (N c M Z : Nat) (L : List T) (k : Int) (h : CAt w N c M Z L) (hk : good k) : Calls Try.prog 56 #[.pointer (some ⟨c, 0, none⟩), .int .i64 k] w fun e w' =>
    e = .returned (.tuple #[ptr (fnd L k), .int .i64 (if (fnd L k).isSome then 0 else 71)]) ∧ Below w.heap.size w w' := by
  have H := hide h
  clear h
  cases e : fnd L k with
  | none =>
    go_enter Try.func56, Try.ntmps56
    go_wp2_with fail
    refine (find_any w N c M Z L k (unhide H) hk).mono ?_
    rw [e]
    rintro e1 w1 ⟨rfl, b1⟩
    unfold ptr
    go_wp2
    go_ret2
    exact ⟨rfl, b1⟩
  | some b =>
    go_enter Try.func56, Try.ntmps56
    go_wp2_with fail
    refine (find_any w N c M Z L k (unhide H) hk).mono ?_
    rw [e]
    rintro e1 w1 ⟨rfl, b1⟩
    unfold ptr
    go_wp2
    go_ret2
    exact ⟨rfl, b1⟩
theorem there_nil (w : World) (k : Int) : Calls Try.prog 56 #[.pointer none, .int .i64 k] w fun e w' => e = .returned (.tuple #[.pointer none, .int .i64 1]) ∧ w' = w := by
  go_enter Try.func56, Try.ntmps56
  go_wp2
  go_ret2
  exact ⟨rfl, rfl⟩

theorem loose1_any (w : World) (t : T) (p n : Option Nat) (h : w.heap[t.b]? = some (.cells (tcells kv vv t p n) 125 (0, 0))) : Calls Try.prog 98 #[.pointer (some ⟨t.b, 0, none⟩)] w fun e w' => e = .returned (.bool (decide (t.p = 0))) ∧ w' = w := by
  obtain ⟨_, _, _, c3, _, _⟩ := cell_t h
  clear h
  go_enter Try.func98, Try.ntmps98
  go_wp2
  go_ret
  refine ⟨congrArg (fun z => Ending.returned (.bool z)) ?_, rfl⟩
  by_cases e : t.p = 0 <;> simp [e]

/-- The first that is not pinned. -/
def loo (L : List T) : Option Nat := (L.find? (fun t => decide (t.p = 0))).map (·.b)
theorem loo_none {L : List T} : loo L = none ↔ ∀ t ∈ L, t.p ≠ 0 := by
  unfold loo
  rw [Option.map_eq_none_iff, List.find?_eq_none]
  simp
theorem loo_some {L : List T} {b : Nat} (h : loo L = some b) : ∃ L1 t L2, L = L1 ++ t :: L2 ∧ t.p = 0 ∧ t.b = b ∧ ∀ x ∈ L1, x.p ≠ 0 := by
  unfold loo at h
  rw [Option.map_eq_some_iff] at h
  obtain ⟨t, h1, h2⟩ := h
  rw [List.find?_eq_some_iff_append] at h1
  obtain ⟨h1, A, B, h3, h4⟩ := h1
  exact ⟨A, t, B, h3, by simpa using h1, h2, fun x hx => by simpa using h4 x hx⟩
theorem loo_cons_pos {t : T} {L : List T} (h : t.p = 0) : loo (t :: L) = some t.b := by simp [loo, h]
theorem loo_cons_neg {t : T} {L : List T} (h : t.p ≠ 0) : loo (t :: L) = loo L := by simp [loo, h]

def blkOf : Value → Option Nat
  | .pointer (some a) => some a.block
  | _ => none
/-- How many things are left from a block on. -/
def restL : List T → Option Nat → Nat
  | [], _ => 0
  | t :: r, o => if o = some t.b then r.length + 1 else restL r o
theorem restL_none : ∀ L : List T, restL L none = 0
  | [] => rfl
  | t :: r => by rw [restL, if_neg (by simp), restL_none r]
theorem restL_mid : ∀ {L1 L2 : List T} {t : T}, (∀ x ∈ L1, x.b ≠ t.b) → restL (L1 ++ t :: L2) (some t.b) = L2.length + 1
  | [], L2, t, _ => by simp [restL]
  | x :: L1, L2, t, h => by
    rw [List.cons_append, restL, if_neg (by simpa using fun e => h x (by simp) e.symm), restL_mid (fun y hy => h y (by simp [hy]))]
theorem restL_next {L1 L2 : List T} {t : T} (h : ((L1 ++ t :: L2).map (·.b)).Nodup) : restL (L1 ++ t :: L2) (hd L2 none) < restL (L1 ++ t :: L2) (some t.b) := by
  rw [restL_mid (nd_mid h).1]
  cases L2 with
  | nil => rw [hd, restL_none]; omega
  | cons y r =>
    have e : L1 ++ t :: y :: r = (L1 ++ [t]) ++ y :: r := by simp
    rw [hd, e, restL_mid (by rw [e] at h; exact (nd_mid h).1)]
    simp

set_option maxHeartbeats 1000000 in
theorem first_any (w : World) (l : Nat) (L : List T) (h : LsAt w l L) : Calls Try.prog 97 #[.pointer (some ⟨l, 0, none⟩), .func (.func 98) #[] #[]] w fun e w' => e = .returned (ptr (loo L)) ∧ w' = w := by
  obtain ⟨c0, _, _⟩ := cell_l h
  have HS := hide h
  clear h
  go_enter Try.func97, Try.ntmps97
  go_wp2
  go_loop [5] (fun q => ∃ (L1 L2 : List T), Hid (L = L1 ++ L2) ∧ q = ptr (hd L2 none) ∧ Hid (loo L = loo L2)) (fun q => restL L (blkOf q))
  case atStart => exact ⟨[], L, hide rfl, rfl, hide rfl⟩
  case round =>
    obtain ⟨L1, L2, HE, rfl, HL⟩ := hrel
    cases L2 with
    | nil =>
      simp only [hd_nil, ptr_none]
      go_wp2
      go_ret
      rw [unhide HL]
      exact ⟨rfl, rfl⟩
    | cons t r =>
      have hb : w.heap[t.b]? = some (.cells (tcells kv vv t (lst none L1) (hd r none)) 125 (0, 0)) := by
        have h1 := unhide HS
        rw [unhide HE] at h1
        exact h1.at
      obtain ⟨_, _, _, _, _, c5⟩ := cell_t hb
      have HB := hide hb
      clear hb
      simp only [hd_cons, ptr_some]
      by_cases hp : t.p = 0
      · have hd1 : decide (t.p = 0) = true := by simpa using hp
        go_wp2_with fail
        refine (loose1_any w t _ _ (unhide HB)).mono ?_
        rintro e w1 ⟨rfl, rfl⟩
        go_wp2
        go_ret
        rw [unhide HL, loo_cons_pos hp]
        exact ⟨rfl, rfl⟩
      · have hd1 : decide (t.p = 0) = false := by simpa using hp
        go_wp2_with fail
        refine (loose1_any w t _ _ (unhide HB)).mono ?_
        rintro e w1 ⟨rfl, rfl⟩
        go_wp2
        go_round
        case rel => exact ⟨L1 ++ [t], r, hide (by rw [unhide HE]; simp), rfl, hide ((unhide HL).trans (loo_cons_neg hp))⟩
        case measure =>
          have h1 := unhide HS
          have h2 := h1.nd
          rw [unhide HE] at h2 ⊢
          have := restL_next h2
          cases r with
          | nil => exact this
          | cons y r => exact this
end Go.Proofs.Ytmhlfbgchhmffaa.Is
