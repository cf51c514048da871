/-
  DERIVED. Extend.
-/
import Derived.Test.YtikoegmpbjeadaaIjoin
namespace Go.Proofs.Ytikoegmpbjeadaa
open Go.RowKit
set_option linter.unusedVariables false

theorem NdAt.drewN {w : World} {b n : Nat} {v : Value} {L : List Nat} (h : NdAt w b n v L) (k : Nat) : NdAt (w.drewN k) b n v L := h.grown (grown_drewN' (World.grownBy.refl _ _) k)
/-- A node that is laid anew. -/
theorem NdAt.turned {w : World} {b n m base : Nat} {v u : Value} {L M : List Nat} (h : NdAt w b n v L) (hu : ROwn w base u (canon M)) (hm : m ≤ 32768) (hl : M.length = bf m) (hlow : low M) (x : Int) (hx : x = (m : Int)) :
    NdAt ((w.setCell ⟨b, 0, none⟩ (.int .i64 x)).setCell ⟨b, 1, none⟩ u) b m u M ∧ ROwn ((w.setCell ⟨b, 0, none⟩ (.int .i64 x)).setCell ⟨b, 1, none⟩ u) base u (canon M) ∧ w.grownBy ((w.setCell ⟨b, 0, none⟩ (.int .i64 x)).setCell ⟨b, 1, none⟩ u) (some b) := by
  subst hx
  have hg : w.grownBy ((w.setCell ⟨b, 0, none⟩ (.int .i64 (m : Int))).setCell ⟨b, 1, none⟩ u) (some b) := (setCell_grown w b 0 _).trans (setCell_grown _ b 1 _)
  have h1 := heap_setCell_same w b 0 _ _ (.int .i64 (m : Int)) h.blk
  have h2 := heap_setCell_same _ b 1 _ _ u h1
  have ho := hu.far h hg
  exact ⟨⟨h2, ho.mono (Nat.zero_le _), hm, hl, hlow⟩, ho, hg⟩
theorem okL_of (Y : List (Nat × Nat)) (hY : ∀ y ∈ Y, 0 < y.2 ∧ y.1 + y.2 ≤ 512) (k : Nat) (ht : tot Y = k) : okL (Y.map toI) (k : Int) := by
  refine ⟨fun x hx => ?_, ?_⟩
  · obtain ⟨y, hy, rfl⟩ := List.mem_map.1 hx
    have := hY y hy
    simp only [okR, toI]
    omega
  · subst ht
    clear hY
    induction Y with
    | nil => rfl
    | cons y Y ih =>
      rw [tot_cons, List.map_cons]
      have e : sumL (toI y :: Y.map toI) = (y.2 : Int) + sumL (Y.map toI) := by simp [sumL, toI]
      rw [e, ih]
      omega
theorem of_okL {l : List (Int × Int)} {k : Nat} (h : okL l (k : Int)) : ∃ Y : List (Nat × Nat), l = Y.map toI ∧ (∀ y ∈ Y, 0 < y.2 ∧ y.1 + y.2 ≤ 512) ∧ tot Y = k := by
  refine ⟨l.map fun x => (x.1.toNat, x.2.toNat), ?_, ?_, ?_⟩
  · rw [List.map_map]
    conv => lhs; rw [← List.map_id l]
    refine List.map_congr_left fun x hx => ?_
    have := h.1 x hx
    unfold okR at this
    simp only [Function.comp, toI, id]
    rw [Int.toNat_of_nonneg (by omega), Int.toNat_of_nonneg (by omega)]
  · intro y hy
    obtain ⟨x, hx, rfl⟩ := List.mem_map.1 hy
    have := h.1 x hx
    unfold okR at this
    simp only
    omega
  · have h1 := h.1
    have h2 := h.2
    have : ∀ l : List (Int × Int), (∀ x ∈ l, okR x) → (tot (l.map fun x => (x.1.toNat, x.2.toNat)) : Int) = sumL l := by
      intro l
      induction l with
      | nil => intro _; rfl
      | cons x l ih =>
        intro hx
        have h3 := ih fun y hy => hx y (List.mem_cons_of_mem _ hy)
        have h4 := hx x (List.mem_cons_self ..)
        unfold okR at h4
        have e : sumL (x :: l) = x.2 + sumL l := by simp [sumL]
        rw [List.map_cons, tot_cons, e, ← h3]
        simp only
        omega
    have := this l h1
    omega
theorem len_tot {Y : List (Nat × Nat)} (h : ∀ y ∈ Y, 0 < y.2 ∧ y.1 + y.2 ≤ 512) : Y.length ≤ tot Y := by
  induction Y with
  | nil => simp
  | cons x X ih =>
    have h1 := ih fun y hy => h y (List.mem_cons_of_mem _ hy)
    have h2 := h x (List.mem_cons_self ..)
    rw [tot_cons, List.length_cons]
    omega

set_option maxRecDepth 20000 in
set_option maxHeartbeats 2000000 in
theorem Extend_ok (w : World) (b n m : Nat) (v u : Value) (L : List Nat) (Y : List (Nat × Nat)) (h : NdAt w b n v L) (hm : n + m ≤ 32768) (hu : Rn w u (Y.map toI)) (hY : ∀ y ∈ Y, 0 < y.2 ∧ y.1 + y.2 ≤ 512) (ht : tot Y = bf (n + m) - bf n) :
    Calls Try.prog 19 #[.pointer (some ⟨b, 0, none⟩), .int .i64 (m : Int), u] w fun e w' => e = .returned (.int .i64 0) ∧ ∃ v', NdAt w' b (n + m) v' (L ++ bks Y) ∧ ROwn w' w.heap.size v' (canon (L ++ bks Y)) ∧ w.grownBy w' (some b) := by
  have HM := hide h
  have HU := hide hu
  have HOK : Hid (decide (okL (Y.map toI) ((bf (n + m) - bf n : Nat) : Int)) = true) := hide (decide_eq_true (okL_of Y hY _ ht))
  have hbl := bf_le hm
  have hylen : Y.length ≤ 64 := by have := len_tot hY; omega
  have hni : (n : Int) + (m : Int) ≤ 32768 := by omega
  have HL : Hid ((L ++ bks Y).length = bf (n + m)) := hide (by
    rw [List.length_append, h.len]
    have : bf n ≤ bf (n + m) := by unfold bf; omega
    have h2 : (bks Y).length = bf (n + m) - bf n := ht
    omega)
  have HLw : Hid (low (L ++ bks Y)) := hide (low_append h.lw (low_bks fun y hy => (hY y hy).2))
  have HJ : Hid (joinL (canon L) Y = canon (L ++ bks Y)) := hide (canon_join L Y fun y hy => (hY y hy).1).symm
  have HW : Hid (IntKind.i64.wrap ((n : Int) + (m : Int)) = (n : Int) + (m : Int)) := hide (by rw [IntKind.wrap_i64]; omega)
  obtain ⟨d, hd⟩ : ∃ d, d = bf (n + m) - bf n := ⟨_, rfl⟩
  have hd64 : d ≤ 64 := by omega
  clear h hu
  go_enter Try.func19, Try.ntmps19
  go_wp2_with fail
  refine (Need_ok w b n v L (unhide HM) m hm).mono ?_
  rintro e w1 ⟨rfl, rfl⟩
  rw [← hd] at HOK ⊢
  clear hd ht
  go_wp2_with fail
  refine (haveJust_any w1 u (Y.map toI) d (unhide HU) (by omega) (by rw [List.length_map]; omega)).mono ?_
  rintro e w2 ⟨rfl, g2⟩
  have M2 := hide ((unhide HM).grown g2)
  have U2 := hide ((unhide HU).kept g2)
  have G2 := hide g2
  have S2 := hide g2.size
  rw [unhide HOK]
  clear g2
  have c0 := (unhide M2).num
  have c1 := (unhide M2).val
  go_wp2_with fail
  go_region_with (go_at_call 39; refine (joined_any _ v u (canon L) Y ((unhide M2).drewN _).runs ((unhide U2).kept (grown_drewN' (World.grownBy.refl _ _) _)) (norm_canon L) (by rw [bks_canon]; exact (unhide M2).lw) hY (by have := (unhide M2).small; omega) (by omega)).mono ?_; rintro e w3 ⟨u3, rfl, o3, g3⟩; obtain ⟨ao3, cap3, hu3, _, _, _⟩ := o3.form; subst hu3; have M3 := hide (((unhide M2).drewN _).grown g3); have O3 := hide o3; have G3 := hide g3; have d0 := (unhide M3).num; have d1 := (unhide M3).val; have f3 := (unhide M3).frozen; clear o3 g3)
  all_goals go_wp2
  all_goals go_ret
  all_goals try rw [unhide HW]
  all_goals
    obtain ⟨t1, t2, t3⟩ := (unhide M3).turned (by rw [← unhide HJ]; exact unhide O3) hm (unhide HL) (unhide HLw) ((n : Int) + (m : Int)) (by omega)
    refine ⟨rfl, _, ⟨t1.blk, t1.runs, t1.le, t1.len, t1.lw⟩, t2.mono (unhide S2), ?_⟩
    refine World.grownBy.trans ((unhide G2).but _) ?_
    refine World.grownBy.trans (b := w3) ⟨(unhide G3).os, (unhide G3).tape, (unhide G3).output, (unhide G3).size, fun k hk _ => (unhide G3).block k hk (by simp)⟩ ⟨t3.os, t3.tape, t3.output, t3.size, t3.block⟩
theorem Extend_nil (w : World) (m : Int) (u : Value) : Calls Try.prog 19 #[.pointer none, .int .i64 m, u] w fun e w' => e = .returned (.int .i64 1) ∧ w' = w := by
  go_enter Try.func19, Try.ntmps19
  go_wp2_with fail
  refine (Need_nil w m).mono ?_
  rintro e w1 ⟨rfl, rfl⟩
  go_wp2
  go_ret
  exact ⟨rfl, rfl⟩
end Go.Proofs.Ytikoegmpbjeadaa
