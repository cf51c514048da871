/-
  DERIVED. Slices of numbers as they are read; the document's Whole: the runs of a list of blocks.
-/
import Derived.Test.YtikoegmpbjeadaaIgrown
namespace Go.Proofs.Ytikoegmpbjeadaa
open Go.RowKit
set_option linter.unusedVariables false

/-- A slice that reads as these numbers. -/
def Nr (w : World) (v : Value) (l : List Nat) : Prop :=
  ∃ ao cap, v = .slice ao l.length cap ∧ l.length ≤ cap ∧ cap ≤ 9223372036854775807 ∧ (l.length ≠ 0 → ∃ g off, ao = some ⟨g, off, none⟩ ∧ g < w.heap.size ∧ ∀ i, (h : i < l.length) → w.cell? ⟨g, off + i, none⟩ = some (.int .i64 (l[i] : Int)))
theorem Nr.kept {w w' : World} {v : Value} {l : List Nat} (h : Nr w v l) (hg : w.grownBy w' none) : Nr w' v l := by
  obtain ⟨ao, cap, e, h1, h2, h4⟩ := h
  refine ⟨ao, cap, e, h1, h2, fun hl => ?_⟩
  obtain ⟨g, off, e2, hb, hc⟩ := h4 hl
  exact ⟨g, off, e2, by have := hg.size; omega, fun i hi => hg.cell (hc i hi) (by simp)⟩
theorem NOwn.nr {w : World} {base : Nat} {v : Value} {xs : List Nat} (h : NOwn w base v xs) : Nr w v xs := by
  obtain ⟨ao, cap, e, h1, h2, h4⟩ := h.form
  refine ⟨ao, cap, e, h1, h2, fun hl => ?_⟩
  obtain ⟨g, e2, hb, hc⟩ := h4 hl
  exact ⟨g, 0, e2, hb, fun i hi => by rw [Nat.zero_add]; exact hc i hi⟩

/-- A piece of a slice of numbers of one's own. -/
theorem NOwn.piece {w : World} {base : Nat} {lo : Option Addr} {q cap : Nat} {L : List Nat} (h : NOwn w base (.slice lo q cap) L) (a z : Nat) (haz : a ≤ z) (hz : z ≤ L.length) :
    Nr w (.slice (lo.map fun x => x.add a) (z - a) (cap - a)) ((L.take z).drop a) := by
  obtain ⟨ao, cap', e, h1, h2, h4⟩ := h.form
  injection e with e1 e2 e3
  subst e1 e3
  have hl : ((L.take z).drop a).length = z - a := by rw [List.length_drop, List.length_take]; omega
  refine ⟨_, cap - a, by rw [hl], by rw [hl]; omega, by omega, fun hne => ?_⟩
  rw [hl] at hne
  obtain ⟨g, rfl, hg, hc⟩ := h4 (by omega)
  refine ⟨g, a, by simp [addr_add], hg, fun i hi => ?_⟩
  rw [hl] at hi
  rw [hc (a + i) (by omega)]
  simp

theorem Nr.empty (w : World) (A : Option Addr) (C : Nat) (hC : C ≤ 9223372036854775807) : Nr w (.slice A 0 C) [] := ⟨A, C, rfl, by simp, hC, fun h => absurd rfl h⟩
theorem NOwn.pieces {w : World} {base : Nat} {lo : Option Addr} {q cap : Nat} {L : List Nat} (h : NOwn w base (.slice lo q cap) L) (hq : q = L.length) (a z N C : Nat) (A : Option Addr) (haz : a ≤ z) (hz : z ≤ q) (hqc : q ≤ cap) (hN : N = z - a)
    (hA : (A = lo.map (fun x => x.add a) ∧ C = cap - a) ∨ (a = 0 ∧ A = lo ∧ C = cap) ∨ (cap = a ∧ C ≤ 9223372036854775807)) : Nr w (.slice A N C) ((L.take z).drop a) := by
  subst hN
  rcases hA with ⟨rfl, rfl⟩ | ⟨rfl, rfl, rfl⟩ | ⟨h1, h2⟩
  · exact h.piece a z haz (by omega)
  · have := h.piece 0 z haz (by omega)
    cases A with
    | none => simpa using this
    | some ad => simpa [Addr.add] using this
  · have e : (L.take z).drop a = [] := List.drop_eq_nil_of_le (by rw [List.length_take]; omega)
    rw [e, show z - a = 0 by omega]
    exact Nr.empty w A C h2


theorem canon_take (l : List Nat) (k : Nat) (h : k < l.length) : canon (l.take (k + 1)) = jstep (canon (l.take k)) (l[k], 1) := by rw [List.take_succ_eq_append_getElem h, canon_snoc]
theorem ROwn.at_last' {w : World} {base : Nat} {v : Value} {Z : List (Nat × Nat)} {z : Nat × Nat} (h : ROwn w base v (Z ++ [z])) : ∃ g cap, v = .slice (some ⟨g, 0, none⟩) (Z.length + 1) cap ∧ base ≤ g ∧ g < w.heap.size ∧ Z.length + 1 ≤ cap ∧ cap ≤ 9223372036854775807 ∧ w.cell? ⟨g, Z.length * 2, none⟩ = some (.int .i64 (z.1 : Int)) ∧ w.cell? ⟨g, Z.length * 2 + 1, none⟩ = some (.int .i64 (z.2 : Int)) ∧ (∀ i, w.frozen? ⟨g, i, none⟩ = false) := h.at_last

set_option maxRecDepth 20000 in
set_option maxHeartbeats 2000000 in
theorem Whole_any (w : World) (v : Value) (l : List Nat) (hv : Nr w v l) (hl : low l) (hln : l.length ≤ 10000) :
    Calls Try.prog 45 #[v] w fun e w' => ∃ u, e = .returned u ∧ ROwn w' w.heap.size u (canon l) ∧ w.grownBy w' none := by
  have HV := hide hv
  obtain ⟨ao, cap, rfl, hu1, hu2, _⟩ := hv
  obtain ⟨n, hn⟩ : ∃ n, n = l.length := ⟨_, rfl⟩
  rw [← hn] at hu1 HV hln ⊢
  have HN := hide hn
  have hni : (n : Int) ≤ 10000 := by omega
  clear hn
  go_enter Try.func45, Try.ntmps45
  go_wp2
  go_loopw [3, 4] (fun a i wr => ∃ (k : Nat), i = .int .i64 (k : Int) ∧ k ≤ n ∧ ROwn wr w.heap.size a (canon (l.take k)) ∧ w.grownBy wr none) (fun _ i _ => n - (intOf i).toNat)
  case atStart => exact ⟨0, rfl, by omega, by simpa [canon] using ROwn.nil w w.heap.size, World.grownBy.refl _ _⟩
  case round =>
    obtain ⟨k, rfl, hk, ho, hg⟩ := hrel
    by_cases hlt : k < n
    · have hlt' : (k : Int) < (n : Int) := by omega
      have hkl : k < l.length := by rw [← unhide HN]; exact hlt
      obtain ⟨pb, off, hao, hpb, hc⟩ : ∃ pb off, ao = some ⟨pb, off, none⟩ ∧ pb < wr.heap.size ∧ ∀ i, (h : i < l.length) → wr.cell? ⟨pb, off + i, none⟩ = some (.int .i64 (l[i] : Int)) := by
        obtain ⟨ao', cap', e, _, _, h4⟩ := (unhide HV).kept hg
        injection e with e1 e2 e3
        subst e1
        exact h4 (by omega)
      subst hao
      have c0 := hc k hkl
      have hy := hl l[k] (List.getElem_mem hkl)
      have HJ := hide (canon_take l k hkl)
      have hpre : low (l.take k) := low_take hl k
      have HNm := hide (norm_canon (l.take k))
      have HLw := hide (low_canon hpre)
      have hJl : (canon (l.take k)).length ≤ 20000 := by
        have h1 := canon_len (l.take k)
        have h2 : (l.take k).length ≤ k := by rw [List.length_take]; omega
        omega
      clear hpre
      obtain ⟨J, hJ⟩ : ∃ J, J = canon (l.take k) := ⟨_, rfl⟩
      rw [← hJ] at ho HJ HNm HLw hJl
      obtain ⟨y1, hyk⟩ : ∃ y, y = l[k] := ⟨_, rfl⟩
      rw [← hyk] at c0 hy HJ
      have hyi2 : (y1 : Int) < 512 := by omega
      clear hc hJ hyk hlt
      have HG := hide hg
      have HO := hide ho
      have HSz := hide hg.size
      clear hg ho
      rcases list_snoc J with hJ0 | ⟨Z, z, hJZ⟩
      · subst hJ0
        obtain ⟨ao5, cap5, hu5, _, _, _⟩ := (unhide HO).form
        subst hu5
        simp only [List.length_nil] at HO ⊢
        have hd : decide ((0 : Int) ≤ -1) = false := by decide
        go_wp2_with fail
        go_quiet (fail)
        go_wp2_with (at_builtin; refine wpList_append_run rfl (.tmp 43) (.tmp 49) rfl w.heap.size _ [] rfl ?ho ?hb ?hl ⟨_, 0, none⟩ 1 (y1, 1) rfl ?hc ?_)
        case ho => exact (unhide HO).grown ((grown_drewN' (World.grownBy.refl _ _) _).trans (World.grownBy_alloc _ _ _))
        case hb => have := unhide HSz; simp; omega
        case hl => simp
        case hc => exact one_cells' _ _ _
        intro v' w2 o2 g2
        have o1 : ROwn ((wr.drewN nq).alloc (.cells #[.int .i64 (y1 : Int), .int .i64 1] 51)) w.heap.size (.slice ao5 0 cap5) [] := (unhide HO).grown ((grown_drewN' (World.grownBy.refl _ _) _).trans (World.grownBy_alloc _ _ _))
        have g1 : w.grownBy ((wr.drewN nq).alloc (.cells #[.int .i64 (y1 : Int), .int .i64 1] 51)) none := (grown_drewN' (unhide HG) _).trans (World.grownBy_alloc _ _ _)
        have G2 : Hid (w.grownBy w2 none) := hide (own_step' g1 o1 g2)
        have O2 : Hid (ROwn w2 w.heap.size v' (canon (l.take (k + 1)))) := hide (by rw [unhide HJ]; exact o2)
        clear o1 g1 o2 g2 HO HG
        go_wp2
        go_roundw
        case rel => exact ⟨k + 1, rfl, by omega, unhide O2, unhide G2⟩
        case measure => simp [intOf]; omega
      · subst hJZ
        have hz := unhide HLw z (by simp)
        obtain ⟨g5, cap5, hu5, hb5, hl5, hcp5, hcq5, d0, d1, hfz⟩ := (unhide HO).at_last
        subst hu5
        obtain ⟨z1, z2⟩ := z
        simp only at hz d0 d1
        obtain ⟨hz2, hz1⟩ := hz
        have hqn : Z.length ≤ 20000 := by simp at hJl; omega
        obtain ⟨q, hq⟩ : ∃ q, q = Z.length := ⟨_, rfl⟩
        rw [← hq] at d0 d1 hcp5 HO hqn ⊢
        have HQ := hide hq
        clear hq
        have hqi : (q : Int) ≤ 20000 := by omega
        have hzi : (z1 : Int) + (z2 : Int) ≤ 512 := by omega
        have hzj : (0 : Int) < (z2 : Int) := by omega
        have hd : decide ((0 : Int) ≤ (q : Int)) = true := decide_eq_true (by omega)
        go_wp2_with fail
        by_cases hj : (z1 : Int) + (z2 : Int) = (y1 : Int)
        · have hj' : ((z1 : Int) + (z2 : Int) == (y1 : Int)) = true := beq_iff_eq.2 hj
          have HJ2 : Hid (canon (l.take (k + 1)) = (Z ++ [(z1, z2)]).set q (z1, z2 + 1)) := hide (by
            rw [unhide HJ, show y1 = z1 + z2 by omega, jstep_join, unhide HQ]
            simp)
          have HO2 : Hid (ROwn (wr.setCell ⟨g5, q * 2 + 1, none⟩ (.int .i64 ((z2 : Int) + 1))) w.heap.size (.slice (some ⟨g5, 0, none⟩) (q + 1) cap5) (canon (l.take (k + 1)))) := hide (by
            have h := (unhide HO).set1 q (z2 + 1) (by rw [unhide HQ]; simp)
            have e : (Z ++ [(z1, z2)])[q]'(by rw [unhide HQ]; simp) = (z1, z2) := by simp [unhide HQ]
            rw [e] at h
            rw [unhide HJ2]
            exact h)
          have HG2 : Hid (w.grownBy (wr.setCell ⟨g5, q * 2 + 1, none⟩ (.int .i64 ((z2 : Int) + 1))) none) := hide (own_step (unhide HG) hb5 (setCell_grown _ _ _ _))
          clear HJ2 HO HG HJ
          go_quiet (fail)
          go_wp2
          go_roundw
          case rel => exact ⟨k + 1, rfl, by omega, unhide HO2, ⟨(unhide HG2).os, (unhide HG2).tape, (unhide HG2).output, (unhide HG2).size, (unhide HG2).block⟩⟩
          case measure => simp [intOf]; omega
        · have hj' : ((z1 : Int) + (z2 : Int) == (y1 : Int)) = false := beq_eq_false_iff_ne.2 hj
          have HJ2 : Hid (canon (l.take (k + 1)) = Z ++ [(z1, z2)] ++ [(y1, 1)]) := hide (by
            rw [unhide HJ]
            exact jstep_not _ _ _ (by simp only; omega))
          clear HJ
          go_quiet (fail)
          go_wp2_with (at_builtin; refine wpList_append_run rfl (.tmp 43) (.tmp 49) rfl w.heap.size _ (Z ++ [(z1, z2)]) rfl ?ho ?hb ?hl ⟨_, 0, none⟩ 1 (y1, 1) rfl ?hc ?_)
          case ho => exact (unhide HO).grown ((grown_drewN' (World.grownBy.refl _ _) _).trans (World.grownBy_alloc _ _ _))
          case hb => have := unhide HSz; simp; omega
          case hl => have := unhide HQ; simp; omega
          case hc => exact one_cells' _ _ _
          intro v' w2 o2 g2
          have o1 : ROwn ((wr.drewN nq).alloc (.cells #[.int .i64 (y1 : Int), .int .i64 1] 51)) w.heap.size (.slice (some ⟨g5, 0, none⟩) (q + 1) cap5) (Z ++ [(z1, z2)]) := (unhide HO).grown ((grown_drewN' (World.grownBy.refl _ _) _).trans (World.grownBy_alloc _ _ _))
          have g1 : w.grownBy ((wr.drewN nq).alloc (.cells #[.int .i64 (y1 : Int), .int .i64 1] 51)) none := (grown_drewN' (unhide HG) _).trans (World.grownBy_alloc _ _ _)
          have G2 : Hid (w.grownBy w2 none) := hide (own_step' g1 o1 g2)
          have O2 : Hid (ROwn w2 w.heap.size v' (canon (l.take (k + 1)))) := hide (by rw [unhide HJ2, List.append_assoc]; exact o2)
          clear o1 g1 o2 g2 HO HG d0 d1 hfz
          go_wp2
          go_roundw
          case rel => exact ⟨k + 1, rfl, by omega, unhide O2, unhide G2⟩
          case measure => simp [intOf]; omega
    · have hlt' : ¬ (k : Int) < (n : Int) := by omega
      have HO : Hid (ROwn wr w.heap.size u3 (canon l)) := hide (by
        rw [List.take_of_length_le (by have := unhide HN; omega)] at ho
        exact ho)
      have HG := hide hg
      clear ho hg
      go_wp2
      go_ret
      exact ⟨_, rfl, unhide HO, unhide HG⟩
end Go.Proofs.Ytikoegmpbjeadaa
