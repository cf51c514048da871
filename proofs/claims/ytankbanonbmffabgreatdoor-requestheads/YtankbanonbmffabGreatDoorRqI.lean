/-
  DERIVED. The reader: take, counted, first.
-/
import Derived.Test.YtankbanonbmffabGreatDoorRqH
namespace Go.Proofs.YtankbanonbmffabGreatDoor
open Go.RowKit
set_option linter.unusedVariables false

theorem RdAt.setM {w : World} {g : Nat} {R : Rd} (h : RdAt w g R) (x : List UInt8) : RdAt (w.setCell ⟨g, 2, none⟩ (qv x)) g { R with m := x } := ⟨heap_setCell_same w g 2 _ _ _ h.1, h.2⟩
theorem RdAt.setP {w : World} {g : Nat} {R : Rd} (h : RdAt w g R) (x : List UInt8) : RdAt (w.setCell ⟨g, 3, none⟩ (qv x)) g { R with p := x } := ⟨heap_setCell_same w g 3 _ _ _ h.1, h.2⟩
theorem RdAt.setQ {w : World} {g : Nat} {R : Rd} (h : RdAt w g R) (x : List UInt8) : RdAt (w.setCell ⟨g, 4, none⟩ (qv x)) g { R with q := x } := ⟨heap_setCell_same w g 4 _ _ _ h.1, h.2⟩
theorem RdAt.setH {w : World} {g : Nat} {R : Rd} (h : RdAt w g R) (x : Value) : RdAt (w.setCell ⟨g, 5, none⟩ x) g { R with hv := x } := ⟨heap_setCell_same w g 5 _ _ _ h.1, h.2⟩
theorem RdAt.setB {w : World} {g : Nat} {R : Rd} (h : RdAt w g R) (x : List UInt8) : RdAt (w.setCell ⟨g, 6, none⟩ (qv x)) g { R with b := x } := ⟨heap_setCell_same w g 6 _ _ _ h.1, h.2⟩
theorem RdAt.setCl {w : World} {g : Nat} {R : Rd} (h : RdAt w g R) (x : Bool) : RdAt (w.setCell ⟨g, 7, none⟩ (.bool x)) g { R with cl := x } := ⟨heap_setCell_same w g 7 _ _ _ h.1, h.2⟩
theorem RdAt.setFn {w : World} {g : Nat} {R : Rd} (h : RdAt w g R) (x : Value) : RdAt (w.setCell ⟨g, 8, none⟩ x) g { R with fn := x } := ⟨heap_setCell_same w g 8 _ _ _ h.1, h.2⟩
theorem RdAt.setLn {w : World} {g : Nat} {R : Rd} (h : RdAt w g R) (x : Int) : RdAt (w.setCell ⟨g, 9, none⟩ (.int .i64 x)) g { R with ln := x } := ⟨heap_setCell_same w g 9 _ _ _ h.1, h.2⟩
theorem RdAt.c2 {w : World} {g : Nat} {R : Rd} (h : RdAt w g R) : w.cell? ⟨g, 2, none⟩ = some (qv R.m) := (cell_of_row _ _ _ _ _ _ h.1).trans rfl
theorem RdAt.c3 {w : World} {g : Nat} {R : Rd} (h : RdAt w g R) : w.cell? ⟨g, 3, none⟩ = some (qv R.p) := (cell_of_row _ _ _ _ _ _ h.1).trans rfl
theorem RdAt.c4 {w : World} {g : Nat} {R : Rd} (h : RdAt w g R) : w.cell? ⟨g, 4, none⟩ = some (qv R.q) := (cell_of_row _ _ _ _ _ _ h.1).trans rfl
theorem RdAt.c6 {w : World} {g : Nat} {R : Rd} (h : RdAt w g R) : w.cell? ⟨g, 6, none⟩ = some (qv R.b) := (cell_of_row _ _ _ _ _ _ h.1).trans rfl
theorem RdAt.c7 {w : World} {g : Nat} {R : Rd} (h : RdAt w g R) : w.cell? ⟨g, 7, none⟩ = some (.bool R.cl) := (cell_of_row _ _ _ _ _ _ h.1).trans rfl

set_option maxHeartbeats 2000000 in
set_option maxRecDepth 20000 in
theorem take_any (g : Nat) (R : Rd) (n : Nat) (w : World) (h : RdAt w g R) (hn : n ≤ 100000) : Calls Tryz.prog 43 #[.pointer (some ⟨g, 0, none⟩), .int .i64 (n : Int)] w (QEnds (qTake n (R.s.drop R.at')) qv g R w) := by
  have c0 := h.data
  have c1 := h.at_
  have hle := h.2.1
  have hls := h.2.2
  obtain ⟨D, hD⟩ : ∃ D : Int, D = (R.s.length : Int) - R.at' := ⟨_, rfl⟩
  have wr0 : IntKind.i64.wrap ((R.s.length : Int) - (R.at' : Int)) = D := by rw [IntKind.wrap_i64]; omega
  by_cases hlt : n ≤ R.s.length - R.at'
  · have HE : Hid (qTake n (R.s.drop R.at') = .ok ((R.s.drop R.at').take n) n) := hide (by unfold qTake; rw [if_pos (by simpa using hlt)])
    rw [unhide HE]
    obtain ⟨E, hE⟩ : ∃ E : Int, E = (R.at' : Int) + n := ⟨_, rfl⟩
    have HN := hide (fun nq => (h.drewN nq).setAt (R.at' + n) E (by rw [hE]; simp) (by omega))
    have HE1 : Hid ((((R.at' + n : Nat) : Int)) = E) := hide (by rw [hE]; simp)
    have HX : Hid ((⟨R.s.toArray⟩ : ByteArray).extract R.at' E.toNat = ⟨((R.s.drop R.at').take n).toArray⟩) := hide (by
      have : E.toNat = R.at' + n := by omega
      rw [ext_mid', this, List.drop_take, Nat.add_sub_cancel_left])
    have HCl := hide (fun W => sClone_any ((R.s.drop R.at').take n) W (by rw [List.length_take]; omega))
    have HF := hide h.fz
    have hnd : (n : Int) ≤ D := by omega
    have wr1 : IntKind.i64.wrap ((R.at' : Int) + n) = E := by rw [IntKind.wrap_i64]; omega
    have wr2 : IntKind.i64.wrap (E - (n : Int)) = (R.at' : Int) := by rw [IntKind.wrap_i64]; omega
    have b1 : (0 : Int) ≤ R.at' := by omega
    have b2 : (R.at' : Int) ≤ E := by omega
    have b3 : E ≤ R.s.length := by omega
    clear hle hls h hlt hD hE hn
    go_enter Tryz.func43, Tryz.ntmps43
    go_wp2_with fail
    refine wp_region_quiet_last (n := 12) (L := ?L1) (l := ?l1) (by kernel_rfl) (by rfl) ?hL1 ?hl1 ?hp1 ?hB1 ?h1
    case hL1 => (simp only [List.getElem?_toArray, List.getElem?_cons_succ, List.getElem?_cons_zero]; rfl)
    case hl1 => (simp only [List.pop_toArray, List.dropLast_cons_cons, List.dropLast_singleton]; rfl)
    case hp1 => kernel_rfl
    case hB1 => kernel_rfl
    case h1 =>
      repeat (go_big_quiet_step (fail))
      refine wpQuiet_nil ?_
      intro _ hw'
      obtain ⟨nq, hw''⟩ := hw'
      subst hw''
      go_simp
      refine (need_ok 0 _).mono ?_
      rintro e w' ⟨rfl, rfl⟩
      have d1 : (w.drewN nq).cell? ⟨g, 1, none⟩ = some (.int .i64 (R.at' : Int)) := c1
      have df : ∀ i, (w.drewN nq).frozen? ⟨g, i, none⟩ = false := unhide HF
      have HN1 := hide (unhide HN nq)
      have HQ1 : Hid (QF g w ((w.drewN nq).setCell ⟨g, 1, none⟩ (.int .i64 E))) := hide (((QF.refl g w).drewN nq).set 1 _)
      clear c0 c1 HN
      go_upto_region 3 with fail
      obtain ⟨W1, hW1⟩ : ∃ W1, W1 = (w.drewN nq).setCell ⟨g, 1, none⟩ (.int .i64 E) := ⟨_, rfl⟩
      rw [← hW1] at HN1 HQ1 ⊢
      have c0 := (unhide HN1).data
      have c1 := (unhide HN1).at_
      simp only at c1
      rw [unhide HE1] at c1
      clear hW1 d1 df
      refine wp_region_quiet_last2 (n := 15) (L := ?L3) (M := ?M3) (l := ?l3) (by kernel_rfl) (by rfl) ?hL3 ?hM3 ?hl3 ?hp3 ?hq3 ?hB3 ?h3
      case hL3 => (simp only [List.getElem?_toArray, List.getElem?_cons_succ, List.getElem?_cons_zero]; rfl)
      case hM3 => (simp only [List.getElem?_toArray, List.getElem?_cons_succ, List.getElem?_cons_zero]; rfl)
      case hl3 => (simp only [List.pop_toArray, List.dropLast_cons_cons, List.dropLast_singleton]; rfl)
      case hp3 => kernel_rfl
      case hq3 => kernel_rfl
      case hB3 => kernel_rfl
      case h3 =>
        repeat (go_big_quiet_step (fail))
        refine wpQuiet_nil ?_
        intro _ hw'
        obtain ⟨mq, hw''⟩ := hw'
        subst hw''
        go_simp
        rw [unhide HX]
        refine (unhide HCl _).mono ?_
        rintro e w2 ⟨rfl, b2⟩
        have HR2 := hide (((unhide HN1).drewN mq).same (b2.block g ((unhide HN1).drewN mq).lt))
        have HQ2 := hide (((unhide HQ1).drewN mq).trans (QF.of b2))
        clear c0 c1 b2
        go_simp
        go_wp2
        go_ret
        exact ⟨⟨rfl, unhide HR2⟩, unhide HQ2⟩
  · have HE : Hid (qTake n (R.s.drop R.at') = .no 0) := hide (by unfold qTake; rw [if_neg (by simpa using hlt)])
    rw [unhide HE]
    have hnd : decide ((n : Int) ≤ (R.s.length : Int) - (R.at' : Int)) = false := decide_eq_false (by omega)
    clear hle hls h hlt hn
    go_enter Tryz.func43, Tryz.ntmps43
    go_wp2_with fail
    refine wp_region_quiet_last (n := 12) (L := ?L2) (l := ?l2) (by kernel_rfl) (by rfl) ?hL2 ?hl2 ?hp2 ?hB2 ?h2
    case hL2 => (simp only [List.getElem?_toArray, List.getElem?_cons_succ, List.getElem?_cons_zero]; rfl)
    case hl2 => (simp only [List.pop_toArray, List.dropLast_cons_cons, List.dropLast_singleton]; rfl)
    case hp2 => kernel_rfl
    case hB2 => kernel_rfl
    case h2 =>
      repeat (go_big_quiet_step (fail))
      refine wpQuiet_nil ?_
      intro _ hw'
      obtain ⟨nq, hw''⟩ := hw'
      subst hw''
      go_simp
      refine (need_no 0 _).mono ?_
      rintro e w' ⟨rfl, rfl⟩
      exact ⟨rfl, rfl, (QF.refl g w).drewN nq⟩
end Go.Proofs.YtankbanonbmffabGreatDoor
