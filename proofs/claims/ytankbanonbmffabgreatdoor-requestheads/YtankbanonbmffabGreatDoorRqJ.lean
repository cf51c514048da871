/-
  DERIVED. The reader: counted, nothing, first.
-/
import Derived.Test.YtankbanonbmffabGreatDoorRqI
namespace Go.Proofs.YtankbanonbmffabGreatDoor
open Go.RowKit
set_option linter.unusedVariables false

/-- What reads a body comes to. -/
def BEnds (r : Rs (List UInt8)) (g : Nat) (R : Rd) (w : World) (e : Ending) (w' : World) : Prop :=
  (match r with
    | .ok x n => e = .returned (.tuple #[]) ∧ RdAt w' g { R with at' := R.at' + n, b := x }
    | .no s => e = panQ s) ∧ QF g w w'

theorem nothing_any (g : Nat) (w : World) : Calls Tryz.prog 26 #[.pointer (some ⟨g, 0, none⟩)] w fun e w' => e = .returned (.tuple #[]) ∧ w' = w := by
  go_enter Tryz.func26, Tryz.ntmps26
  go_wp2_with fail
  refine bodyPost_end (results_none rfl _ _ _) rfl ?_
  exact ⟨rfl, rfl⟩

set_option maxRecDepth 20000 in
theorem counted_any (g : Nat) (R : Rd) (n : Nat) (w : World) (h : RdAt w g R) (hn : n ≤ 100000) (hl : R.ln = n) : Calls Tryz.prog 25 #[.pointer (some ⟨g, 0, none⟩)] w (BEnds (qTake n (R.s.drop R.at')) g R w) := by
  have HC := hide (take_any g R n w h hn)
  have c9 := h.ln_
  rw [hl] at c9
  clear h hn
  cases hr : qTake n (R.s.drop R.at') with
  | no s =>
    rw [hr] at HC
    clear hr
    go_enter Tryz.func25, Tryz.ntmps25
    go_wp2_with (go_at_call 43; refine (unhide HC).mono ?_; rintro e w1 ⟨rfl, q1⟩; have HQ := hide q1; clear q1)
    exact ⟨rfl, rfl, unhide HQ⟩
  | ok x k =>
    rw [hr] at HC
    clear hr
    go_enter Tryz.func25, Tryz.ntmps25
    go_wp2_with (go_at_call 43; refine (unhide HC).mono ?_; rintro e w1 ⟨⟨rfl, r1⟩, q1⟩; have HQ := hide (q1.set 6 (qv x)); have HR := hide (r1.setB x); have f1 := r1.fz 6; have c6 := r1.c6; clear q1 r1)
    refine bodyPost_end (results_none rfl _ _ _) rfl ?_
    exact ⟨⟨rfl, unhide HR⟩, unhide HQ⟩

/-! ### The first line -/
theorem qFirst_three {l m t v : List UInt8} (h : qSplit 32 l = [m, t, v]) : qFirst l = if qMethod m && qTarget t && v == qHTTP then (if m == qGET || m == qPOST then .ok (m, (qCut 63 t).1, ((qCut 63 t).2.getD [])) else .error 501) else .error 400 := by
  unfold qFirst; rw [h]
theorem qFirst_not {l : List UInt8} (h : (qSplit 32 l).length ≠ 3) : qFirst l = .error 400 := by
  unfold qFirst
  split
  · rename_i h2; rw [h2] at h; exact absurd rfl h
  · rfl
theorem len_three {α : Type} : ∀ {l : List α}, l.length = 3 → ∃ a b c, l = [a, b, c]
  | [a, b, c], _ => ⟨a, b, c, rfl⟩
theorem qSplit_mem {c : UInt8} : ∀ {s x : List UInt8}, x ∈ qSplit c s → x.length ≤ s.length
  | [], x, h => by simp [qSplit] at h; simp [h]
  | d :: r, x, h => by
    rw [qSplit] at h
    split at h
    · rcases List.mem_cons.1 h with rfl | h
      · simp
      · have := qSplit_mem h; simp; omega
    · cases hq : qSplit c r with
      | nil => exact absurd hq (qSplit_ne c r)
      | cons a l =>
        rw [hq] at h
        simp only at h
        rcases List.mem_cons.1 h with rfl | h
        · have := qSplit_mem (c := c) (s := r) (x := a) (by rw [hq]; simp)
          simp; omega
        · have := qSplit_mem (c := c) (s := r) (x := x) (by rw [hq]; simp [h])
          simp; omega

/-- What first comes to. -/
def FirstEnd (F : Except Int (List UInt8 × List UInt8 × List UInt8)) (g : Nat) (R : Rd) (n : Nat) (e : Ending) (w' : World) : Prop := match F with
  | .error s => e = panQ s
  | .ok (m, p, q) => e = .returned (.tuple #[]) ∧ RdAt w' g { R with at' := R.at' + n, m := m, p := p, q := q }
def FirstPost (r : Rs (List UInt8)) (g : Nat) (R : Rd) (w : World) (e : Ending) (w' : World) : Prop :=
  (match r with
    | .no s => e = panQ s
    | .ok l n => FirstEnd (qFirst l) g R n e w') ∧ QF g w w'

set_option maxHeartbeats 8000000 in
set_option maxRecDepth 20000 in
theorem first_any (g : Nat) (R : Rd) (w : World) (h : RdAt w g R) : Calls Tryz.prog 8 #[.pointer (some ⟨g, 0, none⟩)] w (FirstPost (qLine 0 (R.s.drop R.at')) g R w) := by
  have HC := hide (line_any g R w h)
  cases hq : qLine 0 (R.s.drop R.at') with
  | no s =>
    rw [hq] at HC
    clear h hq
    go_enter Tryz.func8, Tryz.ntmps8
    go_wp2_with (go_at_call 13; refine (unhide HC).mono ?_; rintro e w1 ⟨rfl, q1⟩; have HQ := hide q1; clear q1)
    exact ⟨rfl, rfl, unhide HQ⟩
  | ok l n =>
    rw [hq] at HC
    have hll := (qLine_ok _ _ _ _ hq).2.2.1 (by omega)
    have HS := hide (fun W => qSplit_any l 32 W (by omega))
    have hmem := fun x => qSplit_mem (c := 32) (s := l) (x := x)
    by_cases h3 : (qSplit 32 l).length = 3
    · obtain ⟨m, t, v, hmtv⟩ := len_three h3
      have HE := hide (qFirst_three hmtv)
      rw [hmtv] at HS hmem
      have hm : m.length ≤ 256 := by have := hmem m (by simp); omega
      have ht : t.length ≤ 256 := by have := hmem t (by simp); omega
      have hv : v.length ≤ 256 := by have := hmem v (by simp); omega
      have HM := hide (fun W => isMethod_any m W (by omega))
      have HT := hide (fun W => isTarget_any t W (by omega))
      have HCu := hide (fun W => qCut_any t 63 W (by omega))
      obtain ⟨F, hF⟩ : ∃ F, F = qFirst l := ⟨_, rfl⟩
      have HPost : Hid (∀ e w', FirstEnd F g R n e w' ∧ QF g w w' → FirstPost (.ok l n) g R w e w') := hide (fun e w' h => by rw [hF] at h; exact h)
      rw [← hF] at HE
      obtain ⟨X, hX⟩ : ∃ X, X = qMethod m := ⟨_, rfl⟩
      rw [← hX] at HM HE
      obtain ⟨Y, hY⟩ : ∃ Y, Y = qTarget t := ⟨_, rfl⟩
      rw [← hY] at HT HE
      obtain ⟨p, hp⟩ : ∃ p, p = qCut 63 t := ⟨_, rfl⟩
      rw [← hp] at HCu HE
      obtain ⟨p1, p2⟩ := p
      simp only [qcutV] at HCu HE
      obtain ⟨q2, hq2⟩ : ∃ q, q = p2.getD [] := ⟨_, rfl⟩
      rw [← hq2] at HCu HE
      clear hX hY hp hF hmem h3 hmtv hq hll hm ht hv h hq2
      go_enter Tryz.func8, Tryz.ntmps8
      go_upto_region 1 with (first | (go_at_call 13; refine (unhide HC).mono ?_; rintro e w1 ⟨⟨rfl, r1⟩, q1⟩; have HQ1 := hide q1; have HR1 := hide r1; clear q1 r1) | (go_at_call 12; refine (unhide HS _).mono ?_; rintro e w2 ⟨⟨v2, rfl, l2⟩, b2⟩; have HL2 := hide l2; have HQ2 := hide ((unhide HQ1).trans (QF.of b2)); have HR2 := hide ((unhide HR1).same (b2.block g (unhide HR1).lt)); clear l2 b2))
      obtain ⟨b, cap, rfl, g1, g2, g3, g4⟩ := unhide HL2
      have d0 := g4 0 m rfl
      have d1 := g4 1 t rfl
      have hbl : b < w2.heap.size := by obtain ⟨cs, fr, hb⟩ := g3; exact lt_of_block hb
      have hbg : b ≠ g := by
        intro e; subst e; obtain ⟨cs, fr, hb⟩ := g3; rw [(unhide HR2).1] at hb; simp at hb
      have HB := hide (And.intro hbl hbg)
      have HD := hide g4
      rw [show [m, t, v].length = 3 from rfl]
      clear g1 g2 g3 g4 hbl hbg
      cases X with
      | false =>
        have HF : Hid (F = .error 400) := hide (by rw [unhide HE]; simp)
        go_wp2_with (first | (go_at_call 15; refine (unhide HM _).mono ?_; rintro e w3 ⟨rfl, rfl⟩) | (go_at_call 14; refine (need_no 400 _).mono ?_; rintro e w3 ⟨rfl, rfl⟩))
        refine ⟨rfl, unhide HPost _ _ ⟨?_, unhide HQ2⟩⟩
        rw [unhide HF]
        rfl
      | true =>
        cases Y with
        | false =>
          have HF : Hid (F = .error 400) := hide (by rw [unhide HE]; simp)
          go_wp2_with (first | (go_at_call 15; refine (unhide HM _).mono ?_; rintro e w3 ⟨rfl, rfl⟩) | (go_at_call 16; refine (unhide HT _).mono ?_; rintro e w3 ⟨rfl, b3⟩; have HQ3 := hide ((unhide HQ2).trans (QF.of b3)); clear b3) | (go_at_call 14; refine (need_no 400 _).mono ?_; rintro e w3 ⟨rfl, rfl⟩))
          refine ⟨rfl, unhide HPost _ _ ⟨?_, unhide HQ3⟩⟩
          rw [unhide HF]
          rfl
        | true =>
          obtain ⟨V, hV⟩ : ∃ V, (v == qHTTP) = V := ⟨_, rfl⟩
          have hV' : (v == [72, 84, 84, 80, 47, 49, 46, 49]) = V := hV
          rw [hV] at HE
          clear hV
          cases V with
          | false =>
            have HF : Hid (F = .error 400) := hide (by rw [unhide HE]; simp)
            go_wp2_with (first | (go_at_call 15; refine (unhide HM _).mono ?_; rintro e w3 ⟨rfl, rfl⟩) | (go_at_call 16; refine (unhide HT _).mono ?_; rintro e w3 ⟨rfl, b3⟩; have HQ3 := hide ((unhide HQ2).trans (QF.of b3)); have d2 := (b3.cell (p := ⟨b, 2, none⟩) (unhide HB).1).trans (unhide HD 2 v rfl); clear b3) | (go_at_call 14; refine (need_no 400 _).mono ?_; rintro e w4 ⟨rfl, rfl⟩))
            refine ⟨rfl, unhide HPost _ _ ⟨?_, unhide HQ3⟩⟩
            rw [unhide HF]
            rfl
          | true =>
            obtain ⟨GE, hG⟩ : ∃ V, (m == qGET) = V := ⟨_, rfl⟩
            have hG' : (m == [71, 69, 84]) = GE := hG
            obtain ⟨PO, hP⟩ : ∃ V, (m == qPOST) = V := ⟨_, rfl⟩
            have hP' : (m == [80, 79, 83, 84]) = PO := hP
            rw [hG, hP] at HE
            clear hG hP
            by_cases hgp : (GE || PO) = true
            · have HF : Hid (F = .ok (m, p1, q2)) := hide (by rw [unhide HE]; simp [hgp])
              have hor : GE = true ∨ (GE = false ∧ PO = true) := by cases GE <;> simp_all
              clear hgp HE
              rcases hor with rfl | ⟨rfl, rfl⟩
              all_goals
                go_upto_region 3 with (first | (go_at_call 15; refine (unhide HM _).mono ?_; rintro e w3 ⟨rfl, rfl⟩) | (go_at_call 16; refine (unhide HT _).mono ?_; rintro e w3 ⟨rfl, b3⟩; have HQ3 := hide ((unhide HQ2).trans (QF.of b3)); have HR3 := hide ((unhide HR2).same (b3.block g (unhide HR2).lt)); have HB3 : Hid (b < w3.heap.size) := hide (Nat.lt_of_lt_of_le (unhide HB).1 b3.size); clear d0 d1; have d0 := (b3.cell (p := ⟨b, 0, none⟩) (unhide HB).1).trans (unhide HD 0 m rfl); have d1 := (b3.cell (p := ⟨b, 1, none⟩) (unhide HB).1).trans (unhide HD 1 t rfl); have d2 := (b3.cell (p := ⟨b, 2, none⟩) (unhide HB).1).trans (unhide HD 2 v rfl); clear b3) | (go_at_call 14; have mk : True := trivial; refine (need_ok 400 _).mono ?_; rintro e w4 ⟨rfl, rfl⟩) | (go_at_call 14; refine (need_ok 501 _).mono ?_; rintro e w4 ⟨rfl, rfl⟩))
                have c2 := (unhide HR3).c2
                have f2 := (unhide HR3).fz
                have HR4 := hide ((unhide HR3).setM m)
                have HQ4 := hide ((unhide HQ3).set 2 (qv m))
                have e1 : (w4.setCell ⟨g, 2, none⟩ (qv m)).cell? ⟨b, 1, none⟩ = some (qv t) := (World.cell?_setCell_far w4 ⟨g, 2, none⟩ ⟨b, 1, none⟩ (qv m) (fun e => (unhide HB).2 e.symm)).trans d1
                go_upto_region 4 with fail
                obtain ⟨W4, hW4⟩ : ∃ W4, W4 = w4.setCell ⟨g, 2, none⟩ (qv m) := ⟨_, rfl⟩
                rw [← hW4] at HR4 HQ4 e1 ⊢
                clear hW4 d0 d1 d2 c2 f2
                go_wp2_with (go_at_call 17; refine (unhide HCu _).mono ?_; rintro e w5 ⟨rfl, b5⟩; have hr5 := (unhide HR4).same (b5.block g (unhide HR4).lt); have hq5 := (unhide HQ4).trans (QF.of b5); have c3 := hr5.c3; have f5 := hr5.fz; have hr6 := hr5.setP p1; have c4 := hr6.c4; have f6 := hr6.fz; have HR7 := hide (hr6.setQ q2); have HQ7 := hide ((hq5.set 3 (qv p1)).set 4 (qv q2)); clear hr5 hr6 hq5 b5)
                refine bodyPost_end (results_none rfl _ _ _) rfl ?_
                refine unhide HPost _ _ ⟨?_, unhide HQ7⟩
                rw [unhide HF]
                exact ⟨rfl, unhide HR7⟩
            · have HF : Hid (F = .error 501) := hide (by rw [unhide HE]; simp [hgp])
              have hor : GE = false ∧ PO = false := by cases GE <;> cases PO <;> simp_all
              obtain ⟨rfl, rfl⟩ := hor
              clear hgp HE
              go_wp2_with (first | (go_at_call 15; refine (unhide HM _).mono ?_; rintro e w3 ⟨rfl, rfl⟩) | (go_at_call 16; refine (unhide HT _).mono ?_; rintro e w3 ⟨rfl, b3⟩; have HQ3 := hide ((unhide HQ2).trans (QF.of b3)); have d2 := (b3.cell (p := ⟨b, 2, none⟩) (unhide HB).1).trans (unhide HD 2 v rfl); have d3 := (b3.cell (p := ⟨b, 0, none⟩) (unhide HB).1).trans (unhide HD 0 m rfl); clear b3) | (go_at_call 14; refine (need_ok 400 _).mono ?_; rintro e w4 ⟨rfl, rfl⟩) | (go_at_call 14; refine (need_no 501 _).mono ?_; rintro e w4 ⟨rfl, rfl⟩))
              refine ⟨rfl, unhide HPost _ _ ⟨?_, unhide HQ3⟩⟩
              rw [unhide HF]
              rfl
    · have HE := hide (qFirst_not h3)
      have HPost : Hid (∀ e w', e = panQ 400 ∧ QF g w w' → FirstPost (.ok l n) g R w e w') := hide (fun e w' h => by unfold FirstPost FirstEnd; simp only [unhide HE]; exact h)
      obtain ⟨N, hN⟩ : ∃ N, N = (qSplit 32 l).length := ⟨_, rfl⟩
      have h3' : ((N : Int) == 3) = false := by rw [beq_eq_false_iff_ne]; omega
      have HN := hide hN
      clear h hq hll hmem h3 hN
      go_enter Tryz.func8, Tryz.ntmps8
      go_upto_region 1 with (first | (go_at_call 13; refine (unhide HC).mono ?_; rintro e w1 ⟨⟨rfl, r1⟩, q1⟩; have HQ1 := hide q1; have HR1 := hide r1; clear q1 r1) | (go_at_call 12; refine (unhide HS _).mono ?_; rintro e w2 ⟨⟨v2, rfl, l2⟩, b2⟩; have HL2 := hide l2; have HQ2 := hide ((unhide HQ1).trans (QF.of b2)); clear l2 b2))
      obtain ⟨b, cap, rfl, g1, g2, g3, g4⟩ := unhide HL2
      rw [← unhide HN]
      clear g1 g2 g3 g4
      go_wp2_with (go_at_call 14; refine (need_no 400 _).mono ?_; rintro e w3 ⟨rfl, rfl⟩)
      exact ⟨rfl, unhide HPost _ _ ⟨rfl, unhide HQ2⟩⟩
end Go.Proofs.YtankbanonbmffabGreatDoor
