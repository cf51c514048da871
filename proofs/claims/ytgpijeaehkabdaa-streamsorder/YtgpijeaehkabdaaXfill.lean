/-
  DERIVED. The walk of filled.
-/
import Derived.Test.YtgpijeaehkabdaaXreg
namespace Go.Proofs.Ytgpijeaehkabdaa
open Go.RowKit Go.Maps
set_option linter.unusedVariables false

/-- Some index, all its memory new. -/
def FilPost (w : World) (e : Ending) (w' : World) : Prop := ∃ x I, e = .returned (.pointer (some ⟨x, 0, none⟩)) ∧ LSt w w' (fun _ => False) x 700 I
theorem LSt.back {w0 w W : World} {G : Nat → Prop} {x N : Nat} {I : Ix} (h : LSt w W G x N I) (hb : Below w0.heap.size w0 w) : LSt w0 W G x N I := by
  obtain ⟨F, hi, hF⟩ := h.ix
  have := hb.size
  exact ⟨⟨F, hi, fun q hq => ⟨by have := (hF q hq).1; omega, (hF q hq).2⟩⟩, hb.trans (h.bel.mono hb.size)⟩

set_option maxRecDepth 100000 in
set_option maxHeartbeats 8000000 in
theorem filled_go (ca : Option Addr) (cn cc : Nat) (cl : List SCl) (w : World) (hc : SClL w (.slice ca cn cc) cl) :
    Calls Try.prog 20 #[.slice ca cn cc] w (FilPost w) := by
  have HC := hide hc
  obtain ⟨CN, hCN⟩ : ∃ CN, CN = cl.length := ⟨_, rfl⟩
  obtain rfl : cn = CN := by obtain ⟨_, _, e, _⟩ := hc; cases e; exact hCN.symm
  have HCN := hide hCN
  have hcl : cn ≤ 9223372036854775807 := by obtain ⟨_, _, _, h, _⟩ := hc; omega
  clear hc hCN
  go_enter Try.func20, Try.ntmps20
  go_wp2_with fail
  refine (New_go w).mono ?_
  rintro e w2 hn
  obtain ⟨x, rfl, _⟩ := id hn
  have ST0 : Hid (LSt w w2 (fun _ => False) x (17 * 0) Ix.new) := hide ((LSt.new (Below.refl _ w) hn).less (fun q hq => hq.elim))
  clear hn
  go_wp2
  go_loopw [4] (fun i wr => ∃ (j : Nat) (I : Ix), i = .int .i64 (j : Int) ∧ j ≤ 40 ∧ j ≤ cn ∧ Hid (LSt w wr (fun _ => False) x (17 * j) I)) (fun i _ => 40 - (intOf i).toNat)
  case atStart => exact ⟨0, _, rfl, by omega, by omega, ST0⟩
  case round =>
    obtain ⟨j, I, rfl, hj, hjn, ST⟩ := hrel
    clear ST0
    by_cases hlt : j < cn ∧ j < 40
    · obtain ⟨hl1, hl2⟩ := hlt
      have hjl : j < cl.length := by have := unhide HCN; omega
      obtain ⟨ao', cap', e', _, h4⟩ := unhide HC
      obtain ⟨b, off, hea, hb, hcc⟩ := h4 (by omega)
      injection e' with q1 q2 q3
      subst q1
      clear q2 q3
      obtain ⟨c, hcj⟩ : ∃ c, c = cl[j] := ⟨_, rfl⟩
      have hat := hcc j hjl
      rw [← hcj] at hat
      clear hcc h4 hcj
      subst hea
      obtain ⟨cs, ck, ce⟩ := c
      obtain ⟨g1, g2, ⟨ea, en, ec, g5, g6⟩, s1, s2, fit⟩ := hat
      simp only at g1 g2 g5 g6 s1 s2 fit
      have hbel := (unhide ST).bel
      have d1 := (hbel.cell (p := ⟨b, off + j * 10 + 1, none⟩) hb).trans g1
      have d2 := (hbel.cell (p := ⟨b, off + j * 10 + 2, none⟩) hb).trans g2
      have d5 := (hbel.cell (p := ⟨b, off + j * 10 + 5, none⟩) hb).trans g5
      have hbw : b < wr.heap.size := Nat.lt_of_lt_of_le hb hbel.size
      clear g1 g2 g5 hbel
      have hgl : ∀ q, (fun _ : Nat => False) q → q < wr.heap.size := fun q hq => hq.elim
      have HGL := hide hgl
      have SD : Hid (wr.drew.cell? ⟨b, off + j * 10 + 1, none⟩ = some (sv cs) ∧ wr.drew.cell? ⟨b, off + j * 10 + 2, none⟩ = some (sv ck) ∧ wr.drew.cell? ⟨b, off + j * 10 + 5, none⟩ = some (.slice ea en ec)) := hide ⟨d1, d2, d5⟩
      have SV : Hid (∀ V, Below wr.heap.size wr V → V.cell? ⟨b, off + j * 10 + 1, none⟩ = some (sv cs) ∧ V.cell? ⟨b, off + j * 10 + 2, none⟩ = some (sv ck) ∧ V.cell? ⟨b, off + j * 10 + 5, none⟩ = some (.slice ea en ec)) := hide (fun V hV => ⟨(hV.cell (p := ⟨b, off + j * 10 + 1, none⟩) hbw).trans d1, (hV.cell (p := ⟨b, off + j * 10 + 2, none⟩) hbw).trans d2, (hV.cell (p := ⟨b, off + j * 10 + 5, none⟩) hbw).trans d5⟩)
      have HFT := hide (And.intro s1 (And.intro s2 fit))
      have R0 := hide (RSt.start wr)
      have RA : Hid (RSt wr (wr.alloc zApp).drew (some wr.heap.size) none) := hide (unhide R0).allocA
      have RB : Hid (RSt wr (wr.alloc zBt).drew none (some wr.heap.size)) := hide (unhide R0).allocB
      have RAB : Hid (RSt wr ((wr.alloc zApp).alloc zBt).drew (some wr.heap.size) (some (wr.alloc zApp).heap.size)) := hide (unhide R0).allocA.allocB
      have RBA : Hid (RSt wr ((wr.alloc zBt).alloc zApp).drew (some (wr.alloc zBt).heap.size) (some wr.heap.size)) := hide (unhide R0).allocB.allocA
      have RAB1 : Hid (RSt wr ((wr.alloc zApp).alloc zBt).drew (some wr.heap.size) (some (wr.heap.size + 1))) := hide (by have := unhide RAB; rwa [alloc_two] at this)
      have RBA1 : Hid (RSt wr ((wr.alloc zBt).alloc zApp).drew (some (wr.heap.size + 1)) (some wr.heap.size)) := hide (by have := unhide RBA; rwa [alloc_two] at this)
      have SA := hide (unhide SV _ (unhide RA).bel)
      have SB := hide (unhide SV _ (unhide RB).bel)
      have SAB := hide (unhide SV _ (unhide RAB).bel)
      have SBA := hide (unhide SV _ (unhide RBA).bel)
      clear hgl
      go_upto_region 7 with fail
      go_cut [5, 6, 7] from 11 to 55 (fun t19 t20 t21 wx => TrR w wr (fun _ => False) x (17 * j) I cs ck ce t19 t20 t21 wx)
      case first =>
        by_cases hok : tryOk I cs (-1) ck ce
        · have C := hide (fun V hV => (unhide ST).try_ok cs s1 (-1) ck s2 ea en ec ce g6 fit hok V hV)
          have HOK2 := hide hok
          obtain ⟨vs, hvs⟩ : ∃ vs : Nat, vs = I.ver cs := ⟨_, rfl⟩
          obtain ⟨al, hal⟩ : ∃ al : Nat, al = I.all.length := ⟨_, rfl⟩
          obtain ⟨en2, hen2⟩ : ∃ en2 : Nat, en2 = ce.length := ⟨_, rfl⟩
          have HVS := hide hvs
          have HEN2 := hide hen2
          rw [← hvs, ← hal, ← hen2] at C
          clear hok d1 d2 d5 s1 s2 fit g6 hvs hal hen2
          have C0 := hide (unhide C _ (unhide R0).bel)
          have CA := hide (unhide C _ (unhide RA).bel)
          have CB := hide (unhide C _ (unhide RB).bel)
          have CAB := hide (unhide C _ (unhide RAB).bel)
          have CBA := hide (unhide C _ (unhide RBA).bel)
          clear C
          go_region_held3 (fun w' => w'.cell? ⟨b, off + j * 10 + 1, none⟩ = some (sv cs) ∧ w'.cell? ⟨b, off + j * 10 + 2, none⟩ = some (sv ck) ∧ w'.cell? ⟨b, off + j * 10 + 5, none⟩ = some (.slice ea en ec))
            (first | with_reducible exact unhide SD | with_reducible exact unhide SA | with_reducible exact unhide SB | with_reducible exact unhide SAB | with_reducible exact unhide SBA | with_reducible exact unhide S1 | with_reducible exact keepA (unhide S1) | with_reducible exact keepA (keepA (unhide S1)) | with_reducible exact keepA (by assumption) | with_reducible exact keepS (by simp <;> omega) (by assumption))
            ((go_at_call 11; (first
              | (with_reducible refine (unhide C0).mono ?_; have RV := R0; rintro e w6 ⟨q, ys, rfl, b6, g6⟩; have R6 := hide ((unhide RV).next b6); have G6 := hide g6; have S1 := hide (unhide SV w6 (unhide R6).bel); have zv := hide (unhide RV).bel.size; have z6 : wr.heap.size ≤ w6.heap.size := (unhide R6).bel.size; clear b6 g6; obtain ⟨n0, n1, n2, n3, n4⟩ := ((((unhide R6).allocB.next ((Below.refl _ _).alloc (Nat.le_refl _) (.cells (apV vs al en2 false) 27))).bbox)).cells)
              | (with_reducible refine (unhide CA).mono ?_; have RV := RA; rintro e w6 ⟨q, ys, rfl, b6, g6⟩; have R6 := hide ((unhide RV).next b6); have G6 := hide g6; have S1 := hide (unhide SV w6 (unhide R6).bel); have zv := hide (unhide RV).bel.size; have z6 : wr.heap.size ≤ w6.heap.size := (unhide R6).bel.size; clear b6 g6; obtain ⟨m0, m1, m2, m3, m4⟩ := ((unhide R6).allocB.abox).cells; obtain ⟨n0, n1, n2, n3, n4⟩ := (((unhide R6).allocB.bbox).other (q := wr.heap.size) (Nat.ne_of_gt (unhide R6).alt) (vs : Int) (al : Int) (en2 : Int) false).cells)
              | (with_reducible refine (unhide CB).mono ?_; have RV := RB; rintro e w6 ⟨q, ys, rfl, b6, g6⟩; have R6 := hide ((unhide RV).next b6); have G6 := hide g6; have S1 := hide (unhide SV w6 (unhide R6).bel); have zv := hide (unhide RV).bel.size; have z6 : wr.heap.size ≤ w6.heap.size := (unhide R6).bel.size; clear b6 g6; obtain ⟨n0, n1, n2, n3, n4⟩ := (((unhide R6).next ((Below.refl _ _).alloc (Nat.le_refl _) (.cells (apV vs al en2 false) 27))).bbox).cells)
              | (with_reducible refine (unhide CAB).mono ?_; have RV := RAB1; rintro e w6 ⟨q, ys, rfl, b6, g6⟩; have R6 := hide ((unhide RV).next b6); have G6 := hide g6; have S1 := hide (unhide SV w6 (unhide R6).bel); have zv := hide (unhide RV).bel.size; have z6 : wr.heap.size ≤ w6.heap.size := (unhide R6).bel.size; clear b6 g6; obtain ⟨m0, m1, m2, m3, m4⟩ := ((unhide R6).abox).cells; obtain ⟨n0, n1, n2, n3, n4⟩ := (((unhide R6).bbox).other (q := wr.heap.size) (by omega) (vs : Int) (al : Int) (en2 : Int) false).cells)
              | (with_reducible refine (unhide CBA).mono ?_; have RV := RBA1; rintro e w6 ⟨q, ys, rfl, b6, g6⟩; have R6 := hide ((unhide RV).next b6); have G6 := hide g6; have S1 := hide (unhide SV w6 (unhide R6).bel); have zv := hide (unhide RV).bel.size; have z6 : wr.heap.size ≤ w6.heap.size := (unhide R6).bel.size; clear b6 g6; obtain ⟨m0, m1, m2, m3, m4⟩ := ((unhide R6).abox).cells; obtain ⟨n0, n1, n2, n3, n4⟩ := (((unhide R6).bbox).other (q := wr.heap.size + 1) (by omega) (vs : Int) (al : Int) (en2 : Int) false).cells))))
          all_goals go_wp2
          all_goals go_meet
          all_goals
            obtain rfl := unhide HVS
            obtain rfl := unhide HEN2
          all_goals first
            | with_reducible exact TrR.okAB (unhide ST) (unhide HGL) (unhide R6).bel (unhide HOK2) (unhide zv) (unhide G6) _ _ _ _
            | with_reducible exact TrR.okBA (unhide ST) (unhide HGL) (unhide R6).bel (unhide HOK2) (unhide zv) (unhide G6) _ _ _ _
            | with_reducible exact TrR.okB (unhide ST) (unhide HGL) (unhide R6) (unhide HOK2) (unhide zv) (unhide G6) _ _ _ _
            | with_reducible exact TrR.ok (unhide ST) (unhide HGL) (unhide R6).allocB (unhide HOK2) (unhide zv) (unhide G6) ((Below.refl _ _).alloc (Nat.le_refl _) _) _ _ _ _
            | with_reducible exact TrR.ok (unhide ST) (unhide HGL) (unhide R6) (unhide HOK2) (unhide zv) (unhide G6) (Below.refl _ _) _ _ _ _
        · obtain ⟨f, p, c, t, err, hA, hbad⟩ := tryA_bad hok
          have C := hide (fun V hV => (unhide ST).try_bad cs s1 (-1) ck s2 ea en ec ce g6 fit f p c t err hA hbad V hV)
          have HOK2 := hide hok
          clear hok d1 d2 d5 s1 s2 fit g6 hA hbad
          have C0 := hide (unhide C _ (unhide R0).bel)
          have CA := hide (unhide C _ (unhide RA).bel)
          have CB := hide (unhide C _ (unhide RB).bel)
          have CAB := hide (unhide C _ (unhide RAB).bel)
          have CBA := hide (unhide C _ (unhide RBA).bel)
          clear C
          go_region_held3 (fun w' => w'.cell? ⟨b, off + j * 10 + 1, none⟩ = some (sv cs) ∧ w'.cell? ⟨b, off + j * 10 + 2, none⟩ = some (sv ck) ∧ w'.cell? ⟨b, off + j * 10 + 5, none⟩ = some (.slice ea en ec))
            (first | with_reducible exact unhide SD | with_reducible exact unhide SA | with_reducible exact unhide SB | with_reducible exact unhide SAB | with_reducible exact unhide SBA | with_reducible exact unhide S1 | with_reducible exact keepA (unhide S1) | with_reducible exact keepA (keepA (unhide S1)) | with_reducible exact keepA (by assumption) | with_reducible exact keepS (by simp <;> omega) (by assumption))
            ((go_at_call 11; (first
              | (with_reducible refine (unhide C0).mono ?_; have RV := R0; rintro e w6 ⟨rfl, b6⟩; have R6 := hide ((unhide RV).next b6); have S1 := hide (unhide SV w6 (unhide R6).bel); have zv := hide (unhide RV).bel.size; have z6 : wr.heap.size ≤ w6.heap.size := (unhide R6).bel.size; clear b6; obtain ⟨n0, n1, n2, n3, n4⟩ := ((((unhide R6).allocB.next ((Below.refl _ _).alloc (Nat.le_refl _) (.cells (apV f p c t) 27))).bbox)).cells)
              | (with_reducible refine (unhide CA).mono ?_; have RV := RA; rintro e w6 ⟨rfl, b6⟩; have R6 := hide ((unhide RV).next b6); have S1 := hide (unhide SV w6 (unhide R6).bel); have zv := hide (unhide RV).bel.size; have z6 : wr.heap.size ≤ w6.heap.size := (unhide R6).bel.size; clear b6; obtain ⟨m0, m1, m2, m3, m4⟩ := ((unhide R6).allocB.abox).cells; obtain ⟨n0, n1, n2, n3, n4⟩ := (((unhide R6).allocB.bbox).other (q := wr.heap.size) (Nat.ne_of_gt (unhide R6).alt) f p c t).cells)
              | (with_reducible refine (unhide CB).mono ?_; have RV := RB; rintro e w6 ⟨rfl, b6⟩; have R6 := hide ((unhide RV).next b6); have S1 := hide (unhide SV w6 (unhide R6).bel); have zv := hide (unhide RV).bel.size; have z6 : wr.heap.size ≤ w6.heap.size := (unhide R6).bel.size; clear b6; obtain ⟨n0, n1, n2, n3, n4⟩ := (((unhide R6).next ((Below.refl _ _).alloc (Nat.le_refl _) (.cells (apV f p c t) 27))).bbox).cells)
              | (with_reducible refine (unhide CAB).mono ?_; have RV := RAB1; rintro e w6 ⟨rfl, b6⟩; have R6 := hide ((unhide RV).next b6); have S1 := hide (unhide SV w6 (unhide R6).bel); have zv := hide (unhide RV).bel.size; have z6 : wr.heap.size ≤ w6.heap.size := (unhide R6).bel.size; clear b6; obtain ⟨m0, m1, m2, m3, m4⟩ := ((unhide R6).abox).cells; obtain ⟨n0, n1, n2, n3, n4⟩ := (((unhide R6).bbox).other (q := wr.heap.size) (by omega) f p c t).cells)
              | (with_reducible refine (unhide CBA).mono ?_; have RV := RBA1; rintro e w6 ⟨rfl, b6⟩; have R6 := hide ((unhide RV).next b6); have S1 := hide (unhide SV w6 (unhide R6).bel); have zv := hide (unhide RV).bel.size; have z6 : wr.heap.size ≤ w6.heap.size := (unhide R6).bel.size; clear b6; obtain ⟨m0, m1, m2, m3, m4⟩ := ((unhide R6).abox).cells; obtain ⟨n0, n1, n2, n3, n4⟩ := (((unhide R6).bbox).other (q := wr.heap.size + 1) (by omega) f p c t).cells))))
          all_goals go_wp2
          all_goals go_meet
          all_goals first
            | with_reducible exact TrR.badAB (unhide ST) (unhide HGL) (unhide R6).bel (unhide HOK2) _ _ _ _ _
            | with_reducible exact TrR.badBA (unhide ST) (unhide HGL) (unhide R6).bel (unhide HOK2) _ _ _ _ _
            | with_reducible exact TrR.badB (unhide ST) (unhide HGL) (unhide R6) (unhide HOK2) _ _ _ _ _
            | with_reducible exact TrR.bad (unhide ST) (unhide HGL) (unhide R6).allocB (unhide HOK2) _ _ _ _ _
            | with_reducible exact TrR.bad (unhide ST) (unhide HGL) (unhide R6) (unhide HOK2) _ _ _ _ _
      case rest =>
        obtain ⟨ab2, bb, rfl, rfl, hcase, hG⟩ := hcut
        obtain ⟨W7, hW7⟩ : ∃ W7, W7 = wc := ⟨_, rfl⟩
        rw [← hW7] at hcase hG ⊢
        clear hW7
        clear hG ST HGL SD SV R0 RA RB RAB RBA RAB1 RBA1 SA SB SAB SBA d1 d2 d5 g6
        rcases hcase with ⟨hok, rfl, q7, hB, hH, h1⟩ | ⟨hok, hB, hL, err, rfl⟩
        · have hl16 := hok.2.2.1.2.1
          have CA7 := hide ((hH.less (G' := fun _ => False) (fun q hq => hq.elim)).add cs s1 ck s2 fit hok (by omega) (fun q hq => hq.elim))
          obtain ⟨vs, hvs⟩ : ∃ vs : Nat, vs = I.ver cs := ⟨_, rfl⟩
          obtain ⟨en2, hen2⟩ : ∃ en2 : Nat, en2 = ce.length := ⟨_, rfl⟩
          rw [← hvs, ← hen2] at hB
          rw [← hvs, ← hen2] at CA7
          rw [← hen2] at hl16 h1
          have hgt : decide ((0 : Int) < (en2 : Int)) = true := decide_eq_true (by omega)
          obtain ⟨c0, c1, c2, c3, c4⟩ := hB.cells
          clear hok hB hH hvs hen2 s1 s2 fit
          go_wp2_with fail
          refine (unhide CA7).mono ?_
          rintro e w8 ⟨rfl, st8, k8⟩
          have ST8 : Hid (LSt w w8 (fun _ => False) x (17 * (j + 1)) (I.added cs ck vs ce)) := hide (st8.more (by omega))
          clear st8 k8 CA7 c0 c1 c2 c3 c4
          go_wp2
          go_roundw
          case rel => exact ⟨j + 1, _, by go_num, by omega, by omega, ST8⟩
          case measure => simp [intOf]; omega
        · have ST8 : Hid (LSt w W7 (fun _ => False) x (17 * (j + 1)) I) := hide (hL.more (by omega))
          obtain ⟨c0, c1, c2, c3, c4⟩ := hB.cells
          clear hok hB hL s1 s2 fit
          by_cases he : err = 0
          · subst he
            go_wp2
            go_roundw
            case rel => exact ⟨j + 1, _, by go_num, by omega, by omega, ST8⟩
            case measure => simp [intOf]; omega
          · have hne : (err == 0) = false := beq_eq_false_iff_ne.2 he
            clear he
            go_wp2
            go_roundw
            case rel => exact ⟨j + 1, _, by go_num, by omega, by omega, ST8⟩
            case measure => simp [intOf]; omega
    · have HP : Hid (FilPost w (.returned (.pointer (some ⟨x, 0, none⟩))) wr) := hide ⟨x, I, rfl, (unhide ST).more (by omega)⟩
      have hex : decide ((j : Int) < (cn : Int)) = true → decide ((j : Int) < 40) = false := fun h => decide_eq_false (fun h2 => hlt ⟨by have := of_decide_eq_true h; omega, by omega⟩)
      clear ST
      by_cases hj1 : j < cn
      · have e1 : decide ((j : Int) < (cn : Int)) = true := decide_eq_true (by omega)
        have e2 := hex e1
        clear hex hlt
        go_wp2
        go_ret
        exact unhide HP
      · have e1 : decide ((j : Int) < (cn : Int)) = false := decide_eq_false (by omega)
        clear hex hlt
        go_wp2
        go_ret
        exact unhide HP
end Go.Proofs.Ytgpijeaehkabdaa
