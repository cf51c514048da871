/-
  StreamsAgain: for every calls it returns true, and its argument reads as before. Conditions: none.
-/
import Derived.Test.YtgomncbfhloobaaXtwo
namespace Go.Proofs.Ytgomncbfhloobaa
open Go.ChangeShapes Go.WideShapes Go.ChangeAt Go.RowKit Go.Maps
open Go.ChangeMaps (open_string shut_string)
set_option linter.unusedVariables false

set_option maxRecDepth 100000 in
set_option maxHeartbeats 8000000 in
theorem XAgain.walk (ca : Option Addr) (cn cc : Nat) (cl : List SCl) (w : World) (hc : SClL w (.slice ca cn cc) cl) :
    Calls Try.prog 8 #[.slice ca cn cc] w fun e w' => e = .returned (.bool true) ∧ Below w.heap.size w w' := by
  have HC := hide hc
  obtain ⟨CN, hCN⟩ : ∃ CN, CN = cl.length := ⟨_, rfl⟩
  obtain rfl : cn = CN := by obtain ⟨_, _, e, _⟩ := hc; cases e; exact hCN.symm
  have HCN := hide hCN
  have hcl : cn ≤ 9223372036854775807 := by obtain ⟨_, _, _, h, _⟩ := hc; omega
  clear hc hCN
  go_enter Try.func8, Try.ntmps8
  go_wp2_with fail
  refine (awake_go _).mono ?_
  rintro e w1 ⟨rfl, b1⟩
  have B1 := hide b1
  clear b1
  go_wp2_with fail
  refine (New_go w1).mono ?_
  rintro e w2 ⟨x, rfl, hx, b2⟩
  have HX := hide (And.intro hx b2)
  clear hx b2
  go_wp2_with fail
  refine (New_go w2).mono ?_
  rintro e w3 ⟨y, rfl, hy, b3⟩
  have ST0 : Hid (A2St w w3 x y (17 * 0) Ix.new) := hide (by
    have z1 := (unhide B1).size
    have z2 := (unhide HX).2.size
    have z3 := b3.size
    exact ⟨⟨_, _, (unhide HX).1.grown b3, hy, fun q hq => ⟨by omega, by omega, by omega⟩, fun q hq => ⟨by omega, hq.2⟩⟩, ((unhide B1).trans ((unhide HX).2.mono z1)).trans (b3.mono (Nat.le_trans z1 z2))⟩)
  clear hy b3 HX B1
  go_wp2
  go_loopw [6] (fun i wr => ∃ (j : Nat) (I : Ix), i = .int .i64 (j : Int) ∧ j ≤ 40 ∧ j ≤ cn ∧ Hid (A2St w wr x y (17 * j) I)) (fun i _ => 40 - (intOf i).toNat)
  case atStart => exact ⟨0, _, rfl, by omega, by omega, ST0⟩
  case round =>
    obtain ⟨j, I, rfl, hj, hjn, ST⟩ := hrel
    clear ST0
    by_cases hlt : j < cn ∧ j < 40
    · obtain ⟨hl1, hl2⟩ := hlt
      have hjl : j < cl.length := by have := unhide HCN; omega
      obtain ⟨ao', cap', e', _, h4⟩ := unhide HC
      obtain ⟨b, off, hea, hb, hcc⟩ := h4 (by omega)
      injection e' with q1 q2 q3
      subst q1
      clear q2 q3
      obtain ⟨c, hcj⟩ : ∃ c, c = cl[j] := ⟨_, rfl⟩
      have hat := hcc j hjl
      rw [← hcj] at hat
      clear hcc h4 hcj
      subst hea
      obtain ⟨cs, ck, ce⟩ := c
      obtain ⟨g1, g2, ⟨ea, en, ec, g5, g6⟩, s1, s2, fit⟩ := hat
      simp only at g1 g2 g5 g6 s1 s2 fit
      have hbel := (unhide ST).bel
      have d1 := (hbel.cell (p := ⟨b, off + j * 10 + 1, none⟩) hb).trans g1
      have d2 := (hbel.cell (p := ⟨b, off + j * 10 + 2, none⟩) hb).trans g2
      have d5 := (hbel.cell (p := ⟨b, off + j * 10 + 5, none⟩) hb).trans g5
      have hbw : b < wr.heap.size := Nat.lt_of_lt_of_le hb hbel.size
      clear g1 g2 g5 hbel
      have SD : Hid (wr.drew.cell? ⟨b, off + j * 10 + 1, none⟩ = some (sv cs) ∧ wr.drew.cell? ⟨b, off + j * 10 + 2, none⟩ = some (sv ck) ∧ wr.drew.cell? ⟨b, off + j * 10 + 5, none⟩ = some (.slice ea en ec)) := hide ⟨d1, d2, d5⟩
      have SV : Hid (∀ V, Below wr.heap.size wr V → V.cell? ⟨b, off + j * 10 + 1, none⟩ = some (sv cs) ∧ V.cell? ⟨b, off + j * 10 + 2, none⟩ = some (sv ck) ∧ V.cell? ⟨b, off + j * 10 + 5, none⟩ = some (.slice ea en ec)) := hide (fun V hV => ⟨(hV.cell (p := ⟨b, off + j * 10 + 1, none⟩) hbw).trans d1, (hV.cell (p := ⟨b, off + j * 10 + 2, none⟩) hbw).trans d2, (hV.cell (p := ⟨b, off + j * 10 + 5, none⟩) hbw).trans d5⟩)
      have HFT := hide (And.intro s1 (And.intro s2 fit))
      have R0 := hide (RSt.start wr)
      have RA : Hid (RSt wr (wr.alloc zApp).drew (some wr.heap.size) none) := hide (unhide R0).allocA
      have RB : Hid (RSt wr (wr.alloc zBt).drew none (some wr.heap.size)) := hide (unhide R0).allocB
      have RAB : Hid (RSt wr ((wr.alloc zApp).alloc zBt).drew (some wr.heap.size) (some (wr.alloc zApp).heap.size)) := hide (unhide R0).allocA.allocB
      have RBA : Hid (RSt wr ((wr.alloc zBt).alloc zApp).drew (some (wr.alloc zBt).heap.size) (some wr.heap.size)) := hide (unhide R0).allocB.allocA
      have RAB1 : Hid (RSt wr ((wr.alloc zApp).alloc zBt).drew (some wr.heap.size) (some (wr.heap.size + 1))) := hide (by have := unhide RAB; rwa [alloc_two] at this)
      have RBA1 : Hid (RSt wr ((wr.alloc zBt).alloc zApp).drew (some (wr.heap.size + 1)) (some wr.heap.size)) := hide (by have := unhide RBA; rwa [alloc_two] at this)
      have SA := hide (unhide SV _ (unhide RA).bel)
      have SB := hide (unhide SV _ (unhide RB).bel)
      have SAB := hide (unhide SV _ (unhide RAB).bel)
      have SBA := hide (unhide SV _ (unhide RBA).bel)
      go_upto_region 9 with fail
      go_cut [7, 8, 9] from 28 to 96 (fun t19 t20 t21 wx => TrB wr I cs ck ce t19 t20 t21 wx)
      case first =>
        by_cases hok : tryOk I cs (-1) ck ce
        · have C := hide (fun V hV => (unhide ST).lx.try_ok cs s1 (-1) ck s2 ea en ec ce g6 fit hok V hV)
          have HOK2 := hide hok
          obtain ⟨vs, hvs⟩ : ∃ vs : Nat, vs = I.ver cs := ⟨_, rfl⟩
          obtain ⟨al, hal⟩ : ∃ al : Nat, al = I.all.length := ⟨_, rfl⟩
          obtain ⟨en2, hen2⟩ : ∃ en2 : Nat, en2 = ce.length := ⟨_, rfl⟩
          have HVS := hide hvs
          have HEN2 := hide hen2
          rw [← hvs, ← hal, ← hen2] at C
          clear hok d1 d2 d5 s1 s2 fit g6 hvs hal hen2
          have C0 := hide (unhide C _ (unhide R0).bel)
          have CA := hide (unhide C _ (unhide RA).bel)
          have CB := hide (unhide C _ (unhide RB).bel)
          have CAB := hide (unhide C _ (unhide RAB).bel)
          have CBA := hide (unhide C _ (unhide RBA).bel)
          clear C
          go_region_held3 (fun w' => w'.cell? ⟨b, off + j * 10 + 1, none⟩ = some (sv cs) ∧ w'.cell? ⟨b, off + j * 10 + 2, none⟩ = some (sv ck) ∧ w'.cell? ⟨b, off + j * 10 + 5, none⟩ = some (.slice ea en ec))
            (first | with_reducible exact unhide SD | with_reducible exact unhide SA | with_reducible exact unhide SB | with_reducible exact unhide SAB | with_reducible exact unhide SBA | with_reducible exact unhide S1 | with_reducible exact keepA (unhide S1) | with_reducible exact keepA (keepA (unhide S1)) | with_reducible exact keepA (by assumption) | with_reducible exact keepS (by simp <;> omega) (by assumption))
            ((go_at_call 11; (first
              | (with_reducible refine (unhide C0).mono ?_; have RV := R0; rintro e w6 ⟨q, ys, rfl, b6, g6⟩; have R6 := hide ((unhide RV).next b6); have G6 := hide g6; have S1 := hide (unhide SV w6 (unhide R6).bel); have zv := hide (unhide RV).bel.size; have z6 : wr.heap.size ≤ w6.heap.size := (unhide R6).bel.size; clear b6 g6; obtain ⟨n0, n1, n2, n3, n4⟩ := ((((unhide R6).allocB.next ((Below.refl _ _).alloc (Nat.le_refl _) (.cells (apV vs al en2 false) 27))).bbox)).cells)
              | (with_reducible refine (unhide CA).mono ?_; have RV := RA; rintro e w6 ⟨q, ys, rfl, b6, g6⟩; have R6 := hide ((unhide RV).next b6); have G6 := hide g6; have S1 := hide (unhide SV w6 (unhide R6).bel); have zv := hide (unhide RV).bel.size; have z6 : wr.heap.size ≤ w6.heap.size := (unhide R6).bel.size; clear b6 g6; obtain ⟨m0, m1, m2, m3, m4⟩ := ((unhide R6).allocB.abox).cells; obtain ⟨n0, n1, n2, n3, n4⟩ := (((unhide R6).allocB.bbox).other (q := wr.heap.size) (Nat.ne_of_gt (unhide R6).alt) (vs : Int) (al : Int) (en2 : Int) false).cells)
              | (with_reducible refine (unhide CB).mono ?_; have RV := RB; rintro e w6 ⟨q, ys, rfl, b6, g6⟩; have R6 := hide ((unhide RV).next b6); have G6 := hide g6; have S1 := hide (unhide SV w6 (unhide R6).bel); have zv := hide (unhide RV).bel.size; have z6 : wr.heap.size ≤ w6.heap.size := (unhide R6).bel.size; clear b6 g6; obtain ⟨n0, n1, n2, n3, n4⟩ := (((unhide R6).next ((Below.refl _ _).alloc (Nat.le_refl _) (.cells (apV vs al en2 false) 27))).bbox).cells)
              | (with_reducible refine (unhide CAB).mono ?_; have RV := RAB1; rintro e w6 ⟨q, ys, rfl, b6, g6⟩; have R6 := hide ((unhide RV).next b6); have G6 := hide g6; have S1 := hide (unhide SV w6 (unhide R6).bel); have zv := hide (unhide RV).bel.size; have z6 : wr.heap.size ≤ w6.heap.size := (unhide R6).bel.size; clear b6 g6; obtain ⟨m0, m1, m2, m3, m4⟩ := ((unhide R6).abox).cells; obtain ⟨n0, n1, n2, n3, n4⟩ := (((unhide R6).bbox).other (q := wr.heap.size) (by omega) (vs : Int) (al : Int) (en2 : Int) false).cells)
              | (with_reducible refine (unhide CBA).mono ?_; have RV := RBA1; rintro e w6 ⟨q, ys, rfl, b6, g6⟩; have R6 := hide ((unhide RV).next b6); have G6 := hide g6; have S1 := hide (unhide SV w6 (unhide R6).bel); have zv := hide (unhide RV).bel.size; have z6 : wr.heap.size ≤ w6.heap.size := (unhide R6).bel.size; clear b6 g6; obtain ⟨m0, m1, m2, m3, m4⟩ := ((unhide R6).abox).cells; obtain ⟨n0, n1, n2, n3, n4⟩ := (((unhide R6).bbox).other (q := wr.heap.size + 1) (by omega) (vs : Int) (al : Int) (en2 : Int) false).cells))))
          all_goals go_wp2
          all_goals go_meet
          all_goals
            obtain rfl := unhide HVS
            obtain rfl := unhide HEN2
          all_goals first
            | with_reducible exact TrB.okAB (unhide R6).bel (unhide HOK2) (unhide zv) (unhide G6) _ _ _ _
            | with_reducible exact TrB.okBA (unhide R6).bel (unhide HOK2) (unhide zv) (unhide G6) _ _ _ _
            | with_reducible exact TrB.okB (unhide R6) (unhide HOK2) (unhide zv) (unhide G6) _ _ _ _
            | with_reducible exact TrB.ok (unhide R6).allocB (unhide HOK2) (unhide zv) (unhide G6) ((Below.refl _ _).alloc (Nat.le_refl _) _) _ _ _ _
            | with_reducible exact TrB.ok (unhide R6) (unhide HOK2) (unhide zv) (unhide G6) (Below.refl _ _) _ _ _ _
        · obtain ⟨f, p, c, t, err, hA, hbad⟩ := tryA_bad hok
          have C := hide (fun V hV => (unhide ST).lx.try_bad cs s1 (-1) ck s2 ea en ec ce g6 fit f p c t err hA hbad V hV)
          have HOK2 := hide hok
          clear hok d1 d2 d5 s1 s2 fit g6 hA hbad
          have C0 := hide (unhide C _ (unhide R0).bel)
          have CA := hide (unhide C _ (unhide RA).bel)
          have CB := hide (unhide C _ (unhide RB).bel)
          have CAB := hide (unhide C _ (unhide RAB).bel)
          have CBA := hide (unhide C _ (unhide RBA).bel)
          clear C
          go_region_held3 (fun w' => w'.cell? ⟨b, off + j * 10 + 1, none⟩ = some (sv cs) ∧ w'.cell? ⟨b, off + j * 10 + 2, none⟩ = some (sv ck) ∧ w'.cell? ⟨b, off + j * 10 + 5, none⟩ = some (.slice ea en ec))
            (first | with_reducible exact unhide SD | with_reducible exact unhide SA | with_reducible exact unhide SB | with_reducible exact unhide SAB | with_reducible exact unhide SBA | with_reducible exact unhide S1 | with_reducible exact keepA (unhide S1) | with_reducible exact keepA (keepA (unhide S1)) | with_reducible exact keepA (by assumption) | with_reducible exact keepS (by simp <;> omega) (by assumption))
            ((go_at_call 11; (first
              | (with_reducible refine (unhide C0).mono ?_; have RV := R0; rintro e w6 ⟨rfl, b6⟩; have R6 := hide ((unhide RV).next b6); have S1 := hide (unhide SV w6 (unhide R6).bel); have zv := hide (unhide RV).bel.size; have z6 : wr.heap.size ≤ w6.heap.size := (unhide R6).bel.size; clear b6; obtain ⟨n0, n1, n2, n3, n4⟩ := ((((unhide R6).allocB.next ((Below.refl _ _).alloc (Nat.le_refl _) (.cells (apV f p c t) 27))).bbox)).cells)
              | (with_reducible refine (unhide CA).mono ?_; have RV := RA; rintro e w6 ⟨rfl, b6⟩; have R6 := hide ((unhide RV).next b6); have S1 := hide (unhide SV w6 (unhide R6).bel); have zv := hide (unhide RV).bel.size; have z6 : wr.heap.size ≤ w6.heap.size := (unhide R6).bel.size; clear b6; obtain ⟨m0, m1, m2, m3, m4⟩ := ((unhide R6).allocB.abox).cells; obtain ⟨n0, n1, n2, n3, n4⟩ := (((unhide R6).allocB.bbox).other (q := wr.heap.size) (Nat.ne_of_gt (unhide R6).alt) f p c t).cells)
              | (with_reducible refine (unhide CB).mono ?_; have RV := RB; rintro e w6 ⟨rfl, b6⟩; have R6 := hide ((unhide RV).next b6); have S1 := hide (unhide SV w6 (unhide R6).bel); have zv := hide (unhide RV).bel.size; have z6 : wr.heap.size ≤ w6.heap.size := (unhide R6).bel.size; clear b6; obtain ⟨n0, n1, n2, n3, n4⟩ := (((unhide R6).next ((Below.refl _ _).alloc (Nat.le_refl _) (.cells (apV f p c t) 27))).bbox).cells)
              | (with_reducible refine (unhide CAB).mono ?_; have RV := RAB1; rintro e w6 ⟨rfl, b6⟩; have R6 := hide ((unhide RV).next b6); have S1 := hide (unhide SV w6 (unhide R6).bel); have zv := hide (unhide RV).bel.size; have z6 : wr.heap.size ≤ w6.heap.size := (unhide R6).bel.size; clear b6; obtain ⟨m0, m1, m2, m3, m4⟩ := ((unhide R6).abox).cells; obtain ⟨n0, n1, n2, n3, n4⟩ := (((unhide R6).bbox).other (q := wr.heap.size) (by omega) f p c t).cells)
              | (with_reducible refine (unhide CBA).mono ?_; have RV := RBA1; rintro e w6 ⟨rfl, b6⟩; have R6 := hide ((unhide RV).next b6); have S1 := hide (unhide SV w6 (unhide R6).bel); have zv := hide (unhide RV).bel.size; have z6 : wr.heap.size ≤ w6.heap.size := (unhide R6).bel.size; clear b6; obtain ⟨m0, m1, m2, m3, m4⟩ := ((unhide R6).abox).cells; obtain ⟨n0, n1, n2, n3, n4⟩ := (((unhide R6).bbox).other (q := wr.heap.size + 1) (by omega) f p c t).cells))))
          all_goals go_wp2
          all_goals go_meet
          all_goals first
            | with_reducible exact TrB.badAB (unhide R6).bel (unhide HOK2) _ _ _ _ _
            | with_reducible exact TrB.badBA (unhide R6).bel (unhide HOK2) _ _ _ _ _
            | with_reducible exact TrB.badB (unhide R6) (unhide HOK2) _ _ _ _ _
            | with_reducible exact TrB.bad (unhide R6).allocB (unhide HOK2) _ _ _ _ _
            | with_reducible exact TrB.bad (unhide R6) (unhide HOK2) _ _ _ _ _
      case rest =>
        obtain ⟨ab2, bb, rfl, rfl, hb7, hbb, hcase⟩ := hcut
        obtain ⟨W7, hW7⟩ : ∃ W7, W7 = wc := ⟨_, rfl⟩
        rw [← hW7] at hcase hb7 ⊢
        clear hW7 SD SV R0 RA RB RAB RBA RAB1 RBA1 SA SB SAB SBA d1 d2 d5 g6
        rcases hcase with ⟨hok, rfl, q7, ys, hB, hk7, he7, hy7, hq7⟩ | ⟨hok, hB, err, rfl⟩
        · have hl16 := hok.2.2.1.2.1
          have h1 := hok.2.2.1.1
          have CA7 := hide ((unhide ST).adds hb7 hB hbb hk7 he7 hy7 hq7 hok s1 s2 fit (by omega))
          have HK1 : Hid (∀ F W, IxAt W F y (17 * j + 1 + ce.length) (I.added cs ck (I.ver cs) ce) → EvL W (.slice (some ⟨q7, 0, none⟩) ce.length ce.length) ce → Calls Try.prog 12 #[.pointer (some ⟨y, 0, none⟩), .agg (bt cs ck (I.ver cs : Nat) (some ⟨q7, 0, none⟩) ce.length ce.length)] W fun e w' => e = .returned (.int .i64 (if ck = [] then 103 else 101)) ∧ Below W.heap.size W w') := hide (fun F W hi hv => Add_bad hi cs s1 _ ck s2 _ _ _ ce hv fit _ (chk_again hok) (by split <;> decide))
          obtain ⟨vs, hvs⟩ : ∃ vs : Nat, vs = I.ver cs := ⟨_, rfl⟩
          obtain ⟨en2, hen2⟩ : ∃ en2 : Nat, en2 = ce.length := ⟨_, rfl⟩
          rw [← hvs, ← hen2] at hB
          rw [← hvs, ← hen2] at CA7 HK1
          rw [← hen2] at hl16 h1
          have hgt : ((en2 : Int) == 0) = false := beq_eq_false_iff_ne.2 (by omega)
          obtain ⟨c0, c1, c2, c3, c4⟩ := hB.cells
          clear hok hB hvs hen2 s1 s2 fit hb7 hbb hk7 he7 hy7 hq7 ST
          go_wp2_with fail
          refine (unhide CA7).mono ?_
          clear CA7
          rintro e W8 ⟨rfl, hB8, C8⟩
          have C8' := hide C8
          obtain ⟨d0, d1, d2, d3, d4⟩ := hB8.cells
          clear C8 c0 c1 c2 c3 c4 hB8
          go_wp2_with fail
          refine (unhide C8').mono ?_
          clear C8'
          rintro e W9 ⟨rfl, hB9, st9, ev9⟩
          obtain ⟨f0, f1, f2, f3, f4⟩ := hB9.cells
          have CK9 : Hid (Calls Try.prog 12 #[.pointer (some ⟨y, 0, none⟩), .agg (bt cs ck (vs : Nat) (some ⟨q7, 0, none⟩) en2 en2)] W9 fun e w' => e = .returned (.int .i64 (if ck = [] then 103 else 101)) ∧ Below W9.heap.size W9 w') := hide (by obtain ⟨Fx, Fy, _, hy, _⟩ := st9.ix; exact unhide HK1 Fy W9 hy ev9)
          have ST9 := hide (st9.more (N' := 17 * (j + 1)) (by omega))
          have HB9 := hide hB9
          clear d0 d1 d2 d3 d4 hB9 st9 ev9 HK1
          by_cases hck : ck = []
          · subst hck
            rw [if_pos rfl] at CK9
            go_wp2_with fail
            refine (unhide CK9).mono ?_
            rintro e W10 ⟨rfl, b10⟩
            have ST10 := hide ((unhide ST9).grown b10)
            clear b10 ST9 CK9 f0 f1 f2 f3 f4
            go_wp2
            go_roundw
            case rel => exact ⟨j + 1, _, by go_num, by omega, by omega, ST10⟩
            case measure => simp [intOf]; omega
          · rw [if_neg hck] at CK9
            have hkb : (ck == []) = false := beq_eq_false_iff_ne.2 hck
            clear hck
            go_wp2_with fail
            refine (unhide CK9).mono ?_
            rintro e W10 ⟨rfl, b10⟩
            have ST10 := hide ((unhide ST9).grown b10)
            obtain ⟨k0, k1, k2, k3, k4⟩ := ((unhide HB9).same (b10.block _ (lt_of_block (unhide HB9)))).cells
            clear b10 ST9 CK9 f0 f1 f2 f3 f4
            go_wp2
            go_roundw
            case rel => exact ⟨j + 1, _, by go_num, by omega, by omega, ST10⟩
            case measure => simp [intOf]; omega
        · have ST8 : Hid (A2St w W7 x y (17 * (j + 1)) I) := hide (((unhide ST).grown hb7).more (by omega))
          obtain ⟨c0, c1, c2, c3, c4⟩ := hB.cells
          clear hok hB s1 s2 fit hb7 hbb ST
          by_cases he : err = 0
          · subst he
            go_wp2
            go_roundw
            case rel => exact ⟨j + 1, _, by go_num, by omega, by omega, ST8⟩
            case measure => simp [intOf]; omega
          · have hne : (err != 0) = true := by simpa [bne] using he
            clear he
            go_wp2
            go_roundw
            case rel => exact ⟨j + 1, _, by go_num, by omega, by omega, ST8⟩
            case measure => simp [intOf]; omega
    · have hex : decide ((j : Int) < (cn : Int)) = true → decide ((j : Int) < 40) = false := fun h => decide_eq_false (fun h2 => hlt ⟨by have := of_decide_eq_true h; omega, by omega⟩)
      obtain ⟨Fx, Fy, hx, hy, _⟩ := (unhide ST).ix
      have hlN : I.all.length ≤ 17 * j := (unhide ST).lx.len
      have CX := hide (All_big hx (by omega))
      have HY := hide hy
      have BL := hide (unhide ST).bel
      clear ST hx hy
      by_cases hj1 : j < cn
      · have e1 : decide ((j : Int) < (cn : Int)) = true := decide_eq_true (by omega)
        have e2 := hex e1
        clear hex hlt
        go_wp2_with fail
        refine (unhide CX).mono ?_
        clear CX
        rintro e W8 ⟨q8, zs8, rfl, st8⟩
        have CY := hide (All_big ((unhide HY).grown st8.bel) (by omega))
        have ST8 := hide st8
        clear st8
        go_wp2_with fail
        refine (unhide CY).mono ?_
        clear CY
        rintro e W9 ⟨q9, zs9, rfl, st9⟩
        have CE : Hid (Calls Try.prog 18 #[.slice (some ⟨q8, 0, none⟩) I.all.length I.all.length, .slice (some ⟨q9, 0, none⟩) I.all.length I.all.length] W9 fun e w' => e = .returned (.bool true) ∧ Below W9.heap.size W9 w') := hide (by
          have h8 := (unhide ST8).blk.grown st9.bel
          have e8 := h8.enl (unhide ST8).len (by omega)
          have e9 := st9.blk.enl st9.len (by omega)
          rw [same_ents (unhide ST8) st9] at e8
          exact SameEntries_eq _ _ _ _ _ _ _ W9 e8 e9)
        have B9 := hide (((unhide BL).trans ((unhide ST8).bel.mono (unhide BL).size)).trans (st9.bel.mono (Nat.le_trans (unhide BL).size (unhide ST8).bel.size)))
        obtain ⟨mm, hmm⟩ : ∃ mm, mm = I.all.length := ⟨_, rfl⟩
        rw [← hmm] at CE ⊢
        clear st9 ST8 HY BL hmm
        go_wp2_with fail
        refine (unhide CE).mono ?_
        clear CE
        rintro e W10 ⟨rfl, b10⟩
        have B10 := hide ((unhide B9).trans (b10.mono (unhide B9).size))
        clear b10 B9
        go_wp2
        go_ret
        exact ⟨rfl, unhide B10⟩
      · have e1 : decide ((j : Int) < (cn : Int)) = false := decide_eq_false (by omega)
        clear hex hlt
        go_wp2_with fail
        refine (unhide CX).mono ?_
        clear CX
        rintro e W8 ⟨q8, zs8, rfl, st8⟩
        have CY := hide (All_big ((unhide HY).grown st8.bel) (by omega))
        have ST8 := hide st8
        clear st8
        go_wp2_with fail
        refine (unhide CY).mono ?_
        clear CY
        rintro e W9 ⟨q9, zs9, rfl, st9⟩
        have CE : Hid (Calls Try.prog 18 #[.slice (some ⟨q8, 0, none⟩) I.all.length I.all.length, .slice (some ⟨q9, 0, none⟩) I.all.length I.all.length] W9 fun e w' => e = .returned (.bool true) ∧ Below W9.heap.size W9 w') := hide (by
          have h8 := (unhide ST8).blk.grown st9.bel
          have e8 := h8.enl (unhide ST8).len (by omega)
          have e9 := st9.blk.enl st9.len (by omega)
          rw [same_ents (unhide ST8) st9] at e8
          exact SameEntries_eq _ _ _ _ _ _ _ W9 e8 e9)
        have B9 := hide (((unhide BL).trans ((unhide ST8).bel.mono (unhide BL).size)).trans (st9.bel.mono (Nat.le_trans (unhide BL).size (unhide ST8).bel.size)))
        obtain ⟨mm, hmm⟩ : ∃ mm, mm = I.all.length := ⟨_, rfl⟩
        rw [← hmm] at CE ⊢
        clear st9 ST8 HY BL hmm
        go_wp2_with fail
        refine (unhide CE).mono ?_
        clear CE
        rintro e W10 ⟨rfl, b10⟩
        have B10 := hide ((unhide B9).trans (b10.mono (unhide B9).size))
        clear b10 B9
        go_wp2
        go_ret
        exact ⟨rfl, unhide B10⟩

set_option maxRecDepth 100000 in
theorem XAgain.lifted (os : Os) (started : os.Started) (H : Type) (enc : TypeId × Value → H) :
    ReturnsInHanded {} Try.checked os 8 .any (Rows.streamsAgainSpec.pre6 enc Try.prog Try.f8 Rows.streamsAgainRow.domain false) (Rows.streamsAgainSpec.post enc Try.prog Try.f8 false true false false) := by
  refine returnsInHanded_of_change (C := Try.checked) own_knob started (by kernel_rfl) Try.func8
    (ChangeSpec.witness6 (enc := enc) (C := Try.checked) false ⟨#[], #[.slice none 0 0], []⟩ 8 (by kernel_rfl) (by kernel_rfl) (by kernel_rfl) (by kernel_rfl)) ?_
  intro W base args ds gs before hval0 hW hcnd _
  have hval : ∀ (j : Nat) t v, Try.f8.params[j]? = some t → args[j]? = some v → Value.okWide Try.prog W .any base t v := hval0
  have hW' := hW
  obtain ⟨p, q, hA0, hV, rfl, hfz, hnd⟩ := hW
  have hA : DataW.TrodAll enc Try.prog W 0 (fun _ => true) true Try.f8.params.toList args.toList ds p := hA0
  rw [Try.params8] at hA hval
  obtain ⟨v0, vs0, d0, ds0, p0, q0, e0, rfl, rfl, h0, hA⟩ := trodAll_cons hA
  obtain ⟨rfl, rfl, rfl⟩ := trodAll_nil hA
  obtain rfl : args = #[v0] := by cases args; simp_all
  obtain ⟨rfl, rfl⟩ := trodVars_none hV
  obtain ⟨a0, n0, c0, rfl⟩ := okWide_slice Try.underlying22 (hval 0 22 v0 rfl rfl)
  have k0 := h0
  have lt0 : ∀ x ∈ p0, x.block < W.heap.size := by obtain ⟨m, hm⟩ := k0; exact DataW.trod_lt m _ _ _ hm
  obtain ⟨l0, g0⟩ := open_scalls h0
  clear hA0 hval0
  refine (XAgain.walk a0 n0 c0 l0 W g0).mono fun e W' ⟨he, bel⟩ => ?_
  subst he
  exact ⟨_, rfl, _, _, _, [], _, [], hW', trodAll_mk1 (shut_bool Try.underlying4 _), (trodAll_cons_mk (Below.trod laid_out (by kernel_rfl) (of_decide_eq_true (by kernel_rfl)) k0 bel lt0) trodAll_mk0), rfl, bel.frame _, fun h => by cases h⟩

theorem streamsAgain_holds : Rows.StreamsAgainSaid :=
  OpenClaim.holds_of_wide 8 Try.f8 rfl rfl rfl rfl rfl rfl rfl ⟨rfl, rfl, rfl, rfl, rfl⟩ rfl rfl rfl rfl rfl (by kernel_rfl) Try.func8 (by kernel_rfl)
    (of_decide_eq_true (by kernel_rfl)) (by unfold Func.isWrapper; first | (rw [if_pos (by decide +kernel)]; kernel_rfl) | (rw [if_neg (by decide +kernel)]; exact ⟨rfl, rfl⟩))
    (fun os started H enc _ => XAgain.lifted os started H enc)
#print axioms streamsAgain_holds
end Go.Proofs.Ytgomncbfhloobaa
