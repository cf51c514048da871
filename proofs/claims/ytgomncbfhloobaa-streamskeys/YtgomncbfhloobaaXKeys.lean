/-
  StreamsKeys: for every two texts, events, calls, int and events it returns true, and its arguments read as before. Conditions: none.
-/
import Derived.Test.YtgomncbfhloobaaXreg
namespace Go.Proofs.Ytgomncbfhloobaa
open Go.ChangeShapes Go.WideShapes Go.ChangeAt Go.RowKit Go.Maps
open Go.ChangeMaps (open_string shut_string)
set_option linter.unusedVariables false

theorem tryA_new {s : List UInt8} {ex : Int} {k : List UInt8} {es : List Evn} {I : Ix} (hk : I.key k = none) (h : ¬ tryOk I s ex k es) : ∃ err : Int, tryA I s ex k es = (apV 0 0 0 false, err) ∧ err ≠ 0 := by
  unfold tryA
  by_cases h1 : okNames s k
  · rw [if_neg (fun h' => h' h1), hk]
    simp only []
    by_cases h3 : okEvs es
    · rw [if_neg (fun h' => h' h3)]
      by_cases h4 : ex < -1
      · rw [if_pos h4]; exact ⟨_, rfl, by decide⟩
      · rw [if_neg h4]
        by_cases h5 : ex ≠ -1 ∧ ex ≠ (I.ver s : Int)
        · rw [if_pos h5]; exact ⟨_, rfl, by decide⟩
        · exact absurd ⟨h1, hk, h3, h4, by
            by_cases h6 : ex = -1
            · exact .inl h6
            · by_cases h7 : ex = (I.ver s : Int)
              · exact .inr h7
              · exact absurd ⟨h6, h7⟩ h5⟩ h
    · rw [if_pos h3]; exact ⟨_, rfl, by decide⟩
  · rw [if_pos h1]; exact ⟨_, rfl, by decide⟩

/-- Where the law's loop stands. -/
structure KSt (w W : World) (x ab j : Nat) (s k : List UInt8) (n : Nat) (I : Ix) : Prop where
  st : LSt w W (fun q => q = ab) x (17 * (j + 1)) I
  box : ABox W ab 0 0 n false
  key : I.key k = some ⟨s, 0, 0, n⟩

set_option maxRecDepth 100000 in
set_option maxHeartbeats 8000000 in
theorem XKeys.walk (s k : List UInt8) (la : Option Addr) (ln lc : Nat) (ls : List Evn) (ca : Option Addr) (cn cc : Nat) (cl : List SCl) (ex : Int) (oa : Option Addr) (on oc : Nat) (os : List Evn) (w : World) (hs : s.length ≤ maxLen) (hk : k.length ≤ maxLen) (hl : EvL w (.slice la ln lc) ls) (hlf : ∀ e ∈ ls, fitE e) (hc : SClL w (.slice ca cn cc) cl) (ho : EvL w (.slice oa on oc) os) (hof : ∀ e ∈ os, fitE e) :
    Calls Try.prog 4 #[sv s, sv k, .slice la ln lc, .slice ca cn cc, .int .i64 ex, .slice oa on oc] w fun e w' => e = .returned (.bool true) ∧ Below w.heap.size w w' := by
  have HS := hide hs
  have HK := hide hk
  have HL := hide (And.intro hl hlf)
  have HC := hide hc
  have HO := hide (And.intro ho hof)
  obtain ⟨CN, hCN⟩ : ∃ CN, CN = cl.length := ⟨_, rfl⟩
  obtain rfl : cn = CN := by obtain ⟨_, _, e, _⟩ := hc; cases e; exact hCN.symm
  have HCN := hide hCN
  have hcl : cn ≤ 9223372036854775807 := by obtain ⟨_, _, _, h, _⟩ := hc; omega
  clear hs hk hl hlf hc ho hof hCN
  go_enter Try.func4, Try.ntmps4
  go_wp2_with fail
  refine (awake_go _).mono ?_
  rintro e w1 ⟨rfl, b1⟩
  have B1 := hide b1
  clear b1
  go_wp2_with fail
  refine (New_go w1).mono ?_
  rintro e w2 hn
  obtain ⟨x, rfl, _⟩ := id hn
  have S2 := hide (LSt.new (unhide B1) hn)
  clear hn
  by_cases hok : tryOk Ix.new s 0 k ls
  · have C2 := hide ((unhide S2).try_ok s (unhide HS) 0 k (unhide HK) la ln lc ls (unhide HL).1 (unhide HL).2 hok w2 (Below.refl _ _))
    have HOK := hide hok
    clear hok
    go_wp2_with fail
    refine (unhide C2).mono ?_
    clear C2
    rintro e w3 ⟨q, ys, rfl, b3, g3⟩
    rw [show Ix.new.ver s = 0 from rfl, show Ix.new.all.length = 0 from rfl]
    obtain ⟨LN, hLN⟩ : ∃ LN, LN = ls.length := ⟨_, rfl⟩
    rw [← hLN]
    obtain ⟨w4, hw4⟩ : ∃ w4, w4 = (w3.alloc (.cells (apV 0 0 LN false) 27)).alloc (.cells (bt s k 0 (some ⟨q, 0, none⟩) LN LN) 30) := ⟨_, rfl⟩
    have z4 : w4.heap.size = w3.heap.size + 2 := by rw [hw4]; simp
    have b34 : Below w3.heap.size w3 w4 := by rw [hw4]; exact ((Below.refl _ _).alloc (Nat.le_refl _) _).alloc (by simp) _
    have a4 : ABox w4 w3.heap.size 0 0 LN false := by unfold ABox; rw [hw4, Below.heap_alloc _ _ _ (by simp)]; exact heap_alloc_self _ _
    have bb4 : BBox w4 (w3.heap.size + 1) s k 0 (.slice (some ⟨q, 0, none⟩) LN LN) := by unfold BBox; rw [hw4, show w3.heap.size + 1 = (w3.alloc (.cells (apV 0 0 LN false) 27)).heap.size by simp]; exact heap_alloc_self _ _
    have hb4 : Below w2.heap.size w2 w4 := b3.trans (b34.mono b3.size)
    have blk4 : EvBlk w4 q ls.length ys := g3.blk.same (b34.block q g3.blk.lt) (fun y hy => b34.block y.2 (g3.blk.2 y hy).1.lt)
    have hd4 : Held w w4 (fun q => q = w3.heap.size) x 0 Ix.new q ls.length ls := ((unhide S2).held hb4 blk4 g3.evs g3.new g3.hq (unhide HOK).2.2.1.2.1).less (fun q hq => .inr (by have := b3.size; omega))
    have CA := hide (hd4.add s (unhide HS) k (unhide HK) (unhide HL).2 (unhide HOK) (by decide) (fun q hq => by omega))
    rw [show Ix.new.ver s = 0 from rfl, ← hLN] at CA
    have A4 := hide a4
    have BW4 : Hid (Below w.heap.size w w4) := hide hd4.bel
    have HLN := hide hLN
    obtain ⟨c0, c1, c2, c3, c4⟩ := bb4.cells
    clear b3 g3 b34 a4 bb4 hb4 blk4 hd4 hLN
    obtain ⟨ab, hab⟩ : ∃ ab, ab = w3.heap.size := ⟨_, rfl⟩
    by_cases hk0 : k = []
    · subst hk0
      go_wp2
      rw [← hw4]
      go_ret
      exact ⟨rfl, unhide BW4⟩
    · have hki : (k == []) = false := beq_eq_false_iff_ne.2 hk0
      go_wp2_with fail
      rw [← hw4]
      refine (unhide CA).mono ?_
      rintro e w5 ⟨rfl, st5, k5⟩
      have ST5 : Hid (KSt w w5 x ab 0 s k LN (Ix.new.added s k 0 ls)) := hide (by
        rw [← hab] at st5 k5
        refine ⟨st5.more (by have := (unhide HOK).2.2.1.2.1; have := unhide HLN; omega), ?_, ?_⟩
        · have := unhide A4
          rw [← hab] at this
          exact this.same (k5 ab rfl)
        · rw [added_key, if_pos ⟨hk0, rfl⟩, ← unhide HLN]; rfl)
      have HK0 := hide hk0
      clear st5 k5 CA A4 BW4 c0 c1 c2 c3 c4 hw4 z4 S2 hk0 hki B1
      rw [← hab]
      clear hab
      go_wp2
      go_loopw [18] (fun i wr => ∃ (j : Nat) (I : Ix), i = .int .i64 (j : Int) ∧ j ≤ 40 ∧ j ≤ cn ∧ Hid (KSt w wr x ab j s k LN I)) (fun i _ => 40 - (intOf i).toNat)
      case atStart => exact ⟨0, _, rfl, by omega, by omega, ST5⟩
      case round =>
        obtain ⟨j, I, rfl, hj, hjn, ST⟩ := hrel
        clear ST5
        by_cases hlt : j < cn ∧ j < 40
        · obtain ⟨hl1, hl2⟩ := hlt
          have hjl : j < cl.length := by have := unhide HCN; omega
          obtain ⟨ao', cap', e', _, h4⟩ := unhide HC
          obtain ⟨b, off, hea, hb, hcc⟩ := h4 (by omega)
          injection e' with q1 q2 q3
          subst q1
          clear q2 q3
          obtain ⟨c, hcj⟩ : ∃ c, c = cl[j] := ⟨_, rfl⟩
          have hat := hcc j hjl
          rw [← hcj] at hat
          clear hcc h4 hcj
          subst hea
          obtain ⟨cs, ck, ce⟩ := c
          obtain ⟨g1, g2, ⟨ea, en, ec, g5, g6⟩, s1, s2, fit⟩ := hat
          simp only at g1 g2 g5 g6 s1 s2 fit
          have hbel := (unhide ST).st.bel
          have d1 := (hbel.cell (p := ⟨b, off + j * 10 + 1, none⟩) hb).trans g1
          have d2 := (hbel.cell (p := ⟨b, off + j * 10 + 2, none⟩) hb).trans g2
          have d5 := (hbel.cell (p := ⟨b, off + j * 10 + 5, none⟩) hb).trans g5
          have hbw : b < wr.heap.size := Nat.lt_of_lt_of_le hb hbel.size
          clear g1 g2 g5 hbel
          have hgl : ∀ q, (fun q => q = ab) q → q < wr.heap.size := fun q hq => by have hq' : q = ab := hq; rw [hq']; exact lt_of_block (unhide ST).box
          have HGL := hide hgl
          have SD : Hid (wr.drew.cell? ⟨b, off + j * 10 + 1, none⟩ = some (sv cs) ∧ wr.drew.cell? ⟨b, off + j * 10 + 2, none⟩ = some (sv ck) ∧ wr.drew.cell? ⟨b, off + j * 10 + 5, none⟩ = some (.slice ea en ec)) := hide ⟨d1, d2, d5⟩
          have SV : Hid (∀ V, Below wr.heap.size wr V → V.cell? ⟨b, off + j * 10 + 1, none⟩ = some (sv cs) ∧ V.cell? ⟨b, off + j * 10 + 2, none⟩ = some (sv ck) ∧ V.cell? ⟨b, off + j * 10 + 5, none⟩ = some (.slice ea en ec)) := hide (fun V hV => ⟨(hV.cell (p := ⟨b, off + j * 10 + 1, none⟩) hbw).trans d1, (hV.cell (p := ⟨b, off + j * 10 + 2, none⟩) hbw).trans d2, (hV.cell (p := ⟨b, off + j * 10 + 5, none⟩) hbw).trans d5⟩)
          have HFT := hide (And.intro s1 (And.intro s2 fit))
          have R0 := hide (RSt.start wr)
          have RA : Hid (RSt wr (wr.alloc zApp).drew (some wr.heap.size) none) := hide (unhide R0).allocA
          have RB : Hid (RSt wr (wr.alloc zBt).drew none (some wr.heap.size)) := hide (unhide R0).allocB
          have RAB : Hid (RSt wr ((wr.alloc zApp).alloc zBt).drew (some wr.heap.size) (some (wr.alloc zApp).heap.size)) := hide (unhide R0).allocA.allocB
          have RBA : Hid (RSt wr ((wr.alloc zBt).alloc zApp).drew (some (wr.alloc zBt).heap.size) (some wr.heap.size)) := hide (unhide R0).allocB.allocA
          have RAB1 : Hid (RSt wr ((wr.alloc zApp).alloc zBt).drew (some wr.heap.size) (some (wr.heap.size + 1))) := hide (by have := unhide RAB; rwa [alloc_two] at this)
          have RBA1 : Hid (RSt wr ((wr.alloc zBt).alloc zApp).drew (some (wr.heap.size + 1)) (some wr.heap.size)) := hide (by have := unhide RBA; rwa [alloc_two] at this)
          have SA := hide (unhide SV _ (unhide RA).bel)
          have SB := hide (unhide SV _ (unhide RB).bel)
          have SAB := hide (unhide SV _ (unhide RAB).bel)
          have SBA := hide (unhide SV _ (unhide RBA).bel)
          clear hgl
          go_upto_region 13 with fail
          go_cut [19, 20, 21] from 56 to 97 (fun t19 t20 t21 wx => TrR w wr (fun q => q = ab) x (17 * (j + 1)) I cs ck ce t19 t20 t21 wx)
          case first =>
            by_cases hok : tryOk I cs (-1) ck ce
            · have C := hide (fun V hV => (unhide ST).st.try_ok cs s1 (-1) ck s2 ea en ec ce g6 fit hok V hV)
              have HOK2 := hide hok
              obtain ⟨vs, hvs⟩ : ∃ vs : Nat, vs = I.ver cs := ⟨_, rfl⟩
              obtain ⟨al, hal⟩ : ∃ al : Nat, al = I.all.length := ⟨_, rfl⟩
              obtain ⟨en2, hen2⟩ : ∃ en2 : Nat, en2 = ce.length := ⟨_, rfl⟩
              have HVS := hide hvs
              have HEN2 := hide hen2
              rw [← hvs, ← hal, ← hen2] at C
              clear hok d1 d2 d5 s1 s2 fit g6 hvs hal hen2
              have C0 := hide (unhide C _ (unhide R0).bel)
              have CA := hide (unhide C _ (unhide RA).bel)
              have CB := hide (unhide C _ (unhide RB).bel)
              have CAB := hide (unhide C _ (unhide RAB).bel)
              have CBA := hide (unhide C _ (unhide RBA).bel)
              clear C
              go_region_held3 (fun w' => w'.cell? ⟨b, off + j * 10 + 1, none⟩ = some (sv cs) ∧ w'.cell? ⟨b, off + j * 10 + 2, none⟩ = some (sv ck) ∧ w'.cell? ⟨b, off + j * 10 + 5, none⟩ = some (.slice ea en ec))
                (first | with_reducible exact unhide SD | with_reducible exact unhide SA | with_reducible exact unhide SB | with_reducible exact unhide SAB | with_reducible exact unhide SBA | with_reducible exact unhide S1 | with_reducible exact keepA (unhide S1) | with_reducible exact keepA (keepA (unhide S1)) | with_reducible exact keepA (by assumption) | with_reducible exact keepS (by simp <;> omega) (by assumption))
                ((go_at_call 11; (first
                  | (with_reducible refine (unhide C0).mono ?_; have RV := R0; rintro e w6 ⟨q, ys, rfl, b6, g6⟩; have R6 := hide ((unhide RV).next b6); have G6 := hide g6; have S1 := hide (unhide SV w6 (unhide R6).bel); have zv := hide (unhide RV).bel.size; have z6 : wr.heap.size ≤ w6.heap.size := (unhide R6).bel.size; clear b6 g6; obtain ⟨n0, n1, n2, n3, n4⟩ := ((((unhide R6).allocB.next ((Below.refl _ _).alloc (Nat.le_refl _) (.cells (apV vs al en2 false) 27))).bbox)).cells)
                  | (with_reducible refine (unhide CA).mono ?_; have RV := RA; rintro e w6 ⟨q, ys, rfl, b6, g6⟩; have R6 := hide ((unhide RV).next b6); have G6 := hide g6; have S1 := hide (unhide SV w6 (unhide R6).bel); have zv := hide (unhide RV).bel.size; have z6 : wr.heap.size ≤ w6.heap.size := (unhide R6).bel.size; clear b6 g6; obtain ⟨m0, m1, m2, m3, m4⟩ := ((unhide R6).allocB.abox).cells; obtain ⟨n0, n1, n2, n3, n4⟩ := (((unhide R6).allocB.bbox).other (q := wr.heap.size) (Nat.ne_of_gt (unhide R6).alt) (vs : Int) (al : Int) (en2 : Int) false).cells)
                  | (with_reducible refine (unhide CB).mono ?_; have RV := RB; rintro e w6 ⟨q, ys, rfl, b6, g6⟩; have R6 := hide ((unhide RV).next b6); have G6 := hide g6; have S1 := hide (unhide SV w6 (unhide R6).bel); have zv := hide (unhide RV).bel.size; have z6 : wr.heap.size ≤ w6.heap.size := (unhide R6).bel.size; clear b6 g6; obtain ⟨n0, n1, n2, n3, n4⟩ := (((unhide R6).next ((Below.refl _ _).alloc (Nat.le_refl _) (.cells (apV vs al en2 false) 27))).bbox).cells)
                  | (with_reducible refine (unhide CAB).mono ?_; have RV := RAB1; rintro e w6 ⟨q, ys, rfl, b6, g6⟩; have R6 := hide ((unhide RV).next b6); have G6 := hide g6; have S1 := hide (unhide SV w6 (unhide R6).bel); have zv := hide (unhide RV).bel.size; have z6 : wr.heap.size ≤ w6.heap.size := (unhide R6).bel.size; clear b6 g6; obtain ⟨m0, m1, m2, m3, m4⟩ := ((unhide R6).abox).cells; obtain ⟨n0, n1, n2, n3, n4⟩ := (((unhide R6).bbox).other (q := wr.heap.size) (by omega) (vs : Int) (al : Int) (en2 : Int) false).cells)
                  | (with_reducible refine (unhide CBA).mono ?_; have RV := RBA1; rintro e w6 ⟨q, ys, rfl, b6, g6⟩; have R6 := hide ((unhide RV).next b6); have G6 := hide g6; have S1 := hide (unhide SV w6 (unhide R6).bel); have zv := hide (unhide RV).bel.size; have z6 : wr.heap.size ≤ w6.heap.size := (unhide R6).bel.size; clear b6 g6; obtain ⟨m0, m1, m2, m3, m4⟩ := ((unhide R6).abox).cells; obtain ⟨n0, n1, n2, n3, n4⟩ := (((unhide R6).bbox).other (q := wr.heap.size + 1) (by omega) (vs : Int) (al : Int) (en2 : Int) false).cells))))
              all_goals go_wp2
              all_goals go_meet
              all_goals
                obtain rfl := unhide HVS
                obtain rfl := unhide HEN2
              all_goals first
                | with_reducible exact TrR.okAB (unhide ST).st (unhide HGL) (unhide R6).bel (unhide HOK2) (unhide zv) (unhide G6) _ _ _ _
                | with_reducible exact TrR.okBA (unhide ST).st (unhide HGL) (unhide R6).bel (unhide HOK2) (unhide zv) (unhide G6) _ _ _ _
                | with_reducible exact TrR.okB (unhide ST).st (unhide HGL) (unhide R6) (unhide HOK2) (unhide zv) (unhide G6) _ _ _ _
                | with_reducible exact TrR.ok (unhide ST).st (unhide HGL) (unhide R6).allocB (unhide HOK2) (unhide zv) (unhide G6) ((Below.refl _ _).alloc (Nat.le_refl _) _) _ _ _ _
                | with_reducible exact TrR.ok (unhide ST).st (unhide HGL) (unhide R6) (unhide HOK2) (unhide zv) (unhide G6) (Below.refl _ _) _ _ _ _
            · obtain ⟨f, p, c, t, err, hA, hbad⟩ := tryA_bad hok
              have C := hide (fun V hV => (unhide ST).st.try_bad cs s1 (-1) ck s2 ea en ec ce g6 fit f p c t err hA hbad V hV)
              have HOK2 := hide hok
              clear hok d1 d2 d5 s1 s2 fit g6 hA hbad
              have C0 := hide (unhide C _ (unhide R0).bel)
              have CA := hide (unhide C _ (unhide RA).bel)
              have CB := hide (unhide C _ (unhide RB).bel)
              have CAB := hide (unhide C _ (unhide RAB).bel)
              have CBA := hide (unhide C _ (unhide RBA).bel)
              clear C
              go_region_held3 (fun w' => w'.cell? ⟨b, off + j * 10 + 1, none⟩ = some (sv cs) ∧ w'.cell? ⟨b, off + j * 10 + 2, none⟩ = some (sv ck) ∧ w'.cell? ⟨b, off + j * 10 + 5, none⟩ = some (.slice ea en ec))
                (first | with_reducible exact unhide SD | with_reducible exact unhide SA | with_reducible exact unhide SB | with_reducible exact unhide SAB | with_reducible exact unhide SBA | with_reducible exact unhide S1 | with_reducible exact keepA (unhide S1) | with_reducible exact keepA (keepA (unhide S1)) | with_reducible exact keepA (by assumption) | with_reducible exact keepS (by simp <;> omega) (by assumption))
                ((go_at_call 11; (first
                  | (with_reducible refine (unhide C0).mono ?_; have RV := R0; rintro e w6 ⟨rfl, b6⟩; have R6 := hide ((unhide RV).next b6); have S1 := hide (unhide SV w6 (unhide R6).bel); have zv := hide (unhide RV).bel.size; have z6 : wr.heap.size ≤ w6.heap.size := (unhide R6).bel.size; clear b6; obtain ⟨n0, n1, n2, n3, n4⟩ := ((((unhide R6).allocB.next ((Below.refl _ _).alloc (Nat.le_refl _) (.cells (apV f p c t) 27))).bbox)).cells)
                  | (with_reducible refine (unhide CA).mono ?_; have RV := RA; rintro e w6 ⟨rfl, b6⟩; have R6 := hide ((unhide RV).next b6); have S1 := hide (unhide SV w6 (unhide R6).bel); have zv := hide (unhide RV).bel.size; have z6 : wr.heap.size ≤ w6.heap.size := (unhide R6).bel.size; clear b6; obtain ⟨m0, m1, m2, m3, m4⟩ := ((unhide R6).allocB.abox).cells; obtain ⟨n0, n1, n2, n3, n4⟩ := (((unhide R6).allocB.bbox).other (q := wr.heap.size) (Nat.ne_of_gt (unhide R6).alt) f p c t).cells)
                  | (with_reducible refine (unhide CB).mono ?_; have RV := RB; rintro e w6 ⟨rfl, b6⟩; have R6 := hide ((unhide RV).next b6); have S1 := hide (unhide SV w6 (unhide R6).bel); have zv := hide (unhide RV).bel.size; have z6 : wr.heap.size ≤ w6.heap.size := (unhide R6).bel.size; clear b6; obtain ⟨n0, n1, n2, n3, n4⟩ := (((unhide R6).next ((Below.refl _ _).alloc (Nat.le_refl _) (.cells (apV f p c t) 27))).bbox).cells)
                  | (with_reducible refine (unhide CAB).mono ?_; have RV := RAB1; rintro e w6 ⟨rfl, b6⟩; have R6 := hide ((unhide RV).next b6); have S1 := hide (unhide SV w6 (unhide R6).bel); have zv := hide (unhide RV).bel.size; have z6 : wr.heap.size ≤ w6.heap.size := (unhide R6).bel.size; clear b6; obtain ⟨m0, m1, m2, m3, m4⟩ := ((unhide R6).abox).cells; obtain ⟨n0, n1, n2, n3, n4⟩ := (((unhide R6).bbox).other (q := wr.heap.size) (by omega) f p c t).cells)
                  | (with_reducible refine (unhide CBA).mono ?_; have RV := RBA1; rintro e w6 ⟨rfl, b6⟩; have R6 := hide ((unhide RV).next b6); have S1 := hide (unhide SV w6 (unhide R6).bel); have zv := hide (unhide RV).bel.size; have z6 : wr.heap.size ≤ w6.heap.size := (unhide R6).bel.size; clear b6; obtain ⟨m0, m1, m2, m3, m4⟩ := ((unhide R6).abox).cells; obtain ⟨n0, n1, n2, n3, n4⟩ := (((unhide R6).bbox).other (q := wr.heap.size + 1) (by omega) f p c t).cells))))
              all_goals go_wp2
              all_goals go_meet
              all_goals first
                | with_reducible exact TrR.badAB (unhide ST).st (unhide HGL) (unhide R6).bel (unhide HOK2) _ _ _ _ _
                | with_reducible exact TrR.badBA (unhide ST).st (unhide HGL) (unhide R6).bel (unhide HOK2) _ _ _ _ _
                | with_reducible exact TrR.badB (unhide ST).st (unhide HGL) (unhide R6) (unhide HOK2) _ _ _ _ _
                | with_reducible exact TrR.bad (unhide ST).st (unhide HGL) (unhide R6).allocB (unhide HOK2) _ _ _ _ _
                | with_reducible exact TrR.bad (unhide ST).st (unhide HGL) (unhide R6) (unhide HOK2) _ _ _ _ _
          case rest =>
            obtain ⟨ab2, bb, rfl, rfl, hcase, hG⟩ := hcut
            obtain ⟨W7, hW7⟩ : ∃ W7, W7 = wc := ⟨_, rfl⟩
            rw [← hW7] at hcase hG ⊢
            clear hW7
            have box7 : ABox W7 ab 0 0 LN false := (unhide ST).box.same (hG ab rfl)
            have hab7 := lt_of_block box7
            have BX7 := hide box7
            have KEY := hide (unhide ST).key
            clear box7 hG ST HGL SD SV R0 RA RB RAB RBA RAB1 RBA1 SA SB SAB SBA d1 d2 d5 g6
            rcases hcase with ⟨hok, rfl, q7, hB, hH, h1⟩ | ⟨hok, hB, hL, err, rfl⟩
            · have hl16 := hok.2.2.1.2.1
              have CA7 := hide ((hH.less (G' := fun q => q = ab) (fun q hq => .inl hq)).add cs s1 ck s2 fit hok (by omega) (fun q hq => by have hq' : q = ab := hq; omega))
              have NK : Hid ((I.added cs ck (I.ver cs) ce).key k = some ⟨s, 0, 0, LN⟩) := hide (by
                rw [added_key, if_neg]
                · exact unhide KEY
                · rintro ⟨_, rfl⟩
                  have := hok.2.1
                  rw [unhide KEY] at this
                  cases this)
              obtain ⟨vs, hvs⟩ : ∃ vs : Nat, vs = I.ver cs := ⟨_, rfl⟩
              obtain ⟨en2, hen2⟩ : ∃ en2 : Nat, en2 = ce.length := ⟨_, rfl⟩
              rw [← hvs, ← hen2] at hB
              rw [← hvs, ← hen2] at CA7
              rw [← hvs] at NK
              rw [← hen2] at hl16 h1
              have hgt : decide ((0 : Int) < (en2 : Int)) = true := decide_eq_true (by omega)
              obtain ⟨c0, c1, c2, c3, c4⟩ := hB.cells
              clear hok hB hH hvs hen2 s1 s2 fit
              go_wp2_with fail
              refine (unhide CA7).mono ?_
              rintro e w8 ⟨rfl, st8, k8⟩
              have ST8 : Hid (KSt w w8 x ab (j + 1) s k LN (I.added cs ck vs ce)) := hide ⟨st8.more (by omega), (unhide BX7).same (k8 ab rfl), unhide NK⟩
              clear st8 k8 CA7 NK BX7 KEY c0 c1 c2 c3 c4
              go_wp2
              go_roundw
              case rel => exact ⟨j + 1, _, by go_num, by omega, by omega, ST8⟩
              case measure => simp [intOf]; omega
            · have ST8 : Hid (KSt w W7 x ab (j + 1) s k LN I) := hide ⟨hL.more (by omega), unhide BX7, unhide KEY⟩
              obtain ⟨c0, c1, c2, c3, c4⟩ := hB.cells
              clear hok hB hL s1 s2 fit BX7 KEY
              by_cases he : err = 0
              · subst he
                go_wp2
                go_roundw
                case rel => exact ⟨j + 1, _, by go_num, by omega, by omega, ST8⟩
                case measure => simp [intOf]; omega
              · have hne : (err == 0) = false := beq_eq_false_iff_ne.2 he
                clear he
                go_wp2
                go_roundw
                case rel => exact ⟨j + 1, _, by go_num, by omega, by omega, ST8⟩
                case measure => simp [intOf]; omega
        · have st := unhide ST
          obtain ⟨F, hi, hF⟩ := st.st.ix
          have HI := hide hi
          have BL := hide st.st.bel
          have BX := hide st.box
          have KEY := hide st.key
          have HX : Hid (tryA I s ex k os = (apV 0 0 LN true, 0)) := hide (by
            unfold tryA
            rw [if_neg (fun h => h (unhide HOK).1), st.key]
            simp only []
            rw [if_neg (fun h => h rfl)]
            rfl)
          clear st hi hF ST
          have hex : decide ((j : Int) < (cn : Int)) = true → decide ((j : Int) < 40) = false := fun h => decide_eq_false (fun h2 => hlt ⟨by have := of_decide_eq_true h; omega, by omega⟩)
          by_cases hj1 : j < cn
          · have e1 : decide ((j : Int) < (cn : Int)) = true := decide_eq_true (by omega)
            have e2 := hex e1
            clear hex hlt
            go_wp2_with fail
            refine (Len_go (unhide HI)).mono ?_
            rintro e w9 ⟨rfl, b9⟩
            have HI9 := hide ((unhide HI).grown b9)
            have BX9 := hide ((unhide BX).same (b9.block _ (lt_of_block (unhide BX))))
            have BL9 := hide ((unhide BL).trans (b9.mono (unhide BL).size))
            clear b9 HI BX BL
            go_wp2_with fail
            have CT := hide (Try_bad (unhide HI9) s (unhide HS) ex k (unhide HK) oa on oc os ((unhide HO).1.below (unhide BL9) (Nat.le_refl _)) (unhide HO).2 _ _ _ _ _ (unhide HX) (.inr rfl))
            refine (unhide CT).mono ?_
            clear CT
            rintro e w10 ⟨rfl, b10⟩
            obtain ⟨w11, hw11⟩ : ∃ w11, w11 = (w10.alloc (.cells (apV 0 0 LN true) 27)).alloc (.cells (bt [] [] 0 none 0 0) 30) := ⟨_, rfl⟩
            have b11 : Below w10.heap.size w10 w11 := by rw [hw11]; exact ((Below.refl _ _).alloc (Nat.le_refl _) _).alloc (by simp) _
            have a11 : ABox w11 w10.heap.size 0 0 LN true := by unfold ABox; rw [hw11, Below.heap_alloc _ _ _ (by simp)]; exact heap_alloc_self _ _
            have t11 : BBox w11 (w10.heap.size + 1) [] [] 0 (.slice none 0 0) := by unfold BBox; rw [hw11, show w10.heap.size + 1 = (w10.alloc (.cells (apV 0 0 LN true) 27)).heap.size by simp]; exact heap_alloc_self _ _
            have bb := b10.trans (b11.mono b10.size)
            have HI11 := hide ((unhide HI9).grown bb)
            have BX11 := hide ((unhide BX9).same (bb.block _ (lt_of_block (unhide BX9))))
            have BL11 := hide ((unhide BL9).trans (bb.mono (unhide BL9).size))
            have A11 := hide (And.intro a11 t11)
            clear b10 b11 a11 t11 bb HI9 BX9 BL9 HX
            go_wp2_with fail
            rw [← hw11]
            clear hw11
            refine (Keyed_go (unhide HI11) k (unhide HK)).mono ?_
            rintro e w12 ⟨rfl, b12⟩
            rw [unhide KEY]
            obtain ⟨w13, hw13⟩ : ∃ w13, w13 = w12.alloc (.cells (apV 0 0 LN false) 27) := ⟨_, rfl⟩
            have b13 : Below w12.heap.size w12 w13 := by rw [hw13]; exact (Below.refl _ _).alloc (Nat.le_refl _) _
            have a13 : ABox w13 w12.heap.size 0 0 LN false := by unfold ABox; rw [hw13]; exact heap_alloc_self _ _
            have bb := b12.trans (b13.mono b12.size)
            have HI13 := hide ((unhide HI11).grown bb)
            have BL13 := hide ((unhide BL11).trans (bb.mono (unhide BL11).size))
            obtain ⟨p0, p1, p2, p3, p4⟩ := ((unhide BX11).same (bb.block _ (lt_of_block (unhide BX11)))).cells
            obtain ⟨r0, r1, r2, r3, r4⟩ := ((unhide A11).1.same (bb.block _ (lt_of_block (unhide A11).1))).cells
            obtain ⟨t0, t1, t2, t3, t4⟩ := ((unhide A11).2.same (bb.block _ (lt_of_block (unhide A11).2))).cells
            obtain ⟨v0, v1, v2, v3, v4⟩ := a13.cells
            clear b12 b13 a13 bb HI11 BX11 BL11 A11
            simp only [kdS, kdF, Option.isSome_some]
            go_upto_region 19 with fail
            rw [← hw13]
            clear hw13
            go_wp2_with fail
            refine (Len_go (unhide HI13)).mono ?_
            rintro e w14 ⟨rfl, b14⟩
            have BL14 := hide ((unhide BL13).trans (b14.mono (unhide BL13).size))
            clear b14 BL13 HI13
            go_wp2
            go_ret
            exact ⟨rfl, unhide BL14⟩
          · have e1 : decide ((j : Int) < (cn : Int)) = false := decide_eq_false (by omega)
            clear hex hlt
            go_wp2_with fail
            refine (Len_go (unhide HI)).mono ?_
            rintro e w9 ⟨rfl, b9⟩
            have HI9 := hide ((unhide HI).grown b9)
            have BX9 := hide ((unhide BX).same (b9.block _ (lt_of_block (unhide BX))))
            have BL9 := hide ((unhide BL).trans (b9.mono (unhide BL).size))
            clear b9 HI BX BL
            go_wp2_with fail
            have CT := hide (Try_bad (unhide HI9) s (unhide HS) ex k (unhide HK) oa on oc os ((unhide HO).1.below (unhide BL9) (Nat.le_refl _)) (unhide HO).2 _ _ _ _ _ (unhide HX) (.inr rfl))
            refine (unhide CT).mono ?_
            clear CT
            rintro e w10 ⟨rfl, b10⟩
            obtain ⟨w11, hw11⟩ : ∃ w11, w11 = (w10.alloc (.cells (apV 0 0 LN true) 27)).alloc (.cells (bt [] [] 0 none 0 0) 30) := ⟨_, rfl⟩
            have b11 : Below w10.heap.size w10 w11 := by rw [hw11]; exact ((Below.refl _ _).alloc (Nat.le_refl _) _).alloc (by simp) _
            have a11 : ABox w11 w10.heap.size 0 0 LN true := by unfold ABox; rw [hw11, Below.heap_alloc _ _ _ (by simp)]; exact heap_alloc_self _ _
            have t11 : BBox w11 (w10.heap.size + 1) [] [] 0 (.slice none 0 0) := by unfold BBox; rw [hw11, show w10.heap.size + 1 = (w10.alloc (.cells (apV 0 0 LN true) 27)).heap.size by simp]; exact heap_alloc_self _ _
            have bb := b10.trans (b11.mono b10.size)
            have HI11 := hide ((unhide HI9).grown bb)
            have BX11 := hide ((unhide BX9).same (bb.block _ (lt_of_block (unhide BX9))))
            have BL11 := hide ((unhide BL9).trans (bb.mono (unhide BL9).size))
            have A11 := hide (And.intro a11 t11)
            clear b10 b11 a11 t11 bb HI9 BX9 BL9 HX
            go_wp2_with fail
            rw [← hw11]
            clear hw11
            refine (Keyed_go (unhide HI11) k (unhide HK)).mono ?_
            rintro e w12 ⟨rfl, b12⟩
            rw [unhide KEY]
            obtain ⟨w13, hw13⟩ : ∃ w13, w13 = w12.alloc (.cells (apV 0 0 LN false) 27) := ⟨_, rfl⟩
            have b13 : Below w12.heap.size w12 w13 := by rw [hw13]; exact (Below.refl _ _).alloc (Nat.le_refl _) _
            have a13 : ABox w13 w12.heap.size 0 0 LN false := by unfold ABox; rw [hw13]; exact heap_alloc_self _ _
            have bb := b12.trans (b13.mono b12.size)
            have HI13 := hide ((unhide HI11).grown bb)
            have BL13 := hide ((unhide BL11).trans (bb.mono (unhide BL11).size))
            obtain ⟨p0, p1, p2, p3, p4⟩ := ((unhide BX11).same (bb.block _ (lt_of_block (unhide BX11)))).cells
            obtain ⟨r0, r1, r2, r3, r4⟩ := ((unhide A11).1.same (bb.block _ (lt_of_block (unhide A11).1))).cells
            obtain ⟨t0, t1, t2, t3, t4⟩ := ((unhide A11).2.same (bb.block _ (lt_of_block (unhide A11).2))).cells
            obtain ⟨v0, v1, v2, v3, v4⟩ := a13.cells
            clear b12 b13 a13 bb HI11 BX11 BL11 A11
            simp only [kdS, kdF, Option.isSome_some]
            go_upto_region 19 with fail
            rw [← hw13]
            clear hw13
            go_wp2_with fail
            refine (Len_go (unhide HI13)).mono ?_
            rintro e w14 ⟨rfl, b14⟩
            have BL14 := hide ((unhide BL13).trans (b14.mono (unhide BL13).size))
            clear b14 BL13 HI13
            go_wp2
            go_ret
            exact ⟨rfl, unhide BL14⟩
  · obtain ⟨err, hA, he⟩ := tryA_new (I := Ix.new) rfl hok
    have C2 := hide ((unhide S2).try_bad s (unhide HS) 0 k (unhide HK) la ln lc ls (unhide HL).1 (unhide HL).2 _ _ _ _ _ hA (.inl he) w2 (Below.refl _ _))
    have hne : (err != 0) = true := by simpa [bne] using he
    clear hok hA he
    go_wp2_with fail
    refine (unhide C2).mono ?_
    clear C2
    rintro e w3 ⟨rfl, b3⟩
    have B3 : Hid (Below w.heap.size w w3) := hide ((unhide S2).bel.trans (b3.mono (unhide S2).bel.size))
    have B4 : Hid (Below w.heap.size w ((w3.alloc (.cells (apV 0 0 0 false) 27)).alloc (.cells (bt [] [] 0 none 0 0) 30))) := hide (((unhide B3).alloc (unhide B3).size _).alloc (Nat.le_trans (unhide B3).size (by simp)) _)
    clear b3 B3
    go_wp2
    go_ret
    exact ⟨rfl, unhide B4⟩
set_option maxRecDepth 100000 in
theorem XKeys.lifted (os : Os) (started : os.Started) (H : Type) (enc : TypeId × Value → H) :
    ReturnsInHanded {} Try.checked os 4 .any (Rows.streamsKeysSpec.pre6 enc Try.prog Try.f4 Rows.streamsKeysRow.domain false) (Rows.streamsKeysSpec.post enc Try.prog Try.f4 false true false false) := by
  refine returnsInHanded_of_change (C := Try.checked) own_knob started (by kernel_rfl) Try.func4
    (ChangeSpec.witness6 (enc := enc) (C := Try.checked) false ⟨#[], #[.string ⟨#[]⟩, .string ⟨#[]⟩, .slice none 0 0, .slice none 0 0, .int .i64 0, .slice none 0 0], []⟩ 8 (by kernel_rfl) (by kernel_rfl) (by kernel_rfl) (by kernel_rfl)) ?_
  intro W base args ds gs before hval0 hW hcnd _
  have hval : ∀ (j : Nat) t v, Try.f4.params[j]? = some t → args[j]? = some v → Value.okWide Try.prog W .any base t v := hval0
  have hW' := hW
  obtain ⟨p, q, hA0, hV, rfl, hfz, hnd⟩ := hW
  have hA : DataW.TrodAll enc Try.prog W 0 (fun _ => true) true Try.f4.params.toList args.toList ds p := hA0
  rw [Try.params4] at hA hval
  obtain ⟨v0, vs0, d0, ds0, p0, q0, e0, rfl, rfl, h0, hA⟩ := trodAll_cons hA
  obtain ⟨v1, vs1, d1, ds1, p1, q1, rfl, rfl, rfl, h1, hA⟩ := trodAll_cons hA
  obtain ⟨v2, vs2, d2, ds2, p2, q2, rfl, rfl, rfl, h2, hA⟩ := trodAll_cons hA
  obtain ⟨v3, vs3, d3, ds3, p3, q3, rfl, rfl, rfl, h3, hA⟩ := trodAll_cons hA
  obtain ⟨v4, vs4, d4, ds4, p4, q4, rfl, rfl, rfl, h4, hA⟩ := trodAll_cons hA
  obtain ⟨v5, vs5, d5, ds5, p5, q5, rfl, rfl, rfl, h5, hA⟩ := trodAll_cons hA
  obtain ⟨rfl, rfl, rfl⟩ := trodAll_nil hA
  obtain rfl : args = #[v0, v1, v2, v3, v4, v5] := by cases args; simp_all
  obtain ⟨rfl, rfl⟩ := trodVars_none hV
  obtain ⟨s0, rfl, rfl, rfl, hs0⟩ := open_string Try.underlying9 (hval 0 9 v0 rfl rfl) h0
  obtain ⟨s1, rfl, rfl, rfl, hs1⟩ := open_string Try.underlying9 (hval 1 9 v1 rfl rfl) h1
  obtain ⟨a2, n2, c2, rfl⟩ := okWide_slice Try.underlying28 (hval 2 28 v2 rfl rfl)
  obtain ⟨a3, n3, c3, rfl⟩ := okWide_slice Try.underlying22 (hval 3 22 v3 rfl rfl)
  obtain ⟨x4, rfl, rfl, rfl, w4⟩ := open_int Try.underlying3 (hval 4 3 v4 rfl rfl) h4
  obtain ⟨a5, n5, c5, rfl⟩ := okWide_slice Try.underlying28 (hval 5 28 v5 rfl rfl)
  have k2 := h2
  have lt2 : ∀ x ∈ p2, x.block < W.heap.size := by obtain ⟨m, hm⟩ := k2; exact DataW.trod_lt m _ _ _ hm
  have k3 := h3
  have lt3 : ∀ x ∈ p3, x.block < W.heap.size := by obtain ⟨m, hm⟩ := k3; exact DataW.trod_lt m _ _ _ hm
  have k5 := h5
  have lt5 : ∀ x ∈ p5, x.block < W.heap.size := by obtain ⟨m, hm⟩ := k5; exact DataW.trod_lt m _ _ _ hm
  obtain ⟨l2, g2, f2⟩ := open_evs h2
  obtain ⟨l3, g3⟩ := open_scalls h3
  obtain ⟨l5, g5, f5⟩ := open_evs h5
  clear hA0 hval0
  refine (XKeys.walk s0.data.toList s1.data.toList a2 n2 c2 l2 a3 n3 c3 l3 x4 a5 n5 c5 l5 W hs0 hs1 g2 f2 g3 g5 f5).mono fun e W' ⟨he, bel⟩ => ?_
  subst he
  exact ⟨_, rfl, _, _, _, [], _, [], hW', trodAll_mk1 (shut_bool Try.underlying4 _), (trodAll_cons_mk (shut_string Try.underlying9 hs0) (trodAll_cons_mk (shut_string Try.underlying9 hs1) (trodAll_cons_mk (Below.trod laid_out (by kernel_rfl) (of_decide_eq_true (by kernel_rfl)) k2 bel lt2) (trodAll_cons_mk (Below.trod laid_out (by kernel_rfl) (of_decide_eq_true (by kernel_rfl)) k3 bel lt3) (trodAll_cons_mk (shut_int Try.underlying3 w4) (trodAll_cons_mk (Below.trod laid_out (by kernel_rfl) (of_decide_eq_true (by kernel_rfl)) k5 bel lt5) trodAll_mk0)))))), rfl, bel.frame _, fun h => by cases h⟩

theorem streamsKeys_holds : Rows.StreamsKeysSaid :=
  OpenClaim.holds_of_wide 4 Try.f4 rfl rfl rfl rfl rfl rfl rfl ⟨rfl, rfl, rfl, rfl, rfl⟩ rfl rfl rfl rfl rfl (by kernel_rfl) Try.func4 (by kernel_rfl)
    (of_decide_eq_true (by kernel_rfl)) (by unfold Func.isWrapper; first | (rw [if_pos (by decide +kernel)]; kernel_rfl) | (rw [if_neg (by decide +kernel)]; exact ⟨rfl, rfl⟩))
    (fun os started H enc _ => XKeys.lifted os started H enc)
#print axioms streamsKeys_holds
end Go.Proofs.Ytgomncbfhloobaa
