/-
  StreamsOrder: for every calls it returns true, and its argument reads as before. Conditions: none.
-/
import Derived.Test.YtgpijeaehkabdaaXfill
import Derived.Test.YtgpijeaehkabdaaXordM
import Derived.Test.YtgpijeaehkabdaaXapp
namespace Go.Proofs.Ytgpijeaehkabdaa
open Go.ChangeShapes Go.WideShapes Go.ChangeAt Go.RowKit Go.Maps
open Go.ChangeMaps (open_string shut_string)
set_option linter.unusedVariables false

theorem EnBlk.at {w : World} {q n : Nat} {zs : List Eno} (h : EnBlk w q n zs) (i : Nat) (hi : i < zs.length) :
    w.cell? ⟨q, i * 6, none⟩ = some (natV zs[i].pos) ∧ w.cell? ⟨q, i * 6 + 1, none⟩ = some (sv zs[i].e.s) ∧ w.cell? ⟨q, i * 6 + 2, none⟩ = some (natV zs[i].e.num) ∧ w.cell? ⟨q, i * 6 + 3, none⟩ = some (sv zs[i].e.e.type) ∧ w.cell? ⟨q, i * 6 + 4, none⟩ = some (.int .i64 zs[i].e.e.ver) ∧ w.cell? ⟨q, i * 6 + 5, none⟩ = some (.slice (some ⟨zs[i].fb, 0, none⟩) zs[i].e.e.fields.length zs[i].e.e.fields.length) := by
  obtain ⟨⟨cs, h1, h2, h3, h4⟩, _⟩ := h
  obtain ⟨a0, a1, a2, a3, a4, a5⟩ := h4 i hi
  exact ⟨(cell_of_row w q _ cs _ _ h1).trans a0, (cell_of_row w q _ cs _ _ h1).trans a1, (cell_of_row w q _ cs _ _ h1).trans a2, (cell_of_row w q _ cs _ _ h1).trans a3, (cell_of_row w q _ cs _ _ h1).trans a4, (cell_of_row w q _ cs _ _ h1).trans a5⟩

/-- A slice of one entry, just made. -/
abbrev entV (p : Nat) (s : List UInt8) (num : Nat) (ty : List UInt8) (ver : Int) (fb n : Nat) : Array Value := #[.int .i64 (p : Int), sv s, .int .i64 (num : Int), sv ty, .int .i64 ver, .slice (some ⟨fb, 0, none⟩) n n]
theorem one_ent {W : World} {a p num fb n : Nat} {s ty : List UInt8} {ver : Int} {fs : List Fld} (h : W.heap[a]? = some (.cells (entV p s num ty ver fb n) 45 (0, 0))) (hf : FdBlk W fb n fs) (hn : fs.length = n) (h16 : n ≤ 16) : EnL W (.slice (some ⟨a, 0, none⟩) 1 1) [(p, ⟨s, num, ⟨ty, ver, fs⟩⟩)] := by
  refine ⟨_, 1, rfl, by simp, by omega, fun _ => ⟨a, 0, rfl, lt_of_block h, fun i hi => ?_⟩⟩
  have hi0 : i = 0 := by simp at hi; exact hi
  subst hi0
  exact ⟨(cell_of_row W a _ _ _ _ h).trans rfl, (cell_of_row W a _ _ _ _ h).trans rfl, (cell_of_row W a _ _ _ _ h).trans rfl, (cell_of_row W a _ _ _ _ h).trans rfl, (cell_of_row W a _ _ _ _ h).trans rfl, _, _, _, (cell_of_row W a _ _ _ _ h).trans rfl, hf.fdl hn (by omega)⟩
theorem two_blk (w : World) (A B : Obj) : ((w.alloc A).alloc B).drew.heap[w.heap.size]? = some A ∧ ((w.alloc A).alloc B).drew.heap[w.heap.size + 1]? = some B ∧ Below w.heap.size w ((w.alloc A).alloc B).drew := by
  have hb : Below w.heap.size w ((w.alloc A).alloc B).drew := (((Below.refl _ _).alloc (Nat.le_refl _) A).alloc (by simp) B).drew
  refine ⟨?_, ?_, hb⟩
  · show ((w.alloc A).alloc B).heap[w.heap.size]? = _
    rw [Below.heap_alloc _ _ _ (by simp)]
    exact heap_alloc_self _ _
  · have := heap_alloc_self (w.alloc A) B
    rw [alloc_two] at this
    exact this

def Cells6 (W : World) (q o p : Nat) (s : List UInt8) (num : Nat) (ty : List UInt8) (ver : Int) (fb n : Nat) : Prop :=
  W.cell? ⟨q, o, none⟩ = some (.int .i64 (p : Int)) ∧ W.cell? ⟨q, o + 1, none⟩ = some (sv s) ∧ W.cell? ⟨q, o + 2, none⟩ = some (.int .i64 (num : Int)) ∧ W.cell? ⟨q, o + 3, none⟩ = some (sv ty) ∧ W.cell? ⟨q, o + 4, none⟩ = some (.int .i64 ver) ∧ W.cell? ⟨q, o + 5, none⟩ = some (.slice (some ⟨fb, 0, none⟩) n n)
theorem ord_at {W6 : World} {q5 q2 V L i : Nat} {zs5 zs2 : List Eno} {nm : List UInt8} (E5 : EnBlk W6 q5 V zs5) (E2 : EnBlk W6 q2 L zs2) (h5 : zs5.length = V) (h2 : zs2.length = L) (hi : i < V)
    (hent : ∀ i, (h : i < zs5.length) → zs5[i].e.s = nm ∧ zs5[i].e.num = i ∧ zs5[i].pos < L ∧ (∀ h2 : zs5[i].pos < zs2.length, zs2[zs5[i].pos].pos = zs5[i].pos ∧ zs2[zs5[i].pos].e = zs5[i].e)) (hrise : ∀ i, (h : i + 1 < zs5.length) → zs5[i].pos < zs5[i + 1].pos) :
    ∃ (p : Nat) (ty : List UInt8) (ver : Int) (fs : List Fld) (fb fb2 : Nat), p < L ∧ fs.length ≤ 16 ∧ (∀ W, Below W6.heap.size W6 W → Cells6 W q5 (i * 6) p nm i ty ver fb fs.length ∧ Cells6 W q2 (p * 6) p nm i ty ver fb2 fs.length ∧ FdBlk W fb fs.length fs ∧ FdBlk W fb2 fs.length fs) ∧ (∀ i1, i = i1 + 1 → ∃ p0 : Nat, p0 < p ∧ ∀ W, Below W6.heap.size W6 W → W.cell? ⟨q5, i1 * 6, none⟩ = some (.int .i64 (p0 : Int))) := by
  have hi5 : i < zs5.length := by omega
  obtain ⟨a1, a2, a3, a4⟩ := hent i hi5
  have hp2 : zs5[i].pos < zs2.length := by omega
  obtain ⟨b1, b2⟩ := a4 hp2
  refine ⟨zs5[i].pos, zs5[i].e.e.type, zs5[i].e.e.ver, zs5[i].e.e.fields, zs5[i].fb, zs2[zs5[i].pos].fb, a3, (E5.2 _ (List.getElem_mem hi5)).2, fun W hW => ⟨?_, ?_, ((E5.grown hW).2 _ (List.getElem_mem hi5)).1, ?_⟩, fun i1 e => ?_⟩
  · have h := (E5.grown hW).at i hi5
    rw [a1, a2] at h
    exact h
  · have h := (E2.grown hW).at _ hp2
    rw [b1, b2, a1, a2] at h
    exact h
  · have h := ((E2.grown hW).2 _ (List.getElem_mem hp2)).1
    rw [b2] at h
    exact h
  · subst e
    exact ⟨zs5[i1].pos, hrise i1 hi5, fun W hW => ((E5.grown hW).at i1 (by omega)).1⟩

theorem str_le' (a p : List UInt8) : (Op.bytesLess a p || a == p) = decide (a ≤ p) := by
  have e : Op.bytesLess a p = decide (a < p) := Go.Proofs.bytesLess_eq a p
  rw [e]
  by_cases h : a = p
  · subst h; simp
  · have h1 : (a == p) = false := beq_eq_false_iff_ne.2 h
    rw [h1, Bool.or_false]
    by_cases h2 : a < p
    · rw [decide_eq_true h2, decide_eq_true (List.le_of_lt h2)]
    · rw [decide_eq_false h2, decide_eq_false (fun h3 => h2 (le_lt h3 h))]

set_option maxRecDepth 100000 in
set_option maxHeartbeats 16000000 in
theorem XOrder.walk (ca : Option Addr) (cn cc : Nat) (cl : List SCl) (w : World) (hc : SClL w (.slice ca cn cc) cl) :
    Calls Try.prog 3 #[.slice ca cn cc] w fun e w' => e = .returned (.bool true) ∧ Below w.heap.size w w' := by
  have HC := hide hc
  obtain ⟨CN, hCN⟩ : ∃ CN, CN = cl.length := ⟨_, rfl⟩
  obtain rfl : cn = CN := by obtain ⟨_, _, e, _⟩ := hc; cases e; exact hCN.symm
  have HCN := hide hCN
  have hcl : cn ≤ 9223372036854775807 := by obtain ⟨_, _, _, h, _⟩ := hc; omega
  clear hc hCN
  go_enter Try.func3, Try.ntmps3
  go_wp2_with fail
  refine (awake_go _).mono ?_
  rintro e w1 ⟨rfl, b1⟩
  have B1 := hide b1
  clear b1
  go_wp2_with fail
  refine (New_go w1).mono ?_
  rintro e w2 hn
  obtain ⟨x, rfl, _⟩ := id hn
  have ST0 : Hid (LSt w w2 (fun _ => False) x (17 * 0) Ix.new) := hide (((LSt.new (Below.refl _ w1) hn).less (fun q hq => hq.elim)).back (unhide B1))
  clear hn B1
  go_wp2
  go_loopw [5] (fun i wr => ∃ (j : Nat) (I : Ix), i = .int .i64 (j : Int) ∧ j ≤ 60 ∧ j ≤ cn ∧ Hid (LSt w wr (fun _ => False) x (17 * j) I) ∧ Hid (Numd I.all)) (fun i _ => 60 - (intOf i).toNat)
  case atStart => exact ⟨0, _, rfl, by omega, by omega, ST0, hide Numd.nil⟩
  case round =>
    obtain ⟨j, I, rfl, hj, hjn, ST, NU⟩ := hrel
    clear ST0
    obtain ⟨b0, hb0⟩ : ∃ b0, b0 = decide (j < cn ∧ j < 60) := ⟨_, rfl⟩
    have HB0 := hide hb0
    clear hb0
    go_upto_region 6 with fail
    go_cut [34] from 27 to 71 (fun t wx => t = .bool b0 ∧ wx = wr)
    case first =>
      by_cases h1 : j < cn
      · have e1 : decide ((j : Int) < (cn : Int)) = true := decide_eq_true (by omega)
        by_cases h2 : j < 60
        · have e2 : decide ((j : Int) < 60) = true := decide_eq_true (by omega)
          have HE : Hid (b0 = true) := hide (by rw [unhide HB0]; exact decide_eq_true ⟨h1, h2⟩)
          go_wp2
          go_meet
          exact ⟨by rw [unhide HE], rfl⟩
        · have e2 : decide ((j : Int) < 60) = false := decide_eq_false (by omega)
          have HE : Hid (b0 = false) := hide (by rw [unhide HB0]; exact decide_eq_false (fun h => h2 h.2))
          go_wp2
          go_meet
          exact ⟨by rw [unhide HE], rfl⟩
      · have e1 : decide ((j : Int) < (cn : Int)) = false := decide_eq_false (by omega)
        have HE : Hid (b0 = false) := hide (by rw [unhide HB0]; exact decide_eq_false (fun h => h1 h.1))
        go_wp2
        go_meet
        exact ⟨by rw [unhide HE], rfl⟩
    case rest =>
      obtain ⟨rfl, hwc⟩ := hcut
      subst hwc
      rename World => wr
      cases b0 with
      | true =>
        obtain ⟨hl1, hl2⟩ := of_decide_eq_true (unhide HB0).symm
        clear HB0
        have hjl : j < cl.length := by have := unhide HCN; omega
        obtain ⟨ao', cap', e', _, h4⟩ := unhide HC
        obtain ⟨b, off, hea, hb, hcc⟩ := h4 (by omega)
        injection e' with q1 q2 q3
        subst q1
        clear q2 q3
        obtain ⟨c, hcj⟩ : ∃ c, c = cl[j] := ⟨_, rfl⟩
        have hat := hcc j hjl
        rw [← hcj] at hat
        clear hcc h4 hcj
        subst hea
        obtain ⟨cs, ck, ce⟩ := c
        obtain ⟨g1, g2, ⟨ea, en, ec, g5, g6⟩, s1, s2, fit⟩ := hat
        simp only at g1 g2 g5 g6 s1 s2 fit
        have hbel := (unhide ST).bel
        have d1 := (hbel.cell (p := ⟨b, off + j * 10 + 1, none⟩) hb).trans g1
        have d2 := (hbel.cell (p := ⟨b, off + j * 10 + 2, none⟩) hb).trans g2
        have d5 := (hbel.cell (p := ⟨b, off + j * 10 + 5, none⟩) hb).trans g5
        have hbw : b < wr.heap.size := Nat.lt_of_lt_of_le hb hbel.size
        clear g1 g2 g5 hbel
        have hgl : ∀ q, (fun _ : Nat => False) q → q < wr.heap.size := fun q hq => hq.elim
        have HGL := hide hgl
        have SD : Hid (wr.drew.cell? ⟨b, off + j * 10 + 1, none⟩ = some (sv cs) ∧ wr.drew.cell? ⟨b, off + j * 10 + 2, none⟩ = some (sv ck) ∧ wr.drew.cell? ⟨b, off + j * 10 + 5, none⟩ = some (.slice ea en ec)) := hide ⟨d1, d2, d5⟩
        have SV : Hid (∀ V, Below wr.heap.size wr V → V.cell? ⟨b, off + j * 10 + 1, none⟩ = some (sv cs) ∧ V.cell? ⟨b, off + j * 10 + 2, none⟩ = some (sv ck) ∧ V.cell? ⟨b, off + j * 10 + 5, none⟩ = some (.slice ea en ec)) := hide (fun V hV => ⟨(hV.cell (p := ⟨b, off + j * 10 + 1, none⟩) hbw).trans d1, (hV.cell (p := ⟨b, off + j * 10 + 2, none⟩) hbw).trans d2, (hV.cell (p := ⟨b, off + j * 10 + 5, none⟩) hbw).trans d5⟩)
        have HFT := hide (And.intro s1 (And.intro s2 fit))
        have R0 := hide (RSt.start wr)
        have RA : Hid (RSt wr (wr.alloc zApp).drew (some wr.heap.size) none) := hide (unhide R0).allocA
        have RB : Hid (RSt wr (wr.alloc zBt).drew none (some wr.heap.size)) := hide (unhide R0).allocB
        have RAB : Hid (RSt wr ((wr.alloc zApp).alloc zBt).drew (some wr.heap.size) (some (wr.alloc zApp).heap.size)) := hide (unhide R0).allocA.allocB
        have RBA : Hid (RSt wr ((wr.alloc zBt).alloc zApp).drew (some (wr.alloc zBt).heap.size) (some wr.heap.size)) := hide (unhide R0).allocB.allocA
        have RAB1 : Hid (RSt wr ((wr.alloc zApp).alloc zBt).drew (some wr.heap.size) (some (wr.heap.size + 1))) := hide (by have := unhide RAB; rwa [alloc_two] at this)
        have RBA1 : Hid (RSt wr ((wr.alloc zBt).alloc zApp).drew (some (wr.heap.size + 1)) (some wr.heap.size)) := hide (by have := unhide RBA; rwa [alloc_two] at this)
        have SA := hide (unhide SV _ (unhide RA).bel)
        have SB := hide (unhide SV _ (unhide RB).bel)
        have SAB := hide (unhide SV _ (unhide RAB).bel)
        have SBA := hide (unhide SV _ (unhide RBA).bel)
        clear hgl
        go_upto_region 8 with fail
        go_cut [6, 7, 8] from 27 to 71 (fun t19 t20 t21 wx => TrR w wr (fun _ => False) x (17 * j) I cs ck ce t19 t20 t21 wx)
        case first =>
          by_cases hok : tryOk I cs (-1) ck ce
          · have C := hide (fun V hV => (unhide ST).try_ok cs s1 (-1) ck s2 ea en ec ce g6 fit hok V hV)
            have HOK2 := hide hok
            obtain ⟨vs, hvs⟩ : ∃ vs : Nat, vs = I.ver cs := ⟨_, rfl⟩
            obtain ⟨al, hal⟩ : ∃ al : Nat, al = I.all.length := ⟨_, rfl⟩
            obtain ⟨en2, hen2⟩ : ∃ en2 : Nat, en2 = ce.length := ⟨_, rfl⟩
            have HVS := hide hvs
            have HEN2 := hide hen2
            rw [← hvs, ← hal, ← hen2] at C
            clear hok d1 d2 d5 s1 s2 fit g6 hvs hal hen2
            have C0 := hide (unhide C _ (unhide R0).bel)
            have CA := hide (unhide C _ (unhide RA).bel)
            have CB := hide (unhide C _ (unhide RB).bel)
            have CAB := hide (unhide C _ (unhide RAB).bel)
            have CBA := hide (unhide C _ (unhide RBA).bel)
            clear C
            go_region_held3 (fun w' => w'.cell? ⟨b, off + j * 10 + 1, none⟩ = some (sv cs) ∧ w'.cell? ⟨b, off + j * 10 + 2, none⟩ = some (sv ck) ∧ w'.cell? ⟨b, off + j * 10 + 5, none⟩ = some (.slice ea en ec))
              (first | with_reducible exact unhide SD | with_reducible exact unhide SA | with_reducible exact unhide SB | with_reducible exact unhide SAB | with_reducible exact unhide SBA | with_reducible exact unhide S1 | with_reducible exact keepA (unhide S1) | with_reducible exact keepA (keepA (unhide S1)) | with_reducible exact keepA (by assumption) | with_reducible exact keepS (by simp <;> omega) (by assumption))
              ((go_at_call 11; (first
                | (with_reducible refine (unhide C0).mono ?_; have RV := R0; rintro e w6 ⟨q, ys, rfl, b6, g6⟩; have R6 := hide ((unhide RV).next b6); have G6 := hide g6; have S1 := hide (unhide SV w6 (unhide R6).bel); have zv := hide (unhide RV).bel.size; have z6 : wr.heap.size ≤ w6.heap.size := (unhide R6).bel.size; clear b6 g6; obtain ⟨n0, n1, n2, n3, n4⟩ := ((((unhide R6).allocB.next ((Below.refl _ _).alloc (Nat.le_refl _) (.cells (apV vs al en2 false) 27))).bbox)).cells)
                | (with_reducible refine (unhide CA).mono ?_; have RV := RA; rintro e w6 ⟨q, ys, rfl, b6, g6⟩; have R6 := hide ((unhide RV).next b6); have G6 := hide g6; have S1 := hide (unhide SV w6 (unhide R6).bel); have zv := hide (unhide RV).bel.size; have z6 : wr.heap.size ≤ w6.heap.size := (unhide R6).bel.size; clear b6 g6; obtain ⟨m0, m1, m2, m3, m4⟩ := ((unhide R6).allocB.abox).cells; obtain ⟨n0, n1, n2, n3, n4⟩ := (((unhide R6).allocB.bbox).other (q := wr.heap.size) (Nat.ne_of_gt (unhide R6).alt) (vs : Int) (al : Int) (en2 : Int) false).cells)
                | (with_reducible refine (unhide CB).mono ?_; have RV := RB; rintro e w6 ⟨q, ys, rfl, b6, g6⟩; have R6 := hide ((unhide RV).next b6); have G6 := hide g6; have S1 := hide (unhide SV w6 (unhide R6).bel); have zv := hide (unhide RV).bel.size; have z6 : wr.heap.size ≤ w6.heap.size := (unhide R6).bel.size; clear b6 g6; obtain ⟨n0, n1, n2, n3, n4⟩ := (((unhide R6).next ((Below.refl _ _).alloc (Nat.le_refl _) (.cells (apV vs al en2 false) 27))).bbox).cells)
                | (with_reducible refine (unhide CAB).mono ?_; have RV := RAB1; rintro e w6 ⟨q, ys, rfl, b6, g6⟩; have R6 := hide ((unhide RV).next b6); have G6 := hide g6; have S1 := hide (unhide SV w6 (unhide R6).bel); have zv := hide (unhide RV).bel.size; have z6 : wr.heap.size ≤ w6.heap.size := (unhide R6).bel.size; clear b6 g6; obtain ⟨m0, m1, m2, m3, m4⟩ := ((unhide R6).abox).cells; obtain ⟨n0, n1, n2, n3, n4⟩ := (((unhide R6).bbox).other (q := wr.heap.size) (by omega) (vs : Int) (al : Int) (en2 : Int) false).cells)
                | (with_reducible refine (unhide CBA).mono ?_; have RV := RBA1; rintro e w6 ⟨q, ys, rfl, b6, g6⟩; have R6 := hide ((unhide RV).next b6); have G6 := hide g6; have S1 := hide (unhide SV w6 (unhide R6).bel); have zv := hide (unhide RV).bel.size; have z6 : wr.heap.size ≤ w6.heap.size := (unhide R6).bel.size; clear b6 g6; obtain ⟨m0, m1, m2, m3, m4⟩ := ((unhide R6).abox).cells; obtain ⟨n0, n1, n2, n3, n4⟩ := (((unhide R6).bbox).other (q := wr.heap.size + 1) (by omega) (vs : Int) (al : Int) (en2 : Int) false).cells))))
            all_goals go_wp2
            all_goals go_meet
            all_goals
              obtain rfl := unhide HVS
              obtain rfl := unhide HEN2
            all_goals first
              | with_reducible exact TrR.okAB (unhide ST) (unhide HGL) (unhide R6).bel (unhide HOK2) (unhide zv) (unhide G6) _ _ _ _
              | with_reducible exact TrR.okBA (unhide ST) (unhide HGL) (unhide R6).bel (unhide HOK2) (unhide zv) (unhide G6) _ _ _ _
              | with_reducible exact TrR.okB (unhide ST) (unhide HGL) (unhide R6) (unhide HOK2) (unhide zv) (unhide G6) _ _ _ _
              | with_reducible exact TrR.ok (unhide ST) (unhide HGL) (unhide R6).allocB (unhide HOK2) (unhide zv) (unhide G6) ((Below.refl _ _).alloc (Nat.le_refl _) _) _ _ _ _
              | with_reducible exact TrR.ok (unhide ST) (unhide HGL) (unhide R6) (unhide HOK2) (unhide zv) (unhide G6) (Below.refl _ _) _ _ _ _
          · obtain ⟨f, p, c, t, err, hA, hbad⟩ := tryA_bad hok
            have C := hide (fun V hV => (unhide ST).try_bad cs s1 (-1) ck s2 ea en ec ce g6 fit f p c t err hA hbad V hV)
            have HOK2 := hide hok
            clear hok d1 d2 d5 s1 s2 fit g6 hA hbad
            have C0 := hide (unhide C _ (unhide R0).bel)
            have CA := hide (unhide C _ (unhide RA).bel)
            have CB := hide (unhide C _ (unhide RB).bel)
            have CAB := hide (unhide C _ (unhide RAB).bel)
            have CBA := hide (unhide C _ (unhide RBA).bel)
            clear C
            go_region_held3 (fun w' => w'.cell? ⟨b, off + j * 10 + 1, none⟩ = some (sv cs) ∧ w'.cell? ⟨b, off + j * 10 + 2, none⟩ = some (sv ck) ∧ w'.cell? ⟨b, off + j * 10 + 5, none⟩ = some (.slice ea en ec))
              (first | with_reducible exact unhide SD | with_reducible exact unhide SA | with_reducible exact unhide SB | with_reducible exact unhide SAB | with_reducible exact unhide SBA | with_reducible exact unhide S1 | with_reducible exact keepA (unhide S1) | with_reducible exact keepA (keepA (unhide S1)) | with_reducible exact keepA (by assumption) | with_reducible exact keepS (by simp <;> omega) (by assumption))
              ((go_at_call 11; (first
                | (with_reducible refine (unhide C0).mono ?_; have RV := R0; rintro e w6 ⟨rfl, b6⟩; have R6 := hide ((unhide RV).next b6); have S1 := hide (unhide SV w6 (unhide R6).bel); have zv := hide (unhide RV).bel.size; have z6 : wr.heap.size ≤ w6.heap.size := (unhide R6).bel.size; clear b6; obtain ⟨n0, n1, n2, n3, n4⟩ := ((((unhide R6).allocB.next ((Below.refl _ _).alloc (Nat.le_refl _) (.cells (apV f p c t) 27))).bbox)).cells)
                | (with_reducible refine (unhide CA).mono ?_; have RV := RA; rintro e w6 ⟨rfl, b6⟩; have R6 := hide ((unhide RV).next b6); have S1 := hide (unhide SV w6 (unhide R6).bel); have zv := hide (unhide RV).bel.size; have z6 : wr.heap.size ≤ w6.heap.size := (unhide R6).bel.size; clear b6; obtain ⟨m0, m1, m2, m3, m4⟩ := ((unhide R6).allocB.abox).cells; obtain ⟨n0, n1, n2, n3, n4⟩ := (((unhide R6).allocB.bbox).other (q := wr.heap.size) (Nat.ne_of_gt (unhide R6).alt) f p c t).cells)
                | (with_reducible refine (unhide CB).mono ?_; have RV := RB; rintro e w6 ⟨rfl, b6⟩; have R6 := hide ((unhide RV).next b6); have S1 := hide (unhide SV w6 (unhide R6).bel); have zv := hide (unhide RV).bel.size; have z6 : wr.heap.size ≤ w6.heap.size := (unhide R6).bel.size; clear b6; obtain ⟨n0, n1, n2, n3, n4⟩ := (((unhide R6).next ((Below.refl _ _).alloc (Nat.le_refl _) (.cells (apV f p c t) 27))).bbox).cells)
                | (with_reducible refine (unhide CAB).mono ?_; have RV := RAB1; rintro e w6 ⟨rfl, b6⟩; have R6 := hide ((unhide RV).next b6); have S1 := hide (unhide SV w6 (unhide R6).bel); have zv := hide (unhide RV).bel.size; have z6 : wr.heap.size ≤ w6.heap.size := (unhide R6).bel.size; clear b6; obtain ⟨m0, m1, m2, m3, m4⟩ := ((unhide R6).abox).cells; obtain ⟨n0, n1, n2, n3, n4⟩ := (((unhide R6).bbox).other (q := wr.heap.size) (by omega) f p c t).cells)
                | (with_reducible refine (unhide CBA).mono ?_; have RV := RBA1; rintro e w6 ⟨rfl, b6⟩; have R6 := hide ((unhide RV).next b6); have S1 := hide (unhide SV w6 (unhide R6).bel); have zv := hide (unhide RV).bel.size; have z6 : wr.heap.size ≤ w6.heap.size := (unhide R6).bel.size; clear b6; obtain ⟨m0, m1, m2, m3, m4⟩ := ((unhide R6).abox).cells; obtain ⟨n0, n1, n2, n3, n4⟩ := (((unhide R6).bbox).other (q := wr.heap.size + 1) (by omega) f p c t).cells))))
            all_goals go_wp2
            all_goals go_meet
            all_goals first
              | with_reducible exact TrR.badAB (unhide ST) (unhide HGL) (unhide R6).bel (unhide HOK2) _ _ _ _ _
              | with_reducible exact TrR.badBA (unhide ST) (unhide HGL) (unhide R6).bel (unhide HOK2) _ _ _ _ _
              | with_reducible exact TrR.badB (unhide ST) (unhide HGL) (unhide R6) (unhide HOK2) _ _ _ _ _
              | with_reducible exact TrR.bad (unhide ST) (unhide HGL) (unhide R6).allocB (unhide HOK2) _ _ _ _ _
              | with_reducible exact TrR.bad (unhide ST) (unhide HGL) (unhide R6) (unhide HOK2) _ _ _ _ _
        case rest =>
          obtain ⟨ab2, bb, rfl, rfl, hcase, hG⟩ := hcut
          obtain ⟨W7, hW7⟩ : ∃ W7, W7 = wc := ⟨_, rfl⟩
          rw [← hW7] at hcase hG ⊢
          clear hW7
          clear hG ST HGL SD SV R0 RA RB RAB RBA RAB1 RBA1 SA SB SAB SBA d1 d2 d5 g6
          rcases hcase with ⟨hok, rfl, q7, hB, hH, h1⟩ | ⟨hok, hB, hL, err, rfl⟩
          · have hl16 := hok.2.2.1.2.1
            have CA7 := hide ((hH.less (G' := fun _ => False) (fun q hq => hq.elim)).add cs s1 ck s2 fit hok (by omega) (fun q hq => hq.elim))
            obtain ⟨vs, hvs⟩ : ∃ vs : Nat, vs = I.ver cs := ⟨_, rfl⟩
            obtain ⟨en2, hen2⟩ : ∃ en2 : Nat, en2 = ce.length := ⟨_, rfl⟩
            have NU8 : Hid (Numd (I.added cs ck vs ce).all) := hide (by rw [hvs]; exact (unhide NU).added cs ck ce)
            rw [← hvs, ← hen2] at hB
            rw [← hvs, ← hen2] at CA7
            rw [← hen2] at hl16 h1
            have hgt : decide ((0 : Int) < (en2 : Int)) = true := decide_eq_true (by omega)
            obtain ⟨c0, c1, c2, c3, c4⟩ := hB.cells
            clear hok hB hH hvs hen2 s1 s2 fit
            go_wp2_with fail
            refine (unhide CA7).mono ?_
            rintro e w8 ⟨rfl, st8, k8⟩
            have ST8 : Hid (LSt w w8 (fun _ => False) x (17 * (j + 1)) (I.added cs ck vs ce)) := hide (st8.more (by omega))
            clear st8 k8 CA7 c0 c1 c2 c3 c4
            go_wp2
            go_roundw
            case rel => exact ⟨j + 1, _, by go_num, by omega, by omega, ST8, NU8⟩
            case measure => simp [intOf]; omega
          · have ST8 : Hid (LSt w W7 (fun _ => False) x (17 * (j + 1)) I) := hide (hL.more (by omega))
            obtain ⟨c0, c1, c2, c3, c4⟩ := hB.cells
            clear hok hB hL s1 s2 fit
            by_cases he : err = 0
            · subst he
              go_wp2
              go_roundw
              case rel => exact ⟨j + 1, _, by go_num, by omega, by omega, ST8, NU⟩
              case measure => simp [intOf]; omega
            · have hne : (err == 0) = false := beq_eq_false_iff_ne.2 he
              clear he
              go_wp2
              go_roundw
              case rel => exact ⟨j + 1, _, by go_num, by omega, by omega, ST8, NU⟩
              case measure => simp [intOf]; omega
      | false =>
        clear HB0 HC HCN
        obtain ⟨F, hi, hF⟩ := ((unhide ST).more (N' := 1020) (by omega)).ix
        have CA := hide (All_big hi (by omega))
        have HI := hide hi
        have BL := hide (unhide ST).bel
        have hlN : I.all.length ≤ 1020 := by obtain ⟨st, _, _, mp, mk, xs, av, pf, D1, D2, hin⟩ := hi; exact hin.len
        clear hi hF ST
        obtain ⟨L, hL⟩ : ∃ L, L = I.all.length := ⟨_, rfl⟩
        have HL := hide hL
        rw [← hL] at hlN
        go_wp2_with fail
        refine (unhide CA).mono ?_
        clear CA
        rintro e W2 ⟨q2, zs2, rfl, st2⟩
        rw [← hL] at st2 ⊢
        have HI2 := hide ((unhide HI).grown st2.bel)
        have BL2 := hide ((unhide BL).trans (st2.bel.mono (unhide BL).size))
        have ST2 := hide st2
        have CL := hide (Len_go (unhide HI2))
        rw [← hL] at CL
        clear st2 hL HI BL
        have hLL : ((L : Int) != (L : Int)) = false := by simp
        go_wp2_with (go_at_call 14; refine (unhide CL).mono ?_; rintro e W3 ⟨rfl, b3⟩; have HI3 := hide ((unhide HI2).grown b3); have BL3 := hide ((unhide BL2).trans (b3.mono (unhide BL2).size)); have EB3 := hide ((unhide ST2).blk.grown b3); clear b3)
        clear CL HI2 BL2 hLL
        have hz2 := (unhide ST2).len
        rename World => W3
        go_loopw [11] (fun i wr => ∃ k : Nat, i = .int .i64 k ∧ k ≤ L ∧ Hid (wr = W3)) (fun i _ => L - (intOf i).toNat)
        case atStart => exact ⟨0, rfl, by omega, hide rfl⟩
        case round =>
          obtain ⟨k0, rfl, hk0, hw3⟩ := hrel
          have hw3' := unhide hw3
          subst hw3'
          clear hw3
          by_cases hlt : k0 < L
          · have hp0 : wr.cell? ⟨q2, k0 * 6, none⟩ = some (.int .i64 (k0 : Int)) := by
              have h := ((unhide EB3).at k0 (by omega)).1
              rw [((unhide ST2).ent k0 (by omega)).1, Nat.zero_add] at h
              exact h
            have hkk : ((k0 : Int) != (k0 : Int)) = false := by simp
            have hk1 : (k0 : Int) < (L : Int) := by omega
            go_wp2_with fail
            go_roundw
            case rel => exact ⟨k0 + 1, by go_num, by omega, hide trivial⟩
            case measure => simp [intOf]; omega
          · have CN := hide (Names_once (unhide HI3) (by omega))
            have hk1 : ¬ (k0 : Int) < (L : Int) := by omega
            go_wp2_with fail
            refine (unhide CN).mono ?_
            clear CN
            rintro e W4 ⟨va, vc, ns, rfl, hns, hmem, hnl, hnc, hvc, hrow, b4⟩
            have HI4 := hide ((unhide HI3).grown b4)
            have BL4 := hide ((unhide BL3).trans (b4.mono (unhide BL3).size))
            have EB4 := hide ((unhide EB3).grown b4)
            have HNS := hide (And.intro hns (And.intro hmem hnl))
            have HRW := hide hrow
            have HSUM : Hid (sumP I.all ns = L) := hide (by
              rw [unhide HL]
              exact sum_all (hns.imp (fun {a b} h e => by rw [e] at h; exact List.lt_irrefl _ h)) I.all (fun y hy => by
                obtain ⟨p, hp⟩ := List.mem_iff_getElem?.1 hy
                exact (hmem _).2 (List.ne_nil_of_mem (plc_mem hp))))
            obtain ⟨NS, hNS⟩ : ∃ NS, NS = ns.length := ⟨_, rfl⟩
            have HNN := hide hNS
            rw [← hNS] at hnc ⊢
            clear hns hmem hnl hrow b4 HI3 BL3 EB3 hNS hlt hk1
            go_wp2_with fail
            rename World => W4
            go_loopw [13, 14, 15, 16, 17, 18] (fun t13 t14 _ _ _ _ wr => ∃ k : Nat, t14 = .int .i64 k ∧ k ≤ NS ∧ t13 = .int .i64 (sumP I.all (ns.take k) : Nat) ∧ Hid (Below W4.heap.size W4 wr)) (fun _ t14 _ _ _ _ _ => NS - (intOf t14).toNat)
            case atStart => exact ⟨0, rfl, by omega, by simp [sumP], hide (Below.refl _ _)⟩
            case round =>
              obtain ⟨k, rfl, hk, rfl, HB⟩ := hrel
              obtain ⟨M, hM⟩ : ∃ M, M = sumP I.all (ns.take k) := ⟨_, rfl⟩
              have HM := hide hM
              have hML : M ≤ L := by rw [hM, ← unhide HSUM]; exact sumP_mono ns k
              rw [← hM]
              clear hM
              by_cases hlt : k < NS
              · obtain ⟨nm, hnm⟩ : ∃ nm, ns[k]? = some nm := ⟨_, List.getElem?_eq_getElem (by rw [← unhide HNN]; exact hlt)⟩
                have hmemN := List.mem_of_getElem? hnm
                have hnmL : nm.length ≤ maxLen := (unhide HNS).2.2 nm hmemN
                have hV1 : 1 ≤ I.ver nm := List.length_pos_iff.2 (((unhide HNS).2.1 nm).1 hmemN)
                obtain ⟨g, rfl, hg, hcs⟩ := unhide HRW (by rw [← unhide HNN]; omega)
                have HCell : Hid (∀ W, Below W4.heap.size W4 W → ∀ (i : Nat) s, ns[i]? = some s → W.cell? ⟨g, i, none⟩ = some (sv s)) := hide (fun W hW i s hs => (hW.cell (p := ⟨g, i, none⟩) hg).trans (hcs i s hs))
                have hc := unhide HCell wr (unhide HB) k nm hnm
                have HNX : Hid (sumP I.all (ns.take (k + 1)) = M + I.ver nm) := hide (by rw [unhide HM]; exact sumP_take hnm)
                have HLE : Hid (M + I.ver nm ≤ L) := hide (by rw [← unhide HNX, ← unhide HSUM]; exact sumP_mono ns (k + 1))
                have HNM := hide hnm
                have CS := hide (Stream_big ((unhide HI4).grown (unhide HB)) (by omega) nm hnmL)
                obtain ⟨V, hV⟩ : ∃ V, V = I.ver nm := ⟨_, rfl⟩
                have HV := hide hV
                rw [← hV] at hV1 HNX HLE
                have hVL : V ≤ L := by have := unhide HLE; omega
                have hk1 : (k : Int) < (NS : Int) := by omega
                have HNL := hide hnmL
                clear hnm hmemN hcs hV hnmL
                go_wp2_with fail
                refine (unhide CS).mono ?_
                clear CS
                rintro e W5 ⟨q5, zs5, rfl, st5⟩
                rw [← unhide HV] at st5 ⊢
                have HB5 := hide ((unhide HB).trans (st5.bel.mono (unhide HB).size))
                have ST5 := hide st5
                have R0 : Hid (Below W5.heap.size W5 W5.drew) := hide (Below.refl _ _).drew
                have CV0 : Hid (Calls Try.prog 17 #[.pointer (some ⟨x, 0, none⟩), sv nm] W5.drew fun e w' => e = .returned (.int .i64 (V : Int)) ∧ Below W5.drew.heap.size W5.drew w') := hide (by
                  have := Version_go (((unhide HI4).grown (unhide HB5)).grown (unhide R0)) nm (unhide HNL)
                  rw [← unhide HV] at this
                  exact this)
                have hc5 := unhide HCell W5 (unhide HB5) k nm (unhide HNM)
                clear st5 hc
                have f1 : ((V : Int) != (V : Int)) = false := by simp
                have f2 : ((V : Int) == 0) = false := by rw [beq_eq_false_iff_ne]; omega
                go_upto_region 25 with fail
                go_cut [149] from 101 to 221 (fun t wx => t = .bool false ∧ Hid (Below W5.heap.size W5 wx))
                case first =>
                  by_cases hk0 : 0 < k
                  · as_aux_lemma =>
                      obtain ⟨k1, hk1e⟩ : ∃ k1, k = k1 + 1 := ⟨k - 1, by omega⟩
                      obtain ⟨pm, hpm⟩ : ∃ pm, ns[k1]? = some pm := ⟨_, List.getElem?_eq_getElem (by rw [← unhide HNN]; omega)⟩
                      have hc6 := unhide HCell W5 (unhide HB5) k1 pm hpm
                      have hlt2 : pm < nm := by
                        obtain ⟨i1, e1⟩ := List.getElem?_eq_some_iff.1 hpm
                        obtain ⟨i2, e2⟩ := List.getElem?_eq_some_iff.1 (unhide HNM)
                        have := List.pairwise_iff_getElem.1 (unhide HNS).1 k1 k i1 i2 (by omega)
                        rw [e1, e2] at this
                        exact this
                      have hle : (Op.bytesLess nm pm || nm == pm) = false := by
                        rw [str_le', decide_eq_false_iff_not]
                        exact fun h => List.lt_irrefl _ (List.lt_of_le_of_lt h hlt2)
                      have hw : IntKind.i64.wrap ((k : Int) - 1) = (k1 : Int) := by rw [IntKind.wrap_i64]; omega
                      have d0 : decide ((0 : Int) < (k : Int)) = true := decide_eq_true (by omega)
                      have d0' : decide (0 < k) = true := decide_eq_true hk0
                      have b1 : (k1 : Int) < (NS : Int) := by omega
                      have b2 : k1 < NS := by omega
                      have SV : Hid (∀ V', Below W5.heap.size W5 V' → V'.cell? ⟨g, k, none⟩ = some (sv nm) ∧ V'.cell? ⟨g, k1, none⟩ = some (sv pm)) := hide (fun V' hV' => ⟨unhide HCell V' ((unhide HB5).trans (hV'.mono (unhide HB5).size)) k nm (unhide HNM), unhide HCell V' ((unhide HB5).trans (hV'.mono (unhide HB5).size)) k1 pm hpm⟩)
                      have SD := hide (unhide SV _ (unhide R0))
                      have S0 := hide (And.intro hc5 hc6)
                      clear hlt2 hpm hk1e hk0
                      go_region_held3 (fun w' => w'.cell? ⟨g, k, none⟩ = some (sv nm) ∧ w'.cell? ⟨g, k1, none⟩ = some (sv pm))
                        (first | with_reducible exact unhide S0 | with_reducible exact unhide SD | with_reducible exact unhide S1)
                        ((go_at_call 17; ((with_reducible refine (unhide CV0).mono ?_); rintro e w6 ⟨rfl, b6⟩; have B6 := hide ((unhide R0).trans (b6.mono (unhide R0).size)); have S1 := hide (unhide SV w6 (unhide B6)); clear b6)))
                      rename_i hh
                      clear hh
                      go_wp2
                      go_meet
                      exact ⟨rfl, B6⟩
                  · as_aux_lemma =>
                      obtain rfl : k = 0 := by omega
                      have d0 : decide ((0 : Int) < ((0 : Nat) : Int)) = false := by decide
                      have SV : Hid (∀ V', Below W5.heap.size W5 V' → V'.cell? ⟨g, 0, none⟩ = some (sv nm)) := hide (fun V' hV' => unhide HCell V' ((unhide HB5).trans (hV'.mono (unhide HB5).size)) 0 nm (unhide HNM))
                      clear hk0
                      refine wp_region_held_drew (S := fun w' => w'.cell? ⟨g, 0, none⟩ = some (sv nm)) (by kernel_rfl) (unhide SV _ (unhide R0)) (fun hS => ?_)
                      refine wpAnyH_take (i := 0) (oi := ?o0) (v := ?v0) ?h0 (by kernel_rfl) (by kernel_rfl) (by kernel_rfl) ?q0 (Or.inl ⟨?w0, ?y0⟩) hS ?r0
                      case h0 => (simp only [List.getElem?_toArray, List.getElem?_cons_zero]; rfl)
                      case w0 => rfl
                      case q0 => exact fun _ _ _ h => h
                      case y0 =>
                        intro w' hSw
                        try dsimp only at hSw
                        go_simp
                        with_reducible rfl
                      try simp only [Act.put, List.setIfInBounds_toArray, List.set_cons_zero, List.set_cons_succ]
                      refine wpAnyH_take (i := 1) (oi := ?o1) (v := ?v1) ?h1 (by kernel_rfl) (by kernel_rfl) (by kernel_rfl) ?q1 (Or.inl ⟨?w1, ?y1⟩) hS ?r1
                      case h1 => (simp only [List.getElem?_toArray, List.getElem?_cons_succ, List.getElem?_cons_zero]; rfl)
                      case w1 => rfl
                      case q1 => exact fun _ _ _ h => h
                      case y1 =>
                        intro w' hSw
                        try dsimp only at hSw
                        go_simp
                        with_reducible rfl
                      try simp only [Act.put, List.setIfInBounds_toArray, List.set_cons_zero, List.set_cons_succ]
                      refine wpAnyH_take (i := 2) (oi := ?o2) (v := ?v2) ?h2 (by kernel_rfl) (by kernel_rfl) (by kernel_rfl) ?q2 (Or.inl ⟨?w2, ?y2⟩) hS ?r2
                      case h2 => (simp only [List.getElem?_toArray, List.getElem?_cons_succ, List.getElem?_cons_zero]; rfl)
                      case w2 => rfl
                      case q2 => exact fun _ _ _ h => h
                      case y2 =>
                        intro w' hSw
                        try dsimp only at hSw
                        go_simp
                        with_reducible rfl
                      try simp only [Act.put, List.setIfInBounds_toArray, List.set_cons_zero, List.set_cons_succ]
                      refine wpAnyH_take (i := 3) (oi := ?o3) (v := ?v3) ?h3 (by kernel_rfl) (by kernel_rfl) (by kernel_rfl) ?q3 (Or.inl ⟨?w3, ?y3⟩) hS ?r3
                      case h3 => (simp only [List.getElem?_toArray, List.getElem?_cons_succ, List.getElem?_cons_zero]; rfl)
                      case w3 => rfl
                      case q3 => exact fun _ _ _ h => h
                      case y3 =>
                        intro w' hSw
                        try dsimp only at hSw
                        go_simp
                        with_reducible rfl
                      try simp only [Act.put, List.setIfInBounds_toArray, List.set_cons_zero, List.set_cons_succ]
                      refine wpAnyH_take (i := 4) (oi := ?o4) (v := ?v4) ?h4 (by kernel_rfl) (by kernel_rfl) (by kernel_rfl) ?q4 (Or.inl ⟨?w4, ?y4⟩) hS ?r4
                      case h4 => (simp only [List.getElem?_toArray, List.getElem?_cons_succ, List.getElem?_cons_zero]; rfl)
                      case w4 => rfl
                      case q4 => exact fun _ _ _ h => h
                      case y4 =>
                        intro w' hSw
                        try dsimp only at hSw
                        go_simp
                        with_reducible rfl
                      try simp only [Act.put, List.setIfInBounds_toArray, List.set_cons_zero, List.set_cons_succ]
                      refine wpAnyH_take (i := 5) (oi := ?o5) (v := ?v5) ?h5 (by kernel_rfl) (by kernel_rfl) (by kernel_rfl) ?q5 (Or.inl ⟨?w5, ?y5⟩) hS ?r5
                      case h5 => (simp only [List.getElem?_toArray, List.getElem?_cons_succ, List.getElem?_cons_zero]; rfl)
                      case w5 => rfl
                      case q5 => exact fun _ _ _ h => h
                      case y5 =>
                        intro w' hSw
                        try dsimp only at hSw
                        go_simp
                        with_reducible rfl
                      try simp only [Act.put, List.setIfInBounds_toArray, List.set_cons_zero, List.set_cons_succ]
                      refine wpAnyH_take (i := 6) (oi := ?o6) (v := ?v6) ?h6 (by kernel_rfl) (by kernel_rfl) (by kernel_rfl) ?q6 (Or.inl ⟨?w6, ?y6⟩) hS ?r6
                      case h6 => (simp only [List.getElem?_toArray, List.getElem?_cons_succ, List.getElem?_cons_zero]; rfl)
                      case w6 => rfl
                      case q6 => exact fun _ _ _ h => h
                      case y6 =>
                        intro w' hSw
                        try dsimp only at hSw
                        go_simp
                        with_reducible rfl
                      try simp only [Act.put, List.setIfInBounds_toArray, List.set_cons_zero, List.set_cons_succ]
                      refine wpAnyH_take (i := 7) (oi := ?o7) (v := ?v7) ?h7 (by kernel_rfl) (by kernel_rfl) (by kernel_rfl) ?q7 (Or.inl ⟨?w7, ?y7⟩) hS ?r7
                      case h7 => (simp only [List.getElem?_toArray, List.getElem?_cons_succ, List.getElem?_cons_zero]; rfl)
                      case w7 => rfl
                      case q7 => exact fun _ _ _ h => h
                      case y7 =>
                        intro w' hSw
                        try dsimp only at hSw
                        go_simp
                        with_reducible rfl
                      try simp only [Act.put, List.setIfInBounds_toArray, List.set_cons_zero, List.set_cons_succ]
                      refine wpAnyH_take (i := 8) (oi := ?o8) (v := ?v8) ?h8 (by kernel_rfl) (by kernel_rfl) (by kernel_rfl) ?q8 (Or.inl ⟨?w8, ?y8⟩) hS ?r8
                      case h8 => (simp only [List.getElem?_toArray, List.getElem?_cons_succ, List.getElem?_cons_zero]; rfl)
                      case w8 => rfl
                      case q8 => exact fun _ _ _ h => h
                      case y8 =>
                        intro w' hSw
                        try dsimp only at hSw
                        go_simp
                        with_reducible rfl
                      try simp only [Act.put, List.setIfInBounds_toArray, List.set_cons_zero, List.set_cons_succ]
                      refine wpAnyH_take (i := 9) (oi := ?o9) (v := ?v9) ?h9 (by kernel_rfl) (by kernel_rfl) (by kernel_rfl) ?q9 (Or.inl ⟨?w9, ?y9⟩) hS ?r9
                      case h9 => (simp only [List.getElem?_toArray, List.getElem?_cons_succ, List.getElem?_cons_zero]; rfl)
                      case w9 => rfl
                      case q9 => exact fun _ _ _ h => h
                      case y9 =>
                        intro w' hSw
                        try dsimp only at hSw
                        go_simp
                        with_reducible rfl
                      try simp only [Act.put, List.setIfInBounds_toArray, List.set_cons_zero, List.set_cons_succ]
                      refine wpAnyH_ready (rs := [10]) (by kernel_rfl) (by simp) ?_
                      refine AllReadyH.cons (o := ?o10) ?h10 (fun K hK => ?_) AllReadyH.nil
                      case h10 => (simp only [List.getElem?_toArray, List.getElem?_cons_succ, List.getElem?_cons_zero]; rfl)
                      go_simp
                      refine (unhide CV0).mono ?_
                      rintro e w6 ⟨rfl, b6⟩
                      have B6 := hide ((unhide R0).trans (b6.mono (unhide R0).size))
                      clear b6
                      refine hK.out _ _ (unhide SV w6 (unhide B6)) (fun hS => ?_)
                      clear hK K
                      try simp only [Act.put, List.setIfInBounds_toArray, List.set_cons_zero, List.set_cons_succ]
                      refine wpAnyH_take (i := 11) (oi := ?o11) (v := ?v11) ?h11 (by kernel_rfl) (by kernel_rfl) (by kernel_rfl) ?q11 (Or.inl ⟨?w11, ?y11⟩) hS ?r11
                      case h11 => (simp only [List.getElem?_toArray, List.getElem?_cons_succ, List.getElem?_cons_zero]; rfl)
                      case w11 => rfl
                      case q11 => exact fun _ _ _ h => h
                      case y11 =>
                        intro w' hSw
                        try dsimp only at hSw
                        go_simp
                        with_reducible rfl
                      try simp only [Act.put, List.setIfInBounds_toArray, List.set_cons_zero, List.set_cons_succ]
                      refine wpAnyH_take (i := 12) (oi := ?o12) (v := ?v12) ?h12 (by kernel_rfl) (by kernel_rfl) (by kernel_rfl) ?q12 (Or.inl ⟨?w12, ?y12⟩) hS ?r12
                      case h12 => (simp only [List.getElem?_toArray, List.getElem?_cons_succ, List.getElem?_cons_zero]; rfl)
                      case w12 => rfl
                      case q12 => exact fun _ _ _ h => h
                      case y12 =>
                        intro w' hSw
                        try dsimp only at hSw
                        go_simp
                        with_reducible rfl
                      try simp only [Act.put, List.setIfInBounds_toArray, List.set_cons_zero, List.set_cons_succ]
                      refine wpAnyH_take (i := 13) (oi := ?o13) (v := ?v13) ?h13 (by kernel_rfl) (by kernel_rfl) (by kernel_rfl) ?q13 (Or.inl ⟨?w13, ?y13⟩) hS ?r13
                      case h13 => (simp only [List.getElem?_toArray, List.getElem?_cons_succ, List.getElem?_cons_zero]; rfl)
                      case w13 => rfl
                      case q13 => exact fun _ _ _ h => h
                      case y13 =>
                        intro w' hSw
                        try dsimp only at hSw
                        go_simp
                        with_reducible rfl
                      try simp only [Act.put, List.setIfInBounds_toArray, List.set_cons_zero, List.set_cons_succ]
                      refine wpAnyH_take (i := 14) (oi := ?o14) (v := ?v14) ?h14 (by kernel_rfl) (by kernel_rfl) (by kernel_rfl) ?q14 (Or.inl ⟨?w14, ?y14⟩) hS ?r14
                      case h14 => (simp only [List.getElem?_toArray, List.getElem?_cons_succ, List.getElem?_cons_zero]; rfl)
                      case w14 => rfl
                      case q14 => exact fun _ _ _ h => h
                      case y14 =>
                        intro w' hSw
                        try dsimp only at hSw
                        go_simp
                        with_reducible rfl
                      try simp only [Act.put, List.setIfInBounds_toArray, List.set_cons_zero, List.set_cons_succ]
                      refine wpAnyH_take (i := 15) (oi := ?o15) (v := ?v15) ?h15 (by kernel_rfl) (by kernel_rfl) (by kernel_rfl) ?q15 (Or.inl ⟨?w15, ?y15⟩) hS ?r15
                      case h15 => (simp only [List.getElem?_toArray, List.getElem?_cons_succ, List.getElem?_cons_zero]; rfl)
                      case w15 => rfl
                      case q15 => exact fun _ _ _ h => h
                      case y15 =>
                        intro w' hSw
                        try dsimp only at hSw
                        go_simp
                        with_reducible rfl
                      try simp only [Act.put, List.setIfInBounds_toArray, List.set_cons_zero, List.set_cons_succ]
                      refine wpAnyH_take (i := 16) (oi := ?o16) (v := ?v16) ?h16 (by kernel_rfl) (by kernel_rfl) (by kernel_rfl) ?q16 (Or.inl ⟨?w16, ?y16⟩) hS ?r16
                      case h16 => (simp only [List.getElem?_toArray, List.getElem?_cons_succ, List.getElem?_cons_zero]; rfl)
                      case w16 => rfl
                      case q16 => exact fun _ _ _ h => h
                      case y16 =>
                        intro w' hSw
                        try dsimp only at hSw
                        go_simp
                        with_reducible rfl
                      try simp only [Act.put, List.setIfInBounds_toArray, List.set_cons_zero, List.set_cons_succ]
                      refine wpAnyH_take (i := 17) (oi := ?o17) (v := ?v17) ?h17 (by kernel_rfl) (by kernel_rfl) (by kernel_rfl) ?q17 (Or.inl ⟨?w17, ?y17⟩) hS ?r17
                      case h17 => (simp only [List.getElem?_toArray, List.getElem?_cons_succ, List.getElem?_cons_zero]; rfl)
                      case w17 => rfl
                      case q17 => exact fun _ _ _ h => h
                      case y17 =>
                        intro w' hSw
                        try dsimp only at hSw
                        go_simp
                        with_reducible rfl
                      try simp only [Act.put, List.setIfInBounds_toArray, List.set_cons_zero, List.set_cons_succ]
                      refine wpAnyH_take (i := 18) (oi := ?o18) (v := ?v18) ?h18 (by kernel_rfl) (by kernel_rfl) (by kernel_rfl) ?q18 (Or.inl ⟨?w18, ?y18⟩) hS ?r18
                      case h18 => (simp only [List.getElem?_toArray, List.getElem?_cons_succ, List.getElem?_cons_zero]; rfl)
                      case w18 => rfl
                      case q18 => exact fun _ _ _ h => h
                      case y18 =>
                        intro w' hSw
                        try dsimp only at hSw
                        go_simp
                        with_reducible rfl
                      try simp only [Act.put, List.setIfInBounds_toArray, List.set_cons_zero, List.set_cons_succ]
                      refine wpAnyH_take (i := 19) (oi := ?o19) (v := ?v19) ?h19 (by kernel_rfl) (by kernel_rfl) (by kernel_rfl) ?q19 (Or.inl ⟨?w19, ?y19⟩) hS ?r19
                      case h19 => (simp only [List.getElem?_toArray, List.getElem?_cons_succ, List.getElem?_cons_zero]; rfl)
                      case w19 => rfl
                      case q19 => exact fun _ _ _ h => h
                      case y19 =>
                        intro w' hSw
                        try dsimp only at hSw
                        go_simp
                        with_reducible rfl
                      try simp only [Act.put, List.setIfInBounds_toArray, List.set_cons_zero, List.set_cons_succ]
                      refine wpAnyH_take (i := 20) (oi := ?o20) (v := ?v20) ?h20 (by kernel_rfl) (by kernel_rfl) (by kernel_rfl) ?q20 (Or.inl ⟨?w20, ?y20⟩) hS ?r20
                      case h20 => (simp only [List.getElem?_toArray, List.getElem?_cons_succ, List.getElem?_cons_zero]; rfl)
                      case w20 => rfl
                      case q20 => exact fun _ _ _ h => h
                      case y20 =>
                        intro w' hSw
                        try dsimp only at hSw
                        go_simp
                        with_reducible rfl
                      try simp only [Act.put, List.setIfInBounds_toArray, List.set_cons_zero, List.set_cons_succ]
                      refine wpAnyH_take (i := 21) (oi := ?o21) (v := ?v21) ?h21 (by kernel_rfl) (by kernel_rfl) (by kernel_rfl) ?q21 (Or.inl ⟨?w21, ?y21⟩) hS ?r21
                      case h21 => (simp only [List.getElem?_toArray, List.getElem?_cons_succ, List.getElem?_cons_zero]; rfl)
                      case w21 => rfl
                      case q21 => exact fun _ _ _ h => h
                      case y21 =>
                        intro w' hSw
                        try dsimp only at hSw
                        go_simp
                        with_reducible rfl
                      try simp only [Act.put, List.setIfInBounds_toArray, List.set_cons_zero, List.set_cons_succ]
                      refine wpAnyH_take (i := 22) (oi := ?o22) (v := undef) ?h22 (by kernel_rfl) (by kernel_rfl) (by kernel_rfl) ?q22 (Or.inr ⟨?w22, rfl⟩) hS ?r22
                      case h22 => (simp only [List.getElem?_toArray, List.getElem?_cons_succ, List.getElem?_cons_zero]; rfl)
                      case w22 => rfl
                      case q22 => exact fun _ _ _ h => h
                      try simp only [Act.put, List.setIfInBounds_toArray, List.set_cons_zero, List.set_cons_succ]
                      refine wpAnyH_take (i := 23) (oi := ?o23) (v := undef) ?h23 (by kernel_rfl) (by kernel_rfl) (by kernel_rfl) ?q23 (Or.inr ⟨?w23, rfl⟩) hS ?r23
                      case h23 => (simp only [List.getElem?_toArray, List.getElem?_cons_succ, List.getElem?_cons_zero]; rfl)
                      case w23 => rfl
                      case q23 => exact fun _ _ _ h => h
                      try simp only [Act.put, List.setIfInBounds_toArray, List.set_cons_zero, List.set_cons_succ]
                      refine wpAnyH_take (i := 24) (oi := ?o24) (v := undef) ?h24 (by kernel_rfl) (by kernel_rfl) (by kernel_rfl) ?q24 (Or.inr ⟨?w24, rfl⟩) hS ?r24
                      case h24 => (simp only [List.getElem?_toArray, List.getElem?_cons_succ, List.getElem?_cons_zero]; rfl)
                      case w24 => rfl
                      case q24 => exact fun _ _ _ h => h
                      try simp only [Act.put, List.setIfInBounds_toArray, List.set_cons_zero, List.set_cons_succ]
                      refine wpAnyH_take (i := 25) (oi := ?o25) (v := undef) ?h25 (by kernel_rfl) (by kernel_rfl) (by kernel_rfl) ?q25 (Or.inr ⟨?w25, rfl⟩) hS ?r25
                      case h25 => (simp only [List.getElem?_toArray, List.getElem?_cons_succ, List.getElem?_cons_zero]; rfl)
                      case w25 => rfl
                      case q25 => exact fun _ _ _ h => h
                      try simp only [Act.put, List.setIfInBounds_toArray, List.set_cons_zero, List.set_cons_succ]
                      refine wpAnyH_take (i := 26) (oi := ?o26) (v := undef) ?h26 (by kernel_rfl) (by kernel_rfl) (by kernel_rfl) ?q26 (Or.inr ⟨?w26, rfl⟩) hS ?r26
                      case h26 => (simp only [List.getElem?_toArray, List.getElem?_cons_succ, List.getElem?_cons_zero]; rfl)
                      case w26 => rfl
                      case q26 => exact fun _ _ _ h => h
                      try simp only [Act.put, List.setIfInBounds_toArray, List.set_cons_zero, List.set_cons_succ]
                      refine wpAnyH_take (i := 27) (oi := ?o27) (v := undef) ?h27 (by kernel_rfl) (by kernel_rfl) (by kernel_rfl) ?q27 (Or.inr ⟨?w27, rfl⟩) hS ?r27
                      case h27 => (simp only [List.getElem?_toArray, List.getElem?_cons_succ, List.getElem?_cons_zero]; rfl)
                      case w27 => rfl
                      case q27 => exact fun _ _ _ h => h
                      try simp only [Act.put, List.setIfInBounds_toArray, List.set_cons_zero, List.set_cons_succ]
                      refine wpAnyH_take (i := 28) (oi := ?o28) (v := undef) ?h28 (by kernel_rfl) (by kernel_rfl) (by kernel_rfl) ?q28 (Or.inr ⟨?w28, rfl⟩) hS ?r28
                      case h28 => (simp only [List.getElem?_toArray, List.getElem?_cons_succ, List.getElem?_cons_zero]; rfl)
                      case w28 => rfl
                      case q28 => exact fun _ _ _ h => h
                      try simp only [Act.put, List.setIfInBounds_toArray, List.set_cons_zero, List.set_cons_succ]
                      refine wpAnyH_take (i := 29) (oi := ?o29) (v := undef) ?h29 (by kernel_rfl) (by kernel_rfl) (by kernel_rfl) ?q29 (Or.inr ⟨?w29, rfl⟩) hS ?r29
                      case h29 => (simp only [List.getElem?_toArray, List.getElem?_cons_succ, List.getElem?_cons_zero]; rfl)
                      case w29 => rfl
                      case q29 => exact fun _ _ _ h => h
                      try simp only [Act.put, List.setIfInBounds_toArray, List.set_cons_zero, List.set_cons_succ]
                      refine wpAnyH_take (i := 30) (oi := ?o30) (v := undef) ?h30 (by kernel_rfl) (by kernel_rfl) (by kernel_rfl) ?q30 (Or.inr ⟨?w30, rfl⟩) hS ?r30
                      case h30 => (simp only [List.getElem?_toArray, List.getElem?_cons_succ, List.getElem?_cons_zero]; rfl)
                      case w30 => rfl
                      case q30 => exact fun _ _ _ h => h
                      try simp only [Act.put, List.setIfInBounds_toArray, List.set_cons_zero, List.set_cons_succ]
                      refine wpAnyH_take (i := 31) (oi := ?o31) (v := undef) ?h31 (by kernel_rfl) (by kernel_rfl) (by kernel_rfl) ?q31 (Or.inr ⟨?w31, rfl⟩) hS ?r31
                      case h31 => (simp only [List.getElem?_toArray, List.getElem?_cons_succ, List.getElem?_cons_zero]; rfl)
                      case w31 => rfl
                      case q31 => exact fun _ _ _ h => h
                      try simp only [Act.put, List.setIfInBounds_toArray, List.set_cons_zero, List.set_cons_succ]
                      refine wpAnyH_take (i := 32) (oi := ?o32) (v := ?v32) ?h32 (by kernel_rfl) (by kernel_rfl) (by kernel_rfl) ?q32 (Or.inl ⟨?w32, ?y32⟩) hS ?r32
                      case h32 => (simp only [List.getElem?_toArray, List.getElem?_cons_succ, List.getElem?_cons_zero]; rfl)
                      case w32 => rfl
                      case q32 => exact fun _ _ _ h => h
                      case y32 =>
                        intro w' hSw
                        try dsimp only at hSw
                        go_simp
                        with_reducible rfl
                      try simp only [Act.put, List.setIfInBounds_toArray, List.set_cons_zero, List.set_cons_succ]
                      refine wpAnyH_take (i := 33) (oi := ?o33) (v := ?v33) ?h33 (by kernel_rfl) (by kernel_rfl) (by kernel_rfl) ?q33 (Or.inl ⟨?w33, ?y33⟩) hS ?r33
                      case h33 => (simp only [List.getElem?_toArray, List.getElem?_cons_succ, List.getElem?_cons_zero]; rfl)
                      case w33 => rfl
                      case q33 => exact fun _ _ _ h => h
                      case y33 =>
                        intro w' hSw
                        try dsimp only at hSw
                        go_simp
                        with_reducible rfl
                      try simp only [Act.put, List.setIfInBounds_toArray, List.set_cons_zero, List.set_cons_succ]
                      refine wpAnyH_done (by kernel_rfl) ?_ _
                      clear hS
                      go_wp2
                      go_meet
                      exact ⟨rfl, B6⟩
                case rest =>
                  obtain ⟨rfl, HB6⟩ := hcut
                  rename World => W6
                  have HB6' := hide ((unhide HB5).trans ((unhide HB6).mono (unhide HB5).size))
                  have E5 : Hid (EnBlk W6 q5 V zs5) := hide ((unhide ST5).blk.grown (unhide HB6))
                  have E2 : Hid (EnBlk W6 q2 L zs2) := hide ((unhide EB4).grown (unhide HB6'))
                  have hz5 := (unhide ST5).len
                  have HENT : Hid (∀ i, (h : i < zs5.length) → zs5[i].e.s = nm ∧ zs5[i].e.num = i ∧ zs5[i].pos < L ∧ (∀ h2 : zs5[i].pos < zs2.length, zs2[zs5[i].pos].pos = zs5[i].pos ∧ zs2[zs5[i].pos].e = zs5[i].e)) := hide (fun i h => by
                    obtain ⟨e1, e2⟩ := (unhide ST5).ent i h
                    rw [Nat.zero_add] at e1
                    obtain ⟨e, he, hes⟩ := plc_at (List.mem_of_getElem? e1)
                    rw [e2] at he
                    obtain rfl := Option.some.inj he
                    have hpl := plc_lt (List.mem_of_getElem? e1)
                    refine ⟨hes, ?_, by rw [unhide HL]; exact hpl, fun h2 => ?_⟩
                    · rw [unhide NU _ _ e2, hes]
                      exact plc_take nm I.all i _ e1
                    · obtain ⟨p1, p2⟩ := (unhide ST2).ent zs5[i].pos h2
                      rw [Nat.zero_add] at p1 p2
                      exact ⟨p1, Option.some.inj (p2.symm.trans e2)⟩)
                  have HRISE : Hid (∀ i, (h : i + 1 < zs5.length) → zs5[i].pos < zs5[i + 1].pos) := hide (fun i h => by
                    obtain ⟨e1, _⟩ := (unhide ST5).ent i (by omega)
                    obtain ⟨e2, _⟩ := (unhide ST5).ent (i + 1) h
                    rw [Nat.zero_add] at e1 e2
                    obtain ⟨i1, q1⟩ := List.getElem?_eq_some_iff.1 e1
                    obtain ⟨i2, q2'⟩ := List.getElem?_eq_some_iff.1 e2
                    have := List.pairwise_iff_getElem.1 (plc_rise nm I.all) i (i + 1) i1 i2 (by omega)
                    rw [q1, q2'] at this
                    exact this)
                  have HCN6 : Hid (∀ W, Below W6.heap.size W6 W → W.cell? ⟨g, k, none⟩ = some (sv nm)) := hide (fun W hW => unhide HCell W ((unhide HB6').trans (hW.mono (unhide HB6').size)) k nm (unhide HNM))
                  clear hc5 CV0 R0 f1 f2 HB6
                  go_wp2_with fail
                  go_loopw [13, 17, 18] (fun t13 t17 _ wr => ∃ i : Nat, t17 = .int .i64 i ∧ i ≤ V ∧ t13 = .int .i64 ((M + i : Nat) : Int) ∧ Hid (Below W6.heap.size W6 wr)) (fun _ t17 _ _ => V - (intOf t17).toNat)
                  case atStart => exact ⟨0, rfl, by omega, rfl, hide (Below.refl _ _)⟩
                  case round =>
                    obtain ⟨i, rfl, hi, rfl, HB7⟩ := hrel
                    obtain ⟨mi, hmi⟩ : ∃ mi, mi = M + i := ⟨_, rfl⟩
                    have HMI := hide hmi
                    have hmiL : mi ≤ L := by have := unhide HLE; omega
                    rw [← hmi]
                    clear hmi
                    by_cases hil : i < V
                    · obtain ⟨p, ty, ver, fs, fb, fb2, hpL, h16, hcells, hprev⟩ := ord_at (unhide E5) (unhide E2) hz5 (unhide ST2).len hil (unhide HENT) (unhide HRISE)
                      have HCE : Hid (∀ W, Below wr.heap.size wr W → _) := hide (fun W hW => hcells W ((unhide HB7).trans (hW.mono (unhide HB7).size)))
                      have HPR : Hid (∀ i1, i = i1 + 1 → ∃ p0 : Nat, p0 < p ∧ ∀ W, Below wr.heap.size wr W → W.cell? ⟨q5, i1 * 6, none⟩ = some (.int .i64 (p0 : Int))) := hide (fun i1 e => by
                        obtain ⟨p0, h1, h2⟩ := hprev i1 e
                        exact ⟨p0, h1, fun W hW => h2 W ((unhide HB7).trans (hW.mono (unhide HB7).size))⟩)
                      have HNC : Hid (∀ W, Below wr.heap.size wr W → W.cell? ⟨g, k, none⟩ = some (sv nm)) := hide (fun W hW => unhide HCN6 W ((unhide HB7).trans (hW.mono (unhide HB7).size)))
                      obtain ⟨fn, hfn⟩ : ∃ fn, fn = fs.length := ⟨_, rfl⟩
                      have HFN := hide hfn
                      rw [← hfn] at HCE h16
                      clear hcells hprev hfn
                      have hi1 : (i : Int) < (V : Int) := by omega
                      have hpi : (p : Int) < (L : Int) := by omega
                      go_upto_region 30 with fail
                      go_cut [202] from 150 to 221 (fun t wx => t = .bool false ∧ Hid (Below wr.heap.size wr wx))
                      case first =>
                        have r0 : ∀ m, (wr.drewN m).cell? ⟨q5, i * 6, none⟩ = some (.int .i64 (p : Int)) := fun m => (unhide HCE _ (below_drewN (Below.refl _ _) m)).1.1
                        have r1 : ∀ m, (wr.drewN m).cell? ⟨q5, i * 6 + 1, none⟩ = some (sv nm) := fun m => (unhide HCE _ (below_drewN (Below.refl _ _) m)).1.2.1
                        have r2 : ∀ m, (wr.drewN m).cell? ⟨q5, i * 6 + 2, none⟩ = some (.int .i64 (i : Int)) := fun m => (unhide HCE _ (below_drewN (Below.refl _ _) m)).1.2.2.1
                        have r3 : ∀ m, (wr.drewN m).cell? ⟨g, k, none⟩ = some (sv nm) := fun m => unhide HNC _ (below_drewN (Below.refl _ _) m)
                        have e0 : ((i : Int) != (i : Int)) = false := by simp
                        have e1 : (nm != nm) = false := by simp
                        have e2 : decide ((L : Int) ≤ (p : Int)) = false := decide_eq_false (by omega)
                        have e2' : decide (L ≤ p) = false := decide_eq_false (by omega)
                        by_cases hi0 : 0 < i
                        · obtain ⟨i1, hi1e⟩ : ∃ i1, i = i1 + 1 := ⟨i - 1, by omega⟩
                          obtain ⟨p0, hp0, hcp⟩ := unhide HPR i1 hi1e
                          have r4 : ∀ m, (wr.drewN m).cell? ⟨q5, i1 * 6, none⟩ = some (.int .i64 (p0 : Int)) := fun m => hcp _ (below_drewN (Below.refl _ _) m)
                          have hw : IntKind.i64.wrap ((i : Int) - 1) = (i1 : Int) := by rw [IntKind.wrap_i64]; omega
                          have d0 : decide ((0 : Int) < (i : Int)) = true := decide_eq_true (by omega)
                          have d0' : decide (0 < i) = true := decide_eq_true hi0
                          have b1 : (i1 : Int) < (V : Int) := by omega
                          have b2 : i1 < V := by omega
                          have e3 : decide ((p : Int) ≤ (p0 : Int)) = false := decide_eq_false (by omega)
                          have e3' : decide (p ≤ p0) = false := decide_eq_false (by omega)
                          clear hi1e hp0 hcp hi0
                          go_quiet (fail)
                          go_wp2
                          go_meet
                          exact ⟨rfl, hide (below_drewN (Below.refl _ _) _)⟩
                        · have d0 : decide ((0 : Int) < (i : Int)) = false := decide_eq_false (by omega)
                          have d0' : decide (0 < i) = false := decide_eq_false hi0
                          clear hi0
                          go_quiet (fail)
                          go_wp2
                          go_meet
                          exact ⟨rfl, hide (below_drewN (Below.refl _ _) _)⟩
                      case rest =>
                        obtain ⟨rfl, HB8⟩ := hcut
                        rename World => W8
                        have HCE8 : Hid (∀ W, Below W8.heap.size W8 W → _) := hide (fun W hW => unhide HCE W ((unhide HB8).trans (hW.mono (unhide HB8).size)))
                        have HB7' := hide ((unhide HB7).trans ((unhide HB8).mono (unhide HB7).size))
                        obtain ⟨A, hA⟩ : ∃ A : Obj, A = .cells (entV p nm i ty ver fb fn) 45 := ⟨_, rfl⟩
                        obtain ⟨B, hB⟩ : ∃ B : Obj, B = .cells (entV p nm i ty ver fb2 fn) 45 := ⟨_, rfl⟩
                        have TAB := hide (two_blk W8 A B)
                        have TBA := hide (two_blk W8 B A)
                        have C1 : Hid (Calls Try.prog 18 #[.slice (some ⟨W8.heap.size, 0, none⟩) 1 1, .slice (some ⟨W8.heap.size + 1, 0, none⟩) 1 1] ((W8.alloc A).alloc B).drew fun e w' => e = .returned (.bool true) ∧ Below ((W8.alloc A).alloc B).drew.heap.size ((W8.alloc A).alloc B).drew w') := hide (by
                          obtain ⟨t1, t2, t3⟩ := unhide TAB
                          have hc := unhide HCE8 _ t3
                          exact SameEntries_eq _ _ _ _ _ _ _ _ (one_ent (t1.trans (by rw [hA])) hc.2.2.1 (unhide HFN).symm h16) (one_ent (t2.trans (by rw [hB])) hc.2.2.2 (unhide HFN).symm h16))
                        have C2 : Hid (Calls Try.prog 18 #[.slice (some ⟨W8.heap.size + 1, 0, none⟩) 1 1, .slice (some ⟨W8.heap.size, 0, none⟩) 1 1] ((W8.alloc B).alloc A).drew fun e w' => e = .returned (.bool true) ∧ Below ((W8.alloc B).alloc A).drew.heap.size ((W8.alloc B).alloc A).drew w') := hide (by
                          obtain ⟨t1, t2, t3⟩ := unhide TBA
                          have hc := unhide HCE8 _ t3
                          exact SameEntries_eq _ _ _ _ _ _ _ _ (one_ent (t2.trans (by rw [hA])) hc.2.2.1 (unhide HFN).symm h16) (one_ent (t1.trans (by rw [hB])) hc.2.2.2 (unhide HFN).symm h16))
                        have RAB := hide (unhide TAB).2.2
                        have RBA := hide (unhide TBA).2.2
                        have SV : Hid (∀ W, Below W8.heap.size W8 W → Cells6 W q5 (i * 6) p nm i ty ver fb fn ∧ Cells6 W q2 (p * 6) p nm i ty ver fb2 fn) := hide (fun W hW => ⟨(unhide HCE8 W hW).1, (unhide HCE8 W hW).2.1⟩)
                        have R0 : Hid (Below W8.heap.size W8 W8) := hide (Below.refl _ _)
                        have RD : Hid (Below W8.heap.size W8 W8.drew) := hide (Below.refl _ _).drew
                        have RA : Hid (Below W8.heap.size W8 (W8.alloc A).drew) := hide (((Below.refl _ _).alloc (Nat.le_refl _) A).drew)
                        have RB : Hid (Below W8.heap.size W8 (W8.alloc B).drew) := hide (((Below.refl _ _).alloc (Nat.le_refl _) B).drew)
                        have S0 := hide (unhide SV _ (unhide R0))
                        have SD := hide (unhide SV _ (unhide RD))
                        have SA := hide (unhide SV _ (unhide RA))
                        have SB := hide (unhide SV _ (unhide RB))
                        have SAB := hide (unhide SV _ (unhide RAB))
                        have SBA := hide (unhide SV _ (unhide RBA))
                        subst hA hB
                        clear TAB TBA RA RB RD
                        obtain ⟨z0, z1, z2, z3, z4, z5⟩ := (unhide S0).1
                        obtain ⟨y0, y1, y2, y3, y4, y5⟩ := (unhide S0).2
                        have hmw : IntKind.i64.wrap ((mi : Int) + 1) = ((mi + 1 : Nat) : Int) := by rw [IntKind.wrap_i64]; omega
                        go_upto_region 32 with fail
                        go_cut [18] from 150 to 221 (fun t wx => t = .bool true ∧ Hid (Below W8.heap.size W8 wx))
                        case first =>
                          go_region_held3 (fun w' => (w'.cell? ⟨q5, i * 6, none⟩ = some (.int .i64 (p : Int)) ∧ w'.cell? ⟨q5, i * 6 + 1, none⟩ = some (sv nm) ∧ w'.cell? ⟨q5, i * 6 + 2, none⟩ = some (.int .i64 (i : Int)) ∧ w'.cell? ⟨q5, i * 6 + 3, none⟩ = some (sv ty) ∧ w'.cell? ⟨q5, i * 6 + 4, none⟩ = some (.int .i64 ver) ∧ w'.cell? ⟨q5, i * 6 + 5, none⟩ = some (.slice (some ⟨fb, 0, none⟩) fn fn)) ∧ (w'.cell? ⟨q2, p * 6, none⟩ = some (.int .i64 (p : Int)) ∧ w'.cell? ⟨q2, p * 6 + 1, none⟩ = some (sv nm) ∧ w'.cell? ⟨q2, p * 6 + 2, none⟩ = some (.int .i64 (i : Int)) ∧ w'.cell? ⟨q2, p * 6 + 3, none⟩ = some (sv ty) ∧ w'.cell? ⟨q2, p * 6 + 4, none⟩ = some (.int .i64 ver) ∧ w'.cell? ⟨q2, p * 6 + 5, none⟩ = some (.slice (some ⟨fb2, 0, none⟩) fn fn)))
                            (first | exact unhide S0 | exact unhide SD | exact unhide SA | exact unhide SB | exact unhide SAB | exact unhide SBA | exact unhide S1)
                            ((go_at_call 18; (first
                              | ((with_reducible refine (unhide C1).mono ?_); rintro e w6 ⟨rfl, b6⟩; have B6 := hide ((unhide RAB).trans (b6.mono (unhide RAB).size)); have S1 := hide (unhide SV w6 (unhide B6)); clear b6)
                              | ((with_reducible refine (unhide C2).mono ?_); rintro e w6 ⟨rfl, b6⟩; have B6 := hide ((unhide RBA).trans (b6.mono (unhide RBA).size)); have S1 := hide (unhide SV w6 (unhide B6)); clear b6))))
                          all_goals
                            rename_i hh
                            clear hh
                            go_wp2
                            go_meet
                            exact ⟨rfl, B6⟩
                        case rest =>
                          obtain ⟨rfl, HB9⟩ := hcut
                          have HB10 := hide ((unhide HB7').trans ((unhide HB9).mono (unhide HB7').size))
                          have HME : Hid (((mi + 1 : Nat) : Int) = ((M + (i + 1) : Nat) : Int)) := hide (by rw [unhide HMI]; omega)
                          clear z0 z1 z2 z3 z4 z5 y0 y1 y2 y3 y4 y5
                          go_wp2_with fail
                          go_roundw
                          case rel => exact ⟨i + 1, by go_num, by omega, by rw [← unhide HME]; simp, HB10⟩
                          case measure => simp [intOf]; omega
                    · have hi1 : ¬ (i : Int) < (V : Int) := by omega
                      have HNE : Hid (sumP I.all (ns.take (k + 1)) = mi) := hide (by rw [unhide HNX, unhide HMI]; omega)
                      have HB8 := hide ((unhide HB6').trans ((unhide HB7).mono (unhide HB6').size))
                      go_wp2_with fail
                      go_roundw
                      case rel => exact ⟨k + 1, by go_num, by omega, by rw [unhide HNE], HB8⟩
                      case measure => simp [intOf]; omega
              · have HE : Hid (M = L) := hide (by rw [unhide HM, ← unhide HSUM, List.take_of_length_le (by rw [← unhide HNN]; omega)])
                have hk1 : ¬ (k : Int) < (NS : Int) := by omega
                go_wp2_with fail
                go_ret
                exact ⟨by rw [unhide HE]; simp, (unhide BL4).trans ((unhide HB).mono (unhide BL4).size)⟩

set_option maxRecDepth 100000 in
theorem XOrder.lifted (os : Os) (started : os.Started) (H : Type) (enc : TypeId × Value → H) :
    ReturnsInHanded {} Try.checked os 3 .any (Rows.streamsOrderSpec.pre6 enc Try.prog Try.f3 Rows.streamsOrderRow.domain false) (Rows.streamsOrderSpec.post enc Try.prog Try.f3 false true false false) := by
  refine returnsInHanded_of_change (C := Try.checked) own_knob started (by kernel_rfl) Try.func3
    (ChangeSpec.witness6 (enc := enc) (C := Try.checked) false ⟨#[], #[.slice none 0 0], []⟩ 8 (by kernel_rfl) (by kernel_rfl) (by kernel_rfl) (by kernel_rfl)) ?_
  intro W base args ds gs before hval0 hW hcnd _
  have hval : ∀ (j : Nat) t v, Try.f3.params[j]? = some t → args[j]? = some v → Value.okWide Try.prog W .any base t v := hval0
  have hW' := hW
  obtain ⟨p, q, hA0, hV, rfl, hfz, hnd⟩ := hW
  have hA : DataW.TrodAll enc Try.prog W 0 (fun _ => true) true Try.f3.params.toList args.toList ds p := hA0
  rw [Try.params3] at hA hval
  obtain ⟨v0, vs0, d0, ds0, p0, q0, e0, rfl, rfl, h0, hA⟩ := trodAll_cons hA
  obtain ⟨rfl, rfl, rfl⟩ := trodAll_nil hA
  obtain rfl : args = #[v0] := by cases args; simp_all
  obtain ⟨rfl, rfl⟩ := trodVars_none hV
  obtain ⟨a0, n0, c0, rfl⟩ := okWide_slice Try.underlying22 (hval 0 22 v0 rfl rfl)
  have k0 := h0
  have lt0 : ∀ x ∈ p0, x.block < W.heap.size := by obtain ⟨m, hm⟩ := k0; exact DataW.trod_lt m _ _ _ hm
  obtain ⟨l0, g0⟩ := open_scalls h0
  clear hA0 hval0
  refine (XOrder.walk a0 n0 c0 l0 W g0).mono fun e W' ⟨he, bel⟩ => ?_
  subst he
  exact ⟨_, rfl, _, _, _, [], _, [], hW', trodAll_mk1 (shut_bool Try.underlying4 _), (trodAll_cons_mk (Below.trod laid_out (by kernel_rfl) (of_decide_eq_true (by kernel_rfl)) k0 bel lt0) trodAll_mk0), rfl, bel.frame _, fun h => by cases h⟩

theorem streamsOrder_holds : Rows.StreamsOrderSaid :=
  OpenClaim.holds_of_wide 3 Try.f3 rfl rfl rfl rfl rfl rfl rfl ⟨rfl, rfl, rfl, rfl, rfl⟩ rfl rfl rfl rfl rfl (by kernel_rfl) Try.func3 (by kernel_rfl)
    (of_decide_eq_true (by kernel_rfl)) (by unfold Func.isWrapper; first | (rw [if_pos (by decide +kernel)]; kernel_rfl) | (rw [if_neg (by decide +kernel)]; exact ⟨rfl, rfl⟩))
    (fun os started H enc _ => XOrder.lifted os started H enc)
#print axioms streamsOrder_holds
end Go.Proofs.Ytgpijeaehkabdaa
