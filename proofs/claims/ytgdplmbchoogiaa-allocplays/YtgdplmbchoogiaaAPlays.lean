/-
  AllocPlays: for every int and every slice of calls it returns true, and its arguments read as before.
-/
import Derived.Test.YtgdplmbchoogiaaM4
import Derived.Deep.CutRange
import Derived.OpenShut
namespace Go.Proofs.Ytgdplmbchoogiaa
open Go.ChangeShapes Go.WideShapes Go.ChangeAt Go.RowKit
set_option linter.unusedVariables false

theorem gr_d (w : World) : w.grownBy w.drew none := ⟨rfl, rfl, rfl, Nat.le_refl _, fun _ _ _ => rfl⟩
set_option maxRecDepth 100000 in
theorem rNew_no (n : Int) (w : World) (hn : n < 0 ∨ 512 < n) (h1 : -9223372036854775808 ≤ n) (h2 : n ≤ 9223372036854775807) :
    Calls Try.prog 7 #[.int .i64 n] w fun e w' => e = .returned (.pointer none) ∧ w' = w := by
  rcases hn with hn | hn
  · go_enter Try.func7, Try.ntmps7
    go_wp2
    go_ret
    exact ⟨rfl, rfl⟩
  · have hn0 : ¬ n < 0 := by omega
    go_enter Try.func7, Try.ntmps7
    go_wp2
    go_ret
    exact ⟨rfl, rfl⟩
theorem Bo.start {w w1 w2 w3 : World} {rb B : Nat} {v1 v2 : Value} {U V : Nat → Bool} (g1 : w.grownBy w1 none) (m2 : MapAt w2 w1.heap.size B U V) (g2 : w1.grownBy w2 none) (m3 : RmAt w3 w2.heap.size rb B v1 v2 U V) (g3 : w2.grownBy w3 none) : Bo w w3 w1.heap.size rb B U V U V v1 v2 :=
  ⟨m2.grown g3 (by simp), m3.low (Nat.le_trans g1.size g2.size), g1.size, (g1.trans g2).trans g3⟩

/-- A row of runs to be written over. -/
def WrR (B : Nat) (ao : Option Addr) (n : Nat) (W : World) : Prop := n ≠ 0 → ∃ g cur, ao = some ⟨g, 0, none⟩ ∧ B ≤ g ∧ W.heap[g]? = some (.cells cur 36 (0, 0)) ∧ n * 2 ≤ cur.size
theorem WrR.set {B : Nat} {ao : Option Addr} {n : Nat} {W : World} (h : WrR B ao n W) (g i : Nat) (v : Value) : WrR B ao n (W.setCell ⟨g, i, none⟩ v) := fun hn => by
  obtain ⟨g', cur, e, h1, h2, h3⟩ := h hn
  by_cases hg : g' = g
  · subst hg
    exact ⟨g', _, e, h1, heap_setCell_same W g' i cur _ v h2, by simpa using h3⟩
  · exact ⟨g', cur, e, h1, (Below.heap_setCell W ⟨g, i, none⟩ v g' hg).trans h2, h3⟩
theorem WrR.kept {B : Nat} {ao : Option Addr} {n : Nat} {W W' : World} (h : WrR B ao n W) (hg : W.grownBy W' none) : WrR B ao n W' := fun hn => by
  obtain ⟨g', cur, e, h1, h2, h3⟩ := h hn
  exact ⟨g', cur, e, h1, (hg.block g' (lt_of_block h2) (by simp)).trans h2, h3⟩
theorem IR.wr {w : World} {base cap n : Nat} {ao : Option Addr} {l : List (Int × Int)} (h : IR w base (.slice ao n cap) l) : WrR base ao n w := fun h0 => by
  obtain ⟨h1, h2⟩ := h
  rcases h2 with ⟨e2, _⟩ | ⟨g, cap', cur, e2, hb, hg, _, _, h3, _⟩
  · cases e2; exact absurd rfl h0
  · cases e2; exact ⟨g, cur, rfl, hb, hg, by omega⟩

set_option maxRecDepth 100000 in
set_option maxHeartbeats 16000000 in
theorem Plays.walk (blocks : Int) (vs : Value) (cs : List ACl) (M : Nat) (w : World) (hbl : I64 blocks) (hs : AClL3 w vs cs M) (hM : M ≤ 140737488351232) :
    Calls Try.prog 3 #[.int .i64 blocks, vs] w fun e w' => e = .returned (.bool true) ∧ Below w.heap.size w w' := by
  have HS := hide hs
  obtain ⟨so, scap, rfl, hs1, _⟩ := hs
  obtain ⟨ns, hns⟩ : ∃ n, n = cs.length := ⟨_, rfl⟩
  rw [← hns] at hs1 HS ⊢
  have HNs := hide hns
  have hsi : (ns : Int) ≤ 9223372036854775807 := by omega
  clear hns
  obtain ⟨hbl1, hbl2⟩ := hbl
  go_enter Try.func3, Try.ntmps3
  go_wp2_with fail
  refine (awake_ok _).mono ?_
  rintro e w1 ⟨rfl, g1⟩
  have G1 := hide g1
  clear g1
  by_cases hno : blocks < 0 ∨ 512 < blocks
  · have HNo := hide hno
    clear hno
    go_wp2_with fail
    refine (New_no blocks w1 (unhide HNo) hbl1 hbl2).mono ?_
    rintro e w2 ⟨rfl, rfl⟩
    go_wp2_with fail
    refine (rNew_no blocks _ (unhide HNo) hbl1 hbl2).mono ?_
    rintro e w3 ⟨rfl, rfl⟩
    go_wp2
    go_ret
    exact ⟨rfl, below_of_grown (unhide G1)⟩
  · obtain ⟨B, rfl⟩ : ∃ B : Nat, blocks = (B : Int) := ⟨blocks.toNat, by omega⟩
    have HB : Hid (B ≤ 512) := hide (by omega)
    clear hno hbl1 hbl2
    go_wp2_with fail
    refine (New_any B w1 (unhide HB)).mono ?_
    rintro e w2 ⟨rfl, m2, g2⟩
    have M2 := hide m2
    have G2 := hide g2
    clear m2 g2
    go_wp2_with fail
    refine (rNew_any B w2 (unhide HB)).mono ?_
    rintro e w3 ⟨rb, u1, u2, rfl, m3, g3⟩
    have ST := hide (Bo.start (unhide G1) (unhide M2) (unhide G2) m3 g3)
    obtain ⟨b, hb⟩ : ∃ b, b = w1.heap.size := ⟨_, rfl⟩
    rw [← hb] at ST ⊢
    clear m3 g3 hb M2 G2 G1
    go_wp2
    go_loopw [8] (fun i wr => ∃ (k : Nat) (U V : Nat → Bool) (v1 v2 : Value), i = .int .i64 (k : Int) ∧ k ≤ 100 ∧ Bo w wr b rb B U V U V v1 v2) (fun i _ => 100 - (intOf i).toNat)
    case atStart => exact ⟨0, _, _, _, _, rfl, by omega, unhide ST⟩
    case round =>
      obtain ⟨k, U, V, v1, v2, rfl, hk, hst⟩ := hrel
      clear ST
      have ST := hide hst
      clear hst
      by_cases hlt : k < ns ∧ k < 100
      · have hl1 : (k : Int) < (ns : Int) := by omega
        have hl2 : (k : Int) < 100 := by omega
        have hkl : k < cs.length := by rw [← unhide HNs]; exact hlt.1
        obtain ⟨pb, off, hso, hpb, hat⟩ : ∃ pb off, so = some ⟨pb, off, none⟩ ∧ pb < w.heap.size ∧ AClAt w pb (off + k * 3) cs[k] ∧ (∃ v, w.cell? ⟨pb, off + k * 3 + 2, none⟩ = some v ∧ Rn w v cs[k].l ∧ ∀ n c, v = .slice none n c → c = 0) ∧ cs[k].l.length * 16 ≤ M := by
          obtain ⟨ao', cap', e, _, h4⟩ := unhide HS
          injection e with e1 e2 e3
          subst e1
          obtain ⟨pb, off, e, h5, h6⟩ := h4 (by omega)
          exact ⟨pb, off, e, h5, h6 k hkl⟩
        subst hso
        obtain ⟨hat1, ⟨vl, hvl, hrn, hnl⟩, hlb⟩ := hat
        have hg := (unhide ST).grown
        have d0 := hg.cell hat1.c0 (by simp)
        have d1 := hg.cell hat1.c1 (by simp)
        have d2 := hg.cell hvl (by simp)
        have hnum := hide hat1.i1
        have HRn := hide (hrn.kept hg)
        have HNn := hide hnl
        have HLn : Hid (cs[k].l.length ≤ 8796093021952) := hide (by omega)
        obtain ⟨kind, hkind⟩ : ∃ x, x = cs[k].kind := ⟨_, rfl⟩
        obtain ⟨num, hnume⟩ : ∃ x, x = cs[k].n := ⟨_, rfl⟩
        obtain ⟨rl, hrl⟩ : ∃ x, x = cs[k].l := ⟨_, rfl⟩
        rw [← hkind] at d0
        rw [← hnume] at d1 hnum
        rw [← hrl] at HRn HLn
        obtain ⟨lo, lcap, hvle, _⟩ := id hrn
        obtain ⟨lq, hlq⟩ : ∃ lq, vl = .slice lo lq lcap := ⟨_, hvle⟩
        clear hvle hat1 hvl hrn hnl hlb hg hkind hnume hrl hlt
        subst hlq
        go_upto_region 14 with fail
        obtain ⟨cb, hcb⟩ : ∃ x, x = wr.heap.size := ⟨_, rfl⟩
        obtain ⟨W, hW⟩ : ∃ W, W = wr.alloc (.cells #[.int .i64 kind, .int .i64 num, .slice lo lq lcap] 30) := ⟨_, rfl⟩
        have BX : Hid (W.heap[cb]? = some (.cells #[.int .i64 kind, .int .i64 num, .slice lo lq lcap] 30 (0, 0))) := hide (by rw [hW, hcb]; exact heap_alloc_new _ _)
        have GW : Hid (wr.grownBy W none) := hide (by rw [hW]; exact World.grownBy_alloc _ _ _)
        have SW := hide ((unhide ST).kept (unhide GW))
        have RN := hide ((unhide HRn).kept (unhide GW))
        rw [← hW, ← hcb]
        have c0 : W.cell? ⟨cb, 0, none⟩ = some (.int .i64 kind) := (cell_of_row _ _ _ _ _ _ (unhide BX)).trans rfl
        have c1 : W.cell? ⟨cb, 1, none⟩ = some (.int .i64 num) := (cell_of_row _ _ _ _ _ _ (unhide BX)).trans rfl
        have c2 : W.cell? ⟨cb, 2, none⟩ = some (.slice lo lq lcap) := (cell_of_row _ _ _ _ _ _ (unhide BX)).trans rfl
        have hbw : cb < W.heap.size := lt_of_block (unhide BX)
        clear hW hcb d0 d1 d2 ST GW HRn
        by_cases k3 : kind = 3
        · subst k3
          go_wp2_with fail
          refine (Commit_any W b B U V (unhide SW).map).mono ?_
          rintro e w5 ⟨⟨x, rfl⟩, m5, g5⟩
          have S5 := hide ((unhide SW).prog g5 m5)
          clear m5 g5
          go_wp2_with fail
          refine (rCommit_any w5 w.heap.size rb B v1 v2 U V (unhide S5).ref (unhide S5).grown.size).mono ?_
          rintro e w6 ⟨⟨y, rfl⟩, v3, m6, g6⟩
          have S6 := hide ((unhide S5).doc g6 m6)
          clear m6 g6
          go_wp2
          go_roundw
          case rel => exact ⟨k + 1, _, _, _, _, rfl, by omega, unhide S6⟩
          case measure => simp [intOf]; omega
        · by_cases k4 : kind = 4
          · subst k4
            go_wp2_with fail
            refine (Reset_any W b B U V (unhide SW).map).mono ?_
            rintro e w5 ⟨⟨x, rfl⟩, m5, g5⟩
            have S5 := hide ((unhide SW).prog g5 m5)
            clear m5 g5
            go_wp2_with fail
            refine (rReset_any w5 w.heap.size rb B v1 v2 U V (unhide S5).ref (unhide S5).grown.size).mono ?_
            rintro e w6 ⟨⟨y, rfl⟩, v3, m6, g6⟩
            have S6 := hide ((unhide S5).doc g6 m6)
            clear m6 g6
            go_wp2
            go_roundw
            case rel => exact ⟨k + 1, _, _, _, _, rfl, by omega, unhide S6⟩
            case measure => simp [intOf]; omega
          · by_cases k5 : kind = 5
            · subst k5
              go_wp2_with fail
              refine (asked_any W w.heap.size b rb B v1 v2 U V (unhide SW).map (unhide SW).ref).mono ?_
              rintro e w5 ⟨rfl, g5⟩
              have S5 := hide ((unhide SW).kept g5)
              clear g5
              go_wp2
              go_roundw
              case rel => exact ⟨k + 1, _, _, _, _, rfl, by omega, unhide S5⟩
              case measure => simp [intOf]; omega
            · by_cases k1 : kind = 1
              · subst k1
                clear k3 k4 k5
                obtain ⟨X, code, U', hX, tk, rt⟩ := take_both num (unhide hnum) B (unhide HB) U V
                have HX := hide hX
                have TK := hide tk
                have RT := hide rt
                have hcc : (code == code) = true := by simp
                clear hX tk rt
                go_wp2_with fail
                refine (unhide TK W b (unhide SW).map).mono ?_
                rintro e w5 ⟨va, rfl, o5, m5, g5⟩
                have S5 := hide ((unhide SW).prog g5 m5)
                have BX5 := hide ((unhide SW).blkP g5 (unhide BX) (by decide))
                have e1 : w5.cell? ⟨cb, 1, none⟩ = some (.int .i64 num) := (cell_of_row _ _ _ _ _ _ (unhide BX5)).trans rfl
                have O5 := hide (o5.ir.mono (unhide SW).grown.size)
                clear m5 g5 o5 BX
                go_wp2_with fail
                refine (unhide RT w5 w.heap.size rb v1 v2 (unhide S5).ref).mono ?_
                rintro e w6 ⟨vu, rfl, o6, m6, g6⟩
                have S6 := hide ((unhide S5).docN g6 m6)
                have A6 : Hid (IR w6 w.heap.size va (X.map toI)) := hide ((unhide O5).kept g6 (fun z hz e => by
                  obtain ⟨_, cu1, h1⟩ := (unhide O5).row hz
                  obtain ⟨_, cu2, h2⟩ := (unhide S5).ref.now.row e.symm
                  exact blk_ne h1 h2 (by decide) rfl))
                have B6 := hide (o6.ir.rn (fits_small (unhide HX)))
                obtain ⟨xo, xc, hva, hxl, hxc, _⟩ := (unhide A6).form
                obtain ⟨xn, hxn⟩ : ∃ n, n = (X.map toI).length := ⟨_, rfl⟩
                rw [← hxn] at hva hxl
                have hxi : (xn : Int) ≤ 9223372036854775807 := by omega
                subst hva
                clear m6 g6 o6 O5 hxn e1
                have FX := hide (fits_small (unhide HX))
                obtain ⟨L, hL⟩ : ∃ L, L = X.map toI := ⟨_, rfl⟩
                rw [← hL] at A6 B6 FX
                clear hL
                have hdd : decide (L = L) = true := by simp
                go_wp2_with fail
                refine (SameRuns_any _ _ _ L L ((unhide A6).rn (unhide FX)) (unhide B6)).mono ?_
                rintro e w7 ⟨rfl, g7⟩
                have G7 := hide g7
                clear g7
                all_goals
                  have S7 := hide ((unhide S6).kept (unhide G7))
                  have W7 := hide ((unhide A6).wr.kept (unhide G7))
                  clear A6 B6 G7 S6
                  go_wp2
                  go_loopw [15] (fun i wr => ∃ j : Nat, i = .int .i64 (j : Int) ∧ j ≤ xn ∧ Hid (WrR w.heap.size xo xn wr) ∧ Hid (Bo w wr b rb B U' V U' V v1 v2)) (fun i _ => xn - (intOf i).toNat)
                  case atStart => exact ⟨0, rfl, by omega, W7, S7⟩
                  case round =>
                    obtain ⟨j, rfl, hj, HW, HG⟩ := hrel
                    have hji : (j : Int) ≤ 9223372036854775807 := by omega
                    by_cases hjl : j < xn
                    · have hlt' : (j : Int) < (xn : Int) := by omega
                      obtain ⟨g, cur, rfl, hgB, hg, hgs⟩ := unhide HW (by omega)
                      have cg : wr.cell? ⟨g, j * 2, none⟩ = some (cur[j * 2]'(by omega)) := by rw [cell_of_row _ _ _ _ _ _ hg]; simp
                      have fg : ∀ i, wr.frozen? ⟨g, i, none⟩ = false := fun i => by simp [World.frozen?, hg]
                      have HW2 := hide ((unhide HW).set g (j * 2) (.int .i64 3))
                      have HG2 := hide ((unhide HG).keptO (setCell_grown wr g (j * 2) (.int .i64 3)) hg hgB (by decide) (by decide) (by decide))
                      obtain ⟨y, hy⟩ : ∃ y, y = cur[j * 2]'(by omega) := ⟨_, rfl⟩
                      rw [← hy] at cg
                      clear hg hgs hy
                      go_wp2
                      go_roundw
                      case rel => exact ⟨j + 1, by go_num, by omega, HW2, HG2⟩
                      case measure => simp [intOf]; omega
                    · have hlt' : ¬ (j : Int) < (xn : Int) := by omega
                      clear hj hjl
                      go_wp2
                      go_roundw
                      case rel => exact ⟨k + 1, _, _, _, _, rfl, by omega, unhide HG⟩
                      case measure => simp [intOf]; omega
              · by_cases k26 : kind = 2 ∨ kind = 6
                · rcases k26 with k2 | k6
                  · subst k2
                    go_wp2_with (at_builtin; refine wpList_append_iruns rfl (.tmp 86) (.tmp 88) rfl W.heap.size _ rfl (ir_empty W) _ rl rfl ((unhide RN).alloc _) (fun c h => unhide HNn 0 c h) (unhide HLn) (by simp) ?_)
                    intro va w3 o3 g3
                    have g3' : W.grownBy w3 none := (World.grownBy_alloc _ _ _).andThen g3 (fun z e => .inl (by cases e; exact Nat.le_refl _))
                    have S3 := hide ((unhide SW).kept g3')
                    have e0 := g3'.cell c0 (by simp)
                    have e1 := g3'.cell c1 (by simp)
                    have RN3 := hide o3
                    have FT : Hid (∀ x ∈ rl, fits x) := hide (by obtain ⟨_, _, _, _, _, h, _⟩ := unhide RN; exact h)
                    clear o3 g3 g3' c0 c1 c2 BX SW RN k1 k3 k4 k5
                    obtain ⟨code, U', ga, rg⟩ := give_both B U V rl
                    have GA := hide ga
                    have RG := hide rg
                    have hcc : (code == code) = true := by simp
                    clear ga rg
                    go_wp2_with fail
                    refine (unhide GA _ b _ (unhide S3).map ((unhide RN3).rn (unhide FT))).mono ?_
                    rintro e w5 ⟨rfl, m5, g5⟩
                    have S5 := hide ((unhide S3).prog g5 m5)
                    have R5 := hide (Rn.keptO (w := w) (unhide RN3) (unhide FT) g5 (unhide S3).map.blk (by decide))
                    clear m5 g5
                    go_wp2_with fail
                    refine (unhide RG w5 w.heap.size rb v1 v2 _ (unhide S5).ref (unhide S5).grown.size (unhide R5)).mono ?_
                    rintro e w6 ⟨rfl, v3, m6, g6⟩
                    have S6 := hide ((unhide S5).doc g6 m6)
                    clear m6 g6
                    go_wp2
                    go_roundw
                    case rel => exact ⟨k + 1, _, _, _, _, rfl, by omega, unhide S6⟩
                    case measure => simp [intOf]; omega
                  · subst k6
                    go_wp2_with (at_builtin; refine wpList_append_iruns rfl (.tmp 86) (.tmp 88) rfl W.heap.size _ rfl (ir_empty W) _ rl rfl ((unhide RN).alloc _) (fun c h => unhide HNn 0 c h) (unhide HLn) (by simp) ?_)
                    intro va w3 o3 g3
                    have g3' : W.grownBy w3 none := (World.grownBy_alloc _ _ _).andThen g3 (fun z e => .inl (by cases e; exact Nat.le_refl _))
                    have S3 := hide ((unhide SW).kept g3')
                    have e0 := g3'.cell c0 (by simp)
                    have e1 := g3'.cell c1 (by simp)
                    clear o3 g3 g3' c0 c1 c2 BX SW RN k1 k3 k4 k5
                    obtain ⟨hn1, hn2⟩ := unhide hnum
                    have HN1 := hide hn1
                    have HN2 := hide hn2
                    clear hn1 hn2
                    go_upto_region 26 with fail
                    go_wp2_with fail
                    refine (Pick_any num 3 w3 (unhide HN1) (unhide HN2) (by omega) (by omega)).mono ?_
                    rintro e w4 ⟨pk, rfl, hpk, rfl⟩
                    have HPk : Hid (pk < 3) := hide (by omega)
                    clear hpk
                    go_wp2_with fail
                    refine (used_any _ w.heap.size rb B pk v1 v2 U V (unhide S3).ref (unhide HPk)).mono ?_
                    rintro e w4 ⟨vb, X, rfl, o4, hX, g4⟩
                    obtain ⟨L, hL⟩ : ∃ L, L = X.map toI := ⟨_, rfl⟩
                    have RN4 : Hid (IR w4 w3.heap.size vb L) := hide (by rw [hL]; exact o4.ir)
                    have FT : Hid (∀ x ∈ L, fits x) := hide (by rw [hL]; exact fits_small hX)
                    have S4 := hide ((unhide S3).kept g4)
                    clear o4 hX g4 S3 e0 e1 hL
                    have S3 := S4
                    have RN3 := RN4
                    clear S4 RN4
                    obtain ⟨code, U', ga, rg⟩ := give_both B U V L
                    have GA := hide ga
                    have RG := hide rg
                    have hcc : (code == code) = true := by simp
                    clear ga rg
                    go_wp2_with fail
                    refine (unhide GA _ b _ (unhide S3).map ((unhide RN3).rn (unhide FT))).mono ?_
                    rintro e w5 ⟨rfl, m5, g5⟩
                    have S5 := hide ((unhide S3).prog g5 m5)
                    have R5 := hide (Rn.keptO (w := w) (unhide RN3) (unhide FT) g5 (unhide S3).map.blk (by decide))
                    clear m5 g5
                    go_wp2_with fail
                    refine (unhide RG w5 w.heap.size rb v1 v2 _ (unhide S5).ref (unhide S5).grown.size (unhide R5)).mono ?_
                    rintro e w6 ⟨rfl, v3, m6, g6⟩
                    have S6 := hide ((unhide S5).doc g6 m6)
                    clear m6 g6
                    go_wp2
                    go_roundw
                    case rel => exact ⟨k + 1, _, _, _, _, rfl, by omega, unhide S6⟩
                    case measure => simp [intOf]; omega
                · have k2 : ¬ kind = 2 := fun e => k26 (.inl e)
                  have k6 : ¬ kind = 6 := fun e => k26 (.inr e)
                  clear k26
                  go_wp2
                  go_roundw
                  case rel => exact ⟨k + 1, _, _, _, _, rfl, by omega, unhide SW⟩
                  case measure => simp [intOf]; omega
      · have hout : ¬ ((k : Int) < (ns : Int) ∧ (k : Int) < 100) := by omega
        have HLL : Hid (∀ K : Prop, ((¬ (k : Int) < (ns : Int)) → K) → (((k : Int) < (ns : Int) ∧ ¬ (k : Int) < 100) → K) → K) := hide (fun K h1 h2 => by
          by_cases e : (k : Int) < (ns : Int)
          · exact h2 ⟨e, fun h => hout ⟨e, h⟩⟩
          · exact h1 e)
        clear hlt hout
        refine unhide HLL _ ?_ ?_
        all_goals intro hx
        all_goals try obtain ⟨hx1, hx2⟩ := hx
        all_goals go_wp2_with fail
        all_goals refine (asked_any _ w.heap.size b rb B v1 v2 U V (unhide ST).map (unhide ST).ref).mono ?_
        all_goals rintro e w5 ⟨rfl, g5⟩
        all_goals have G5 : Hid (w.grownBy w5 none) := hide ((unhide ST).grown.trans g5)
        all_goals clear g5 ST
        all_goals go_wp2
        all_goals go_ret
        all_goals exact ⟨rfl, below_of_grown (unhide G5)⟩

set_option maxRecDepth 100000 in
theorem Plays.lifted (os : Os) (started : os.Started) (H : Type) (enc : TypeId × Value → H) :
    ReturnsInHanded {} Try.checked os 3 .any (Rows.allocPlaysSpec.pre6 enc Try.prog Try.f3 Rows.allocPlaysRow.domain false) (Rows.allocPlaysSpec.post enc Try.prog Try.f3 false true false false) := by
  refine returnsInHanded_of_change_sized (C := Try.checked) own_knob started (by kernel_rfl) Try.func3
    (ChangeSpec.witness6 (enc := enc) (C := Try.checked) false ⟨#[], #[.int .i64 0, .slice none 0 0], []⟩ 8 (by kernel_rfl) (by kernel_rfl) (by kernel_rfl) (by kernel_rfl)) ?_
  intro W base args ds gs before hval0 hW hcnd hsz0 hholds
  have hval : ∀ (j : Nat) t v, Try.f3.params[j]? = some t → args[j]? = some v → Value.okWide Try.prog W .any base t v := hval0
  have hsz : (DataW.weightsEach Try.prog (Try.f3.params.toList ++ Rows.allocPlaysSpec.plain.varTypes Try.prog) (ds ++ gs)).all (· ≤ reachBytes) = true := hsz0
  have hW' := hW
  obtain ⟨p, q, hA0, hV, rfl, hfz, hnd⟩ := hW
  have hA : DataW.TrodAll enc Try.prog W 0 (fun _ => true) true Try.f3.params.toList args.toList ds p := hA0
  rw [Try.params3] at hA hval hsz
  obtain ⟨v0, v1, d0, d1, p0, p1, rfl, rfl, rfl, h0, h1⟩ := trodAll_two hA
  obtain ⟨rfl, rfl⟩ := trodVars_none hV
  obtain ⟨a0, rfl, rfl, rfl, w0⟩ := open_int Try.underlying3 (hval 0 3 v0 rfl rfl) h0
  have k1 := h1
  have lt1 : ∀ x ∈ p1, x.block < W.heap.size := by obtain ⟨m, hm⟩ := k1; exact DataW.trod_lt m _ _ _ hm
  obtain ⟨a1, len1, cap1, rfl⟩ := okWide_slice Try.underlying22 (hval 1 22 v1 rfl rfl)
  have hB : ∀ x ∈ d1.weights Try.prog 22, x ≤ 140737488351232 := fun x hx => by
    have := List.all_eq_true.1 hsz x (DataW.weights_mem_each (j := 1) (t := 22) rfl rfl x hx)
    have := of_decide_eq_true this
    simp only [reachBytes] at this
    omega
  obtain ⟨l1, hl1⟩ := open_acalls3 h1 hB
  have b0 := bounds_i64 w0
  clear hA0 hval0 hsz0
  refine (Plays.walk a0 _ l1 _ W ⟨by omega, by omega⟩ hl1 (Nat.le_refl _)).mono fun e W' ⟨he, bel⟩ => ?_
  subst he
  exact ⟨_, rfl, _, _, _, [], _, [], hW', trodAll_mk1 (shut_bool Try.underlying4 _), (trodAll_cons_mk (shut_int Try.underlying3 w0) (trodAll_cons_mk (Below.trod laid_out (by kernel_rfl) (of_decide_eq_true (by kernel_rfl)) k1 bel lt1) trodAll_mk0)), rfl, bel.frame _, fun h => by cases h⟩

theorem allocPlays_holds : Rows.AllocPlaysSaid :=
  OpenClaim.holds_of_wide 3 Try.f3 rfl rfl rfl rfl rfl rfl rfl ⟨rfl, rfl, rfl, rfl, rfl⟩ rfl rfl rfl rfl rfl (by kernel_rfl) Try.func3 (by kernel_rfl)
    (of_decide_eq_true (by kernel_rfl)) (by unfold Func.isWrapper; first | (rw [if_pos (by decide +kernel)]; kernel_rfl) | (rw [if_neg (by decide +kernel)]; exact ⟨rfl, rfl⟩))
    (fun os started H enc _ => Plays.lifted os started H enc)
#print axioms allocPlays_holds
end Go.Proofs.Ytgdplmbchoogiaa
