/-
  DERIVED. The document's device: a block is read; all is flushed.
-/
import Derived.Test.YtfoanlmmjbclgaaM2
import Derived.Deep.RegionHeld3
import Derived.Deep.CutRange
namespace Go.Proofs.Ytfoanlmmjbclgaa
open Go.RowKit
set_option linter.unusedVariables false
set_option maxRecDepth 20000

/-- What a block is by the first j writes. -/
def newTo (S : St) (ps : List (Nat × List UInt8)) (j n : Nat) : List UInt8 := ((wOf (ps.take j) n).getLast?).getD ((S.safe[n]?).getD [])
theorem newTo_zero (S : St) (ps : List (Nat × List UInt8)) (n : Nat) : newTo S ps 0 n = (S.safe[n]?).getD [] := rfl
theorem newTo_step (S : St) (ps : List (Nat × List UInt8)) (j n : Nat) (hj : j < ps.length) : newTo S ps (j + 1) n = if n = ps[j].1 then ps[j].2 else newTo S ps j n := by
  unfold newTo
  rw [List.take_succ_eq_append_getElem hj, wOf_snoc]
  split
  · simp
  · rfl
theorem newTo_end (S : St) (ps : List (Nat × List UInt8)) (hp : ∀ n, S.pend n = wOf ps n) (n : Nat) : newTo S ps ps.length n = S.newest n := by
  unfold newTo St.newest
  rw [List.take_length, hp]
def RdPost (w : World) (G : Nat → Prop) (rb : Nat) (S : St) (sg sc : Nat) (pv : Value) (ps : List (Nat × List UInt8)) (n : Nat) (e : Ending) (w' : World) : Prop :=
  (burnE S.fused S.fuse = 0 ∧ e = .returned (.tuple #[sV (S.newest n), .int .i64 0]) ∧ RDW w w' G rb S.burn sg sc pv ps) ∨ (burnE S.fused S.fuse ≠ 0 ∧ e = .returned (.tuple #[.string ⟨#[]⟩, .int .i64 2]) ∧ RDW w w' G rb S.burn sg sc pv ps)
theorem burn2 {S : St} (h : burnE S.fused S.fuse ≠ 0) : burnE S.fused S.fuse = 2 := by unfold burnE at h ⊢; split at h <;> simp_all
set_option maxHeartbeats 4000000 in
theorem rRead_go {w : World} {G : Nat → Prop} {rb : Nat} {S : St} {sg sc : Nat} {pv : Value} {ps : List (Nat × List UInt8)} {fz : Int} (h : RDAt w G rb S sg sc pv ps fz) (ho : S.ops < 1000000) (hd : S.down = false) (n : Nat) (hn : n < S.safe.length) :
    Calls Try.prog 20 #[.pointer (some ⟨rb, 0, none⟩), .int .i64 (n : Int)] w (RdPost w G rb S sg sc pv ps n) := by
  have BG := hide (begin_ok h ho (n : Int) (by unfold begE; rw [if_neg (by rw [hd]; decide), if_neg (by omega), if_neg (by decide)]))
  have HPE := hide (newTo_end S ps h.pend n)
  have hn2 : (S.safe.length : Int) ≤ 512 := by have := h.n2; omega
  have hpl : (ps.length : Int) ≤ 1000000 := by have := h.pl; omega
  by_cases hb : burnE S.fused S.fuse = 0
  · rw [hb] at BG
    have HB := hide hb
    clear h hb
    go_enter Try.func20, Try.ntmps20
    go_wp2_with fail
    refine (unhide BG).mono ?_
    rintro e w1 ⟨rfl, hrd⟩
    have HRD := hide hrd
    obtain ⟨⟨fz', r1⟩, k1⟩ := hrd
    obtain ⟨h0, h1, h2, h3, h4, h5⟩ := r1.head
    have hsl : S.burn.safe.length = S.safe.length := rfl
    rw [hsl] at h0
    have cs : w1.cell? ⟨sg, n, none⟩ = some (sV (newTo S ps 0 n)) := (rowCell r1.safeR n (sV (newTo S ps 0 n)) (by rw [List.getElem?_map]; show (S.safe[n]?).map sV = _; rw [newTo_zero, List.getElem?_eq_getElem hn]; rfl)).1
    obtain ⟨po, pc, hpv, hp1, hp2, hp3⟩ := rowForm r1.pendR
    have HPR := hide r1.pendR
    obtain ⟨np, hnp⟩ : ∃ np, np = ps.length := ⟨_, rfl⟩
    rw [← hnp] at hpv hp1 hp3 hpl
    have HNP := hide hnp
    have HP3 := hide hp3
    rw [hpv] at h1
    have HPV := hide hpv
    obtain ⟨N, hN⟩ : ∃ N, N = S.safe.length := ⟨_, rfl⟩
    rw [← hN] at h0 hn hn2
    have hnI : (n : Int) < (N : Int) := by omega
    have hn0 : (0 : Int) ≤ (n : Int) := by omega
    clear r1 k1 hsl hnp hp3 hpv h2 h3 h4 h5 BG hN
    go_wp2_with fail
    clear cs h0
    go_loopw [7, 8] (fun s i W => ∃ (j : Nat), s = sV (newTo S ps j n) ∧ i = .int .i64 (j : Int) ∧ j ≤ np ∧ W = w1) (fun _ i _ => np - (intOf i).toNat)
    case atStart => exact ⟨0, rfl, rfl, by omega, rfl⟩
    case round =>
      obtain ⟨j, rfl, rfl, hj, rfl⟩ := hrel
      by_cases hlt : j < np
      · have hltI : (j : Int) < (np : Int) := by omega
        have hjl : j < ps.length := by rw [← unhide HNP]; exact hlt
        obtain ⟨q, hq⟩ := unhide HP3 (by omega)
        subst hq
        have hrow := unhide HPR
        rw [unhide HPV] at hrow
        have e := unhide HNP
        rw [← e] at hrow
        have c0 := (rowCell hrow (j * 2) _ (pC_at ps j hjl).1).1
        have c1 := (rowCell hrow (j * 2 + 1) _ (pC_at ps j hjl).2).1
        have HST := hide (newTo_step S ps j n hjl)
        obtain ⟨a, ha⟩ : ∃ a, a = ps[j].1 := ⟨_, rfl⟩
        obtain ⟨L, hL⟩ : ∃ L, L = ps[j].2 := ⟨_, rfl⟩
        rw [← ha] at c0 HST
        rw [← hL] at c1 HST
        obtain ⟨sn, hsn⟩ : ∃ sn, sn = sV L := ⟨_, rfl⟩
        have HSN := hide hsn
        rw [← hsn] at c1
        clear hrow ha hL hsn e
        by_cases hm : n = a
        · have hmb : ((a : Int) == (n : Int)) = true := by rw [hm]; simp
          have HX : Hid (sn = sV (newTo S ps (j + 1) n)) := hide (by rw [unhide HST, if_pos hm]; exact unhide HSN)
          clear hm HST HSN
          go_wp2
          go_roundw
          case rel => exact ⟨j + 1, unhide HX, by go_num, by omega, by first | rfl | trivial⟩
          case measure => simp [intOf]; omega
        · have hmb : ((a : Int) == (n : Int)) = false := beq_eq_false_iff_ne.2 (by omega)
          have HX : Hid (newTo S ps j n = newTo S ps (j + 1) n) := hide (by rw [unhide HST, if_neg hm])
          clear hm HST HSN
          go_wp2
          go_roundw
          case rel => exact ⟨j + 1, by rw [unhide HX], by go_num, by omega, by first | rfl | trivial⟩
          case measure => simp [intOf]; omega
      · have hltI : ¬ (j : Int) < (np : Int) := by omega
        have e1 : newTo S ps j n = S.newest n := by
          have : j = ps.length := by have := unhide HNP; omega
          rw [this]; exact unhide HPE
        rw [e1]
        clear e1
        obtain ⟨sn, hsn⟩ : ∃ sn, sn = sV (S.newest n) := ⟨_, rfl⟩
        have HSN := hide hsn
        rw [← hsn]
        clear hsn
        go_wp2
        go_ret2
        exact .inl ⟨unhide HB, by rw [unhide HSN]; rfl, unhide HRD⟩
  · rw [burn2 hb] at BG
    have HB := hide hb
    clear h hb
    go_enter Try.func20, Try.ntmps20
    go_wp2_with fail
    refine (unhide BG).mono ?_
    rintro e w1 ⟨rfl, hrd⟩
    have HRD := hide hrd
    clear hrd BG
    go_wp2
    go_ret2
    exact .inr ⟨unhide HB, rfl, unhide HRD⟩
set_option maxHeartbeats 4000000 in
theorem rRead_no {w : World} {G : Nat → Prop} {rb : Nat} {S : St} {sg sc : Nat} {pv : Value} {ps : List (Nat × List UInt8)} {fz : Int} (h : RDAt w G rb S sg sc pv ps fz) (n : Int) (hb : begE S n false ≠ 0) :
    Calls Try.prog 20 #[.pointer (some ⟨rb, 0, none⟩), .int .i64 n] w fun e w' => e = .returned (.tuple #[.string ⟨#[]⟩, .int .i64 (begE S n false)]) ∧ w' = w := by
  have BG := hide (begin_no h n false hb)
  obtain ⟨x, hx⟩ : ∃ x, x = begE S n false := ⟨_, rfl⟩
  rw [← hx] at BG hb ⊢
  have hxb : (x == 0) = false := beq_eq_false_iff_ne.2 hb
  clear h hb hx
  go_enter Try.func20, Try.ntmps20
  go_wp2_with fail
  refine (unhide BG).mono ?_
  rintro e w1 ⟨rfl, rfl⟩
  go_wp2
  go_ret2
  exact ⟨rfl, rfl⟩
/-- One block of it is set. -/
theorem RDAt.setSafe {w : World} {G : Nat → Prop} {rb : Nat} {S : St} {sg sc : Nat} {pv : Value} {ps : List (Nat × List UInt8)} {fz : Int} (h : RDAt w G rb S sg sc pv ps fz) (k : Nat) (L : List UInt8) (w' : World) (hw : w'.heap = (w.setCell ⟨sg, k, none⟩ (sV L)).heap) : RDAt w' G rb { S with safe := S.safe.set k L } sg sc pv ps fz := by
  obtain ⟨k1, k2⟩ := h.kinds
  have ho : ∀ q, q ≠ sg → w'.heap[q]? = w.heap[q]? := fun q hq => by rw [hw]; exact heap_setCell_other _ _ _ _ hq
  have hl : (S.safe.set k L).length = S.safe.length := List.length_set
  refine { h with
    blk := by simp only [hl]; exact (ho rb (Ne.symm k1)).trans h.blk
    safeR := ?_
    pendR := rowF h.pendR fun q hq _ => ho q (k2 q hq).2
    inb := by simp only [hl]; exact h.inb
    n1 := by simp only [hl]; exact h.n1
    n2 := by simp only [hl]; exact h.n2 }
  have := rowSet h.safeR k (sV L)
  rw [← List.map_set] at this
  simp only [hl]
  refine rowF this fun q _ _ => by rw [hw]
/-- Nothing is pending any more. -/
theorem RDAt.clear {w : World} {G : Nat → Prop} {rb : Nat} {S : St} {sg sc : Nat} {pv : Value} {ps : List (Nat × List UInt8)} {fz : Int} (h : RDAt w G rb S sg sc pv ps fz) : RDAt (w.setCell ⟨rb, 1, none⟩ (.slice none 0 0)) G rb { S with pend := fun _ => [] } sg sc (.slice none 0 0) [] fz := by
  obtain ⟨k1, k2⟩ := h.kinds
  exact { h with
    blk := set1 _ _ _ _ _ _ _ _ _ h.blk
    safeR := rowF h.safeR fun q hq _ => heap_setCell_other _ _ _ _ (by cases hq; exact k1)
    pendR := World.ownsRow_nil _ _ _ _
    pend := fun n => rfl
    inb := fun p hp => by cases hp
    gp := fun q hq => by cases hq
    pl := h.o1 }
def flTo (S : St) (ps : List (Nat × List UInt8)) (j : Nat) : List (List UInt8) := (List.range S.safe.length).map (newTo S ps j)
theorem flTo_get (S : St) (ps : List (Nat × List UInt8)) (j i : Nat) (h : i < (flTo S ps j).length) : (flTo S ps j)[i] = newTo S ps j i := by simp [flTo]
theorem flTo_zero (S : St) (ps : List (Nat × List UInt8)) : flTo S ps 0 = S.safe := by
  apply List.ext_getElem (by simp [flTo])
  intro i h1 h2
  rw [flTo_get, newTo_zero, List.getElem?_eq_getElem h2]
  rfl
theorem flTo_step (S : St) (ps : List (Nat × List UInt8)) (j : Nat) (hj : j < ps.length) : flTo S ps (j + 1) = (flTo S ps j).set ps[j].1 ps[j].2 := by
  apply List.ext_getElem (by simp [flTo])
  intro i h1 h2
  rw [List.getElem_set, flTo_get, flTo_get, newTo_step S ps j i hj]
  by_cases e : i = ps[j].1
  · rw [if_pos e, if_pos e.symm]
  · rw [if_neg e, if_neg (fun h => e h.symm)]
theorem flTo_end (S : St) (ps : List (Nat × List UInt8)) (hp : ∀ n, S.pend n = wOf ps n) : flTo S ps ps.length = S.flushed.safe := by
  unfold flTo St.flushed
  exact List.map_congr_left fun n _ => newTo_end S ps hp n
theorem flTo_len (S : St) (ps : List (Nat × List UInt8)) (j : Nat) : (flTo S ps j).length = S.safe.length := by simp [flTo]
def FlPost (w : World) (G : Nat → Prop) (rb : Nat) (S : St) (sg sc : Nat) (pv : Value) (ps : List (Nat × List UInt8)) (e : Ending) (w' : World) : Prop :=
  (burnE S.fused S.fuse = 0 ∧ e = .returned (.int .i64 0) ∧ RDW w w' G rb S.burn.flushed sg sc (.slice none 0 0) []) ∨ (burnE S.fused S.fuse ≠ 0 ∧ e = .returned (.int .i64 2) ∧ RDW w w' G rb S.burn sg sc pv ps)
set_option maxHeartbeats 8000000 in
theorem rFlush_go {w : World} {G : Nat → Prop} {rb : Nat} {S : St} {sg sc : Nat} {pv : Value} {ps : List (Nat × List UInt8)} {fz : Int} (h : RDAt w G rb S sg sc pv ps fz) (ho : S.ops < 1000000) (hd : S.down = false) :
    Calls Try.prog 23 #[.pointer (some ⟨rb, 0, none⟩)] w (FlPost w G rb S sg sc pv ps) := by
  have BG := hide (begin_ok h ho 0 (by have := h.n1; unfold begE; rw [if_neg (by rw [hd]; decide), if_neg (by omega), if_neg (by decide)]))
  have HPE := hide (flTo_end S.burn ps h.pend)
  have hn2 : (S.safe.length : Int) ≤ 512 := by have := h.n2; omega
  have hpl : (ps.length : Int) ≤ 1000000 := by have := h.pl; omega
  by_cases hb : burnE S.fused S.fuse = 0
  · rw [hb] at BG
    have HB := hide hb
    clear h hb
    go_enter Try.func23, Try.ntmps23
    go_wp2_with fail
    refine (unhide BG).mono ?_
    rintro e w1 ⟨rfl, hrd⟩
    obtain ⟨⟨fz', r1⟩, k1⟩ := hrd
    have R1 : Hid (RDAt w1 G rb { S.burn with safe := flTo S.burn ps 0 } sg sc pv ps fz') := hide (by rw [flTo_zero]; exact r1)
    have K1 := hide k1
    obtain ⟨po, pc, hpv, hp1, hp2, hp3⟩ := rowForm r1.pendR
    obtain ⟨np, hnp⟩ : ∃ np, np = ps.length := ⟨_, rfl⟩
    rw [← hnp] at hpv hp1 hp3 hpl
    have HNP := hide hnp
    have HP3 := hide hp3
    have HPV := hide hpv
    have HIN := hide r1.inb
    clear r1 k1 hnp hp3 hpv BG
    go_wp2_with fail
    go_loopw [4] (fun i W => ∃ (j : Nat), i = .int .i64 (j : Int) ∧ j ≤ np ∧ Hid (RDAt W G rb { S.burn with safe := flTo S.burn ps j } sg sc pv ps fz') ∧ Hid (Kept G w W)) (fun i _ => np - (intOf i).toNat)
    case atStart => exact ⟨0, rfl, by omega, R1, K1⟩
    case round =>
      obtain ⟨j, rfl, hj, RJ, KJ⟩ := hrel
      clear R1 K1
      obtain ⟨h0, h1, h2, h3, h4, h5⟩ := (unhide RJ).head
      have hsl : ({ S.burn with safe := flTo S.burn ps j } : St).safe.length = S.safe.length := flTo_len S.burn ps j
      rw [hsl] at h0
      rw [unhide HPV] at h1
      by_cases hlt : j < np
      · have hltI : (j : Int) < (np : Int) := by omega
        have hjl : j < ps.length := by rw [← unhide HNP]; exact hlt
        obtain ⟨q, hq⟩ := unhide HP3 (by omega)
        subst hq
        have hrow := (unhide RJ).pendR
        rw [unhide HPV] at hrow
        have e := unhide HNP
        rw [← e] at hrow
        have c0 := (rowCell hrow (j * 2) _ (pC_at ps j hjl).1).1
        have c1 := (rowCell hrow (j * 2 + 1) _ (pC_at ps j hjl).2).1
        have hin := unhide HIN _ (List.getElem_mem hjl)
        obtain ⟨s0, s1⟩ := rowCell (unhide RJ).safeR ps[j].1 (sV ((flTo S.burn ps j)[ps[j].1]'(by rw [flTo_len]; exact hin))) (by rw [List.getElem?_map]; show ((flTo S.burn ps j)[ps[j].1]?).map sV = _; rw [List.getElem?_eq_getElem (by rw [flTo_len]; exact hin)]; rfl)
        have FN : Hid (∀ W', W'.heap = (wr.setCell ⟨sg, ps[j].1, none⟩ (sV ps[j].2)).heap → W'.os = wr.os → W'.tape = wr.tape → W'.output = wr.output → RDAt W' G rb { S.burn with safe := flTo S.burn ps (j + 1) } sg sc pv ps fz' ∧ Kept G w W') := hide (fun W' e1 e2 e3 e4 => by
          refine ⟨?_, (unhide KJ).trans ⟨e2, e3, e4, by rw [e1]; simp [World.setCell], fun q hq hg => by rw [e1]; exact heap_setCell_other _ _ _ _ fun (e : q = sg) => hg (e ▸ (unhide RJ).gs)⟩⟩
          have := (unhide RJ).setSafe ps[j].1 ps[j].2 W' e1
          simp only at this
          rw [flTo_step S.burn ps j hjl]
          exact this)
        obtain ⟨a, ha⟩ : ∃ a, a = ps[j].1 := ⟨_, rfl⟩
        obtain ⟨L, hL⟩ : ∃ L, L = ps[j].2 := ⟨_, rfl⟩
        obtain ⟨old, hold⟩ : ∃ o, o = sV ((flTo S.burn ps j)[ps[j].1]'(by rw [flTo_len]; exact hin)) := ⟨_, rfl⟩
        rw [← hold] at s0
        rw [← ha] at c0 FN hin s0 s1
        rw [← hL] at c1 FN
        obtain ⟨sn, hsn⟩ : ∃ sn : ByteArray, sn = ⟨L.toArray⟩ := ⟨_, rfl⟩
        have c1' : wr.cell? ⟨q, j * 2 + 1, none⟩ = some (.string sn) := by rw [hsn]; exact c1
        rw [show sV L = .string sn by rw [hsn]] at FN
        obtain ⟨N, hN⟩ : ∃ N, N = S.safe.length := ⟨_, rfl⟩
        rw [← hN] at h0 hn2
        have haI : (a : Int) < (N : Int) := by have : S.burn.safe.length = S.safe.length := rfl; omega
        have ha0 : (0 : Int) ≤ (a : Int) := by omega
        clear hrow ha hL hsn e c1 hin hold RJ KJ hsl h2 h3 h4 h5 hN
        go_wp2_with fail
        go_region
        all_goals
          have F2 := hide (unhide FN (wr.setCell ⟨sg, a, none⟩ (.string sn)).drew rfl rfl rfl rfl)
          clear FN
          go_wp2
          go_roundw
          case rel => exact ⟨j + 1, by go_num, by omega, hide (unhide F2).1, hide (unhide F2).2⟩
          case measure => simp [intOf]; omega
      · have hltI : ¬ (j : Int) < (np : Int) := by omega
        have FN : Hid (RDW w (wr.setCell ⟨rb, 1, none⟩ (.slice none 0 0)) G rb S.burn.flushed sg sc (.slice none 0 0) []) := hide (by
          refine ⟨⟨fz', ?_⟩, (unhide KJ).trans ⟨rfl, rfl, rfl, by simp [World.setCell], fun q _ hq => heap_setCell_other _ _ _ _ fun (e : q = rb) => hq (e ▸ (unhide RJ).gr)⟩⟩
          have := (unhide RJ).clear
          have hje : j = ps.length := by have := unhide HNP; omega
          rw [hje, unhide HPE] at this
          exact this)
        have lr := lt_of_block (unhide RJ).blk
        clear RJ KJ
        go_wp2
        go_ret
        exact .inl ⟨unhide HB, rfl, unhide FN⟩
  · rw [burn2 hb] at BG
    have HB := hide hb
    clear h hb
    go_enter Try.func23, Try.ntmps23
    go_wp2_with fail
    refine (unhide BG).mono ?_
    rintro e w1 ⟨rfl, hrd⟩
    have HRD := hide hrd
    clear hrd BG
    go_wp2
    go_ret
    exact .inr ⟨unhide HB, rfl, unhide HRD⟩
set_option maxHeartbeats 4000000 in
theorem rFlush_no {w : World} {G : Nat → Prop} {rb : Nat} {S : St} {sg sc : Nat} {pv : Value} {ps : List (Nat × List UInt8)} {fz : Int} (h : RDAt w G rb S sg sc pv ps fz) (hd : S.down = true) :
    Calls Try.prog 23 #[.pointer (some ⟨rb, 0, none⟩)] w fun e w' => e = .returned (.int .i64 2) ∧ w' = w := by
  have e : begE S 0 false = 2 := by unfold begE; rw [if_pos hd]
  have BG := begin_no h 0 false (by rw [e]; decide)
  rw [e] at BG
  have BG := hide BG
  clear h e hd
  go_enter Try.func23, Try.ntmps23
  go_wp2_with fail
  refine (unhide BG).mono ?_
  rintro e w1 ⟨rfl, rfl⟩
  go_wp2
  go_ret
  exact ⟨rfl, rfl⟩
end Go.Proofs.Ytfoanlmmjbclgaa

/-
  DERIVED. The document's device: its blocks with writes; a block is written.
-/
namespace Go.Proofs.Ytfoanlmmjbclgaa
open Go.RowKit
set_option linter.unusedVariables false
set_option maxRecDepth 20000

/-- Numbers of one's own. -/
def KOwn (w : World) (base : Nat) (v : Value) (l : List Nat) : Prop := w.ownsRow base 3 1 v l.length (l.map fun k => Value.int .i64 (k : Nat))
theorem KOwn.nil (w : World) (base : Nat) : KOwn w base (.slice none 0 0) [] := World.ownsRow_nil w _ _ _
theorem KOwn.keptB {w w' : World} {base : Nat} {v : Value} {l : List Nat} (h : KOwn w base v l) (hk : ∀ q, v.ownBlock = some q → q < w.heap.size → w'.heap[q]? = w.heap[q]?) : KOwn w' base v l := by
  obtain ⟨h1, h2⟩ := h
  refine ⟨h1, ?_⟩
  rcases h2 with h2 | ⟨q, cap, cur, rfl, hb, hg, r⟩
  · exact .inl h2
  · exact .inr ⟨q, cap, cur, rfl, hb, (hk q rfl (lt_of_block hg)).trans hg, r⟩
theorem KOwn.at {w : World} {base : Nat} {v : Value} {l : List Nat} (h : KOwn w base v l) : ∃ ao cap, v = .slice ao l.length cap ∧ l.length ≤ cap ∧ cap ≤ 9223372036854775807 ∧ ∀ i (hi : i < l.length), ∃ q, ao = some ⟨q, 0, none⟩ ∧ base ≤ q ∧ q < w.heap.size ∧ w.cell? ⟨q, i, none⟩ = some (.int .i64 (l[i] : Nat)) ∧ w.frozen? ⟨q, i, none⟩ = false := by
  obtain ⟨ao, cap, e, h1, h2, h3⟩ := rowForm h
  refine ⟨ao, cap, e, h1, h2, fun i hi => ?_⟩
  obtain ⟨q, hq⟩ := h3 (by omega)
  subst hq
  subst e
  obtain ⟨hb, hl, cur, hg⟩ := rowL h (q := q) rfl
  have hc := h.cells (g := q) rfl i (.int .i64 (l[i] : Nat)) (by rw [List.getElem?_map, List.getElem?_eq_getElem hi]; rfl)
  rw [addr_add, Nat.zero_add] at hc
  exact ⟨q, rfl, hb, hl, hc, frozen_of_row w q i _ _ hg⟩
theorem infoK : (Try.prog.info? 3).map (fun i => (i.zero, i.size, i.bytes)) = some (some (.int .i64 0), 1, 8) := by kernel_rfl
theorem infoS : (Try.prog.info? 9).map (fun i => (i.zero, i.size, i.bytes)) = some (some (.string ByteArray.empty), 1, 16) := by kernel_rfl
theorem infoW : (Try.prog.info? 68).map (fun i => (i.zero, i.size, i.bytes)) = some (some (.agg #[.int .i64 0, .string ByteArray.empty]), 2, 24) := by kernel_rfl
theorem info_partsB {i : Option TypeInfo} {z : Value} {s b : Nat} (h : i.map (fun i => (i.zero, i.size, i.bytes)) = some (some z, s, b)) : ∃ i0, i = some i0 ∧ i0.zero = some z ∧ i0.size = s ∧ i0.bytes = b := by
  cases i with
  | none => cases h
  | some i => simp at h; exact ⟨i, rfl, h.1, h.2.1, h.2.2⟩
theorem cell_oneB (w : World) (x : Value) (t : TypeId) : ∀ j u, [x][j]? = some u → (w.alloc (.cells #[x] t)).cell? ((⟨w.heap.size, 0, none⟩ : Addr).add j) = some u := cell_one_new w x t
theorem wpList_append_nat {w : World} {ops : Array Oper} {rest : List Oper} {o : Oper} {a : Act} {Q : Exit → Act → World → Prop} (hgd : o.guard = none) (s x : Operand)
    (ho : o.op = .call { callee := .builtin .append, args := #[s, x], argTypes := #[35, 35] })
    (base : Nat) (v : Value) (l : List Nat) (k : Nat) (hs : a.eval s = v) (hown : KOwn w base v l) (hj : l.length ≤ 1000)
    (ad : Addr) (c : Nat) (hx : a.eval x = .slice (some ad) 1 c) (hy : ∀ j u, [Value.int .i64 (k : Nat)][j]? = some u → w.cell? (ad.add j) = some u) (hbase : base ≤ w.heap.size)
    (h : ∀ v' w', KOwn w' base v' (l ++ [k]) → w.grownBy w' v.ownBlock → wpList Try.prog ops Q rest (a.put o.dst v') w') : wpList Try.prog ops Q (o :: rest) a w := by
  obtain ⟨i0, hi, hz0, hz1, hz2⟩ := info_partsB infoK
  refine wpList_append_own w hgd s x 35 ho base 3 i0 (.int .i64 0) 1 8 Try.underlying35 hi hz0 hz1 hz2 rfl (by decide) v l.length _ hs hown ad 1 c [.int .i64 (k : Nat)] hx (by simp) hy ?_ (by unfold maxLen; omega) (by omega) hbase ?_
  · intro u hu
    obtain rfl : u = .int .i64 (k : Nat) := by simpa using hu
    rfl
  · intro v' w' ho' hgr _
    refine h v' w' ?_ hgr
    unfold KOwn
    rw [List.length_append, List.map_append]
    exact ho'
theorem pk_step (j : Nat) (pend : Nat → List (List UInt8)) : pk (j + 1) pend = if (pend j).isEmpty then pk j pend else pk j pend ++ [j] := by
  unfold pk
  rw [List.range_succ, List.filter_append]
  cases h : (pend j).isEmpty <;> simp [h]
def BlPost (w : World) (S : St) (e : Ending) (w' : World) : Prop := ∃ v, e = .returned v ∧ KOwn w' w.heap.size v S.keys ∧ Below w.heap.size w w'
set_option maxHeartbeats 8000000 in
theorem rBlocks_go {w : World} {G : Nat → Prop} {rb : Nat} {S : St} {sg sc : Nat} {pv : Value} {ps : List (Nat × List UInt8)} {fz : Int} (h : RDAt w G rb S sg sc pv ps fz) (ho : S.ops < 1000000) :
    Calls Try.prog 27 #[.pointer (some ⟨rb, 0, none⟩)] w (BlPost w S) := by
  obtain ⟨h0, h1, h2, h3, h4, h5⟩ := h.head
  have hn2 : (S.safe.length : Int) ≤ 512 := by have := h.n2; omega
  have hpl : (ps.length : Int) ≤ 1000000 := by have := h.pl; omega
  have lr := lt_of_block h.blk
  obtain ⟨po, pc, hpv, hp1, hp2, hp3⟩ := rowForm h.pendR
  have HPR := hide h.pendR
  have HPD := hide h.pend
  obtain ⟨np, hnp⟩ : ∃ np, np = ps.length := ⟨_, rfl⟩
  rw [← hnp] at hpv hp1 hp3 hpl
  have HNP := hide hnp
  have HP3 := hide hp3
  rw [hpv] at h1
  have HPV := hide hpv
  obtain ⟨N, hN⟩ : ∃ N, N = S.safe.length := ⟨_, rfl⟩
  rw [← hN] at h0 hn2
  have HN := hide hN
  have H01 : Hid (∀ W, Below w.heap.size w W → W.cell? ⟨rb, 0, none⟩ = some (.slice (some ⟨sg, 0, none⟩) N sc) ∧ W.cell? ⟨rb, 1, none⟩ = some (.slice po np pc)) := hide (fun W hW => ⟨(hW.cell (p := ⟨rb, 0, none⟩) lr).trans h0, (hW.cell (p := ⟨rb, 1, none⟩) lr).trans h1⟩)
  clear h hnp hp3 hpv h0 h1 h2 h3 h4 h5 hN
  go_enter Try.func27, Try.ntmps27
  go_wp2_with fail
  go_loopw [3, 4] (fun v i W => ∃ (j : Nat), i = .int .i64 (j : Int) ∧ j ≤ N ∧ Hid (KOwn W w.heap.size v (pk j S.pend)) ∧ Hid (Below w.heap.size w W)) (fun _ i _ => N - (intOf i).toNat)
  case atStart => exact ⟨0, rfl, by omega, hide (KOwn.nil _ _), hide (Below.refl _ _)⟩
  case round =>
    obtain ⟨j, rfl, hj, HO, HB⟩ := hrel
    obtain ⟨c0, c1⟩ := unhide H01 wr (unhide HB)
    by_cases hlt : j < N
    · have hltI : (j : Int) < (N : Int) := by omega
      obtain ⟨W0, hW0⟩ : ∃ W0, W0 = wr := ⟨_, rfl⟩
      rw [← hW0] at c0 c1 HO HB ⊢
      clear hW0
      go_wp2_with fail
      go_loopw [5, 6] (fun x i W => ∃ (k : Nat) (b : Bool), x = .bool b ∧ b = !(wOf (ps.take k) j).isEmpty ∧ i = .int .i64 (k : Int) ∧ k ≤ np ∧ W = W0) (fun _ i _ => np - (intOf i).toNat)
      case atStart => exact ⟨0, false, rfl, rfl, rfl, by omega, rfl⟩
      case round =>
        obtain ⟨k, b, rfl, hb, rfl, hk, rfl⟩ := hrel
        have HBB := hide hb
        clear hb
        by_cases hkl : k < np
        · have hkI : (k : Int) < (np : Int) := by omega
          have hkp : k < ps.length := by rw [← unhide HNP]; exact hkl
          obtain ⟨q, hq⟩ := unhide HP3 (by omega)
          subst hq
          have hrow := unhide HPR
          rw [unhide HPV] at hrow
          have e := unhide HNP
          rw [← e] at hrow
          have hq2 : q < w.heap.size := (rowL hrow (q := q) rfl).2.1
          have d0 : wr.cell? ⟨q, k * 2, none⟩ = some (.int .i64 (ps[k].1 : Int)) := ((unhide HB).cell (p := ⟨q, k * 2, none⟩) hq2).trans (rowCell hrow (k * 2) _ (pC_at ps k hkp).1).1
          have HST : Hid (wOf (ps.take (k + 1)) j = if j = ps[k].1 then wOf (ps.take k) j ++ [ps[k].2] else wOf (ps.take k) j) := hide (by rw [List.take_succ_eq_append_getElem hkp, wOf_snoc])
          obtain ⟨a, ha⟩ : ∃ a, a = ps[k].1 := ⟨_, rfl⟩
          rw [← ha] at d0 HST
          clear hrow e ha hq2
          cases b with
          | true =>
            have HX : Hid (true = !(wOf (ps.take (k + 1)) j).isEmpty) := hide (by
              rw [unhide HST]
              split
              · simp
              · exact unhide HBB)
            go_wp2
            go_roundw
            case rel => exact ⟨k + 1, true, rfl, unhide HX, by go_num, by omega, by first | rfl | trivial⟩
            case measure => simp [intOf]; omega
          | false =>
            by_cases hm : j = a
            · have hmb : ((a : Int) == (j : Int)) = true := by rw [hm]; simp
              have HX : Hid (true = !(wOf (ps.take (k + 1)) j).isEmpty) := hide (by rw [unhide HST, if_pos hm]; simp)
              clear hm
              go_wp2
              go_roundw
              case rel => exact ⟨k + 1, true, by first | rfl | simp [hmb], unhide HX, by go_num, by omega, by first | rfl | trivial⟩
              case measure => simp [intOf]; omega
            · have hmb : ((a : Int) == (j : Int)) = false := beq_eq_false_iff_ne.2 (by omega)
              have HX : Hid (false = !(wOf (ps.take (k + 1)) j).isEmpty) := hide (by rw [unhide HST, if_neg hm]; exact unhide HBB)
              clear hm
              go_wp2
              go_roundw
              case rel => exact ⟨k + 1, false, by first | rfl | simp [hmb], unhide HX, by go_num, by omega, by first | rfl | trivial⟩
              case measure => simp [intOf]; omega
        · have hkI : ¬ (k : Int) < (np : Int) := by omega
          have HE : Hid (b = !(S.pend j).isEmpty) := hide (by
            rw [unhide HPD]
            have := unhide HBB
            rw [List.take_of_length_le (by have := unhide HNP; omega)] at this
            exact this)
          have HPK := hide (pk_step j S.pend)
          obtain ⟨W1, hW1⟩ : ∃ W1, W1 = wr := ⟨_, rfl⟩
          cases b with
          | false =>
            have HX : Hid (pk (j + 1) S.pend = pk j S.pend) := hide (by
              rw [unhide HPK, if_pos]
              have := unhide HE
              simpa using this)
            clear HPK HE HBB hW1
            go_wp2
            go_roundw
            case rel => exact ⟨j + 1, by go_num, by omega, hide (by rw [unhide HX]; exact unhide HO), HB⟩
            case measure => simp [intOf]; omega
          | true =>
            have HX : Hid (pk (j + 1) S.pend = pk j S.pend ++ [j]) := hide (by
              rw [unhide HPK, if_neg]
              have := unhide HE
              simpa using this)
            have HZ : Hid (w.heap.size ≤ (wr.alloc (.cells #[.int .i64 (j : Nat)] 3)).heap.size) := hide (by have := (unhide HB).size; simp; omega)
            have HO2 : Hid (KOwn (wr.alloc (.cells #[.int .i64 (j : Nat)] 3)) w.heap.size u3 (pk j S.pend)) := hide ((unhide HO).keptB fun q _ hl => Below.heap_alloc _ _ _ hl)
            have HLn : Hid ((pk j S.pend).length ≤ 1000) := hide (by have := pk_len j S.pend; omega)
            have HFN : Hid (∀ v' w', KOwn w' w.heap.size v' (pk j S.pend ++ [j]) → (wr.alloc (.cells #[.int .i64 (j : Nat)] 3)).grownBy w' u3.ownBlock → KOwn w' w.heap.size v' (pk (j + 1) S.pend) ∧ Below w.heap.size w w') := hide (fun v' w' o' g' => by
              have hbw := (unhide HB).alloc (unhide HB).size (.cells #[.int .i64 (j : Nat)] 3)
              refine ⟨by rw [unhide HX]; exact o', hbw.trans ⟨g'.os, g'.tape, g'.output, by have := g'.size; have := unhide HZ; omega, fun q hq => g'.block q (by have := unhide HZ; omega) fun e => ?_⟩⟩
              have := (rowL (unhide HO) e.symm).1
              omega)
            clear HPK HE HBB hW1 HO HB
            go_wp2_with (first | (refine wpList_append_nat rfl (.tmp 39) (.tmp 41) rfl w.heap.size u3 (pk j S.pend) j rfl (unhide HO2) (unhide HLn) ⟨wr.heap.size, 0, none⟩ 1 rfl (cell_oneB _ _ _) (unhide HZ) ?_; intro v8 w8 o8 g8; have F8 := hide (unhide HFN v8 w8 o8 g8); clear o8 g8) | fail)
            go_roundw
            case rel => exact ⟨j + 1, by go_num, by omega, hide (unhide F8).1, hide (unhide F8).2⟩
            case measure => simp [intOf]; omega
    · have hltI : ¬ (j : Int) < (N : Int) := by omega
      have HF : Hid (KOwn wr w.heap.size u3 S.keys) := hide (by
        have : j = S.safe.length := by have := unhide HN; omega
        unfold St.keys
        rw [← this]
        exact unhide HO)
      go_wp2
      go_ret
      exact ⟨_, rfl, unhide HF, unhide HB⟩
end Go.Proofs.Ytfoanlmmjbclgaa

/-
  DERIVED. The document's device crashes.
-/
namespace Go.Proofs.Ytfoanlmmjbclgaa
open Go.RowKit
set_option linter.unusedVariables false
set_option maxRecDepth 20000

/-- Texts of one's own. -/
def TOwn (w : World) (base : Nat) (v : Value) (l : List (List UInt8)) : Prop := w.ownsRow base 9 1 v l.length (l.map sV)
theorem TOwn.nil (w : World) (base : Nat) : TOwn w base (.slice none 0 0) [] := World.ownsRow_nil w _ _ _
theorem TOwn.keptB {w w' : World} {base : Nat} {v : Value} {l : List (List UInt8)} (h : TOwn w base v l) (hk : ∀ q, v.ownBlock = some q → q < w.heap.size → w'.heap[q]? = w.heap[q]?) : TOwn w' base v l := by
  obtain ⟨h1, h2⟩ := h
  refine ⟨h1, ?_⟩
  rcases h2 with h2 | ⟨q, cap, cur, rfl, hb, hg, r⟩
  · exact .inl h2
  · exact .inr ⟨q, cap, cur, rfl, hb, (hk q rfl (lt_of_block hg)).trans hg, r⟩
theorem TOwn.at {w : World} {base : Nat} {v : Value} {l : List (List UInt8)} (h : TOwn w base v l) : ∃ ao cap, v = .slice ao l.length cap ∧ l.length ≤ cap ∧ cap ≤ 9223372036854775807 ∧ ∀ i (hi : i < l.length), ∃ q, ao = some ⟨q, 0, none⟩ ∧ base ≤ q ∧ q < w.heap.size ∧ w.cell? ⟨q, i, none⟩ = some (sV l[i]) := by
  obtain ⟨ao, cap, e, h1, h2, h3⟩ := rowForm h
  refine ⟨ao, cap, e, h1, h2, fun i hi => ?_⟩
  obtain ⟨q, hq⟩ := h3 (by omega)
  subst hq
  subst e
  obtain ⟨hb, hl, cur, hg⟩ := rowL h (q := q) rfl
  have hc := h.cells (g := q) rfl i (sV l[i]) (by rw [List.getElem?_map, List.getElem?_eq_getElem hi]; rfl)
  rw [addr_add, Nat.zero_add] at hc
  exact ⟨q, rfl, hb, hl, hc⟩
theorem wpList_append_text {w : World} {ops : Array Oper} {rest : List Oper} {o : Oper} {a : Act} {Q : Exit → Act → World → Prop} (hgd : o.guard = none) (s x : Operand)
    (ho : o.op = .call { callee := .builtin .append, args := #[s, x], argTypes := #[41, 41] })
    (base : Nat) (v : Value) (l : List (List UInt8)) (L : List UInt8) (hs : a.eval s = v) (hown : TOwn w base v l) (hj : l.length ≤ 1000000)
    (ad : Addr) (c : Nat) (hx : a.eval x = .slice (some ad) 1 c) (hy : ∀ j u, [sV L][j]? = some u → w.cell? (ad.add j) = some u) (hbase : base ≤ w.heap.size)
    (h : ∀ v' w', TOwn w' base v' (l ++ [L]) → w.grownBy w' v.ownBlock → wpList Try.prog ops Q rest (a.put o.dst v') w') : wpList Try.prog ops Q (o :: rest) a w := by
  obtain ⟨i0, hi, hz0, hz1, hz2⟩ := info_partsB infoS
  refine wpList_append_own w hgd s x 41 ho base 9 i0 (.string ByteArray.empty) 1 16 Try.underlying41 hi hz0 hz1 hz2 rfl (by decide) v l.length _ hs hown ad 1 c [sV L] hx (by simp) hy ?_ (by unfold maxLen; omega) (by omega) hbase ?_
  · intro u hu
    obtain rfl : u = sV L := by simpa using hu
    rfl
  · intro v' w' ho' hgr _
    refine h v' w' ?_ hgr
    unfold TOwn
    rw [List.length_append, List.map_append]
    exact ho'
theorem crash_no (S : St) (ps : List Int) (i : Nat) (hi : i < S.keys.length) (h0 : pickR (pickAt ps i) (S.pend S.keys[i]).length = 0) : S.crashTo ps (i + 1) = S.crashTo ps i := by
  have hk : (S.keys[i]?).getD 0 = S.keys[i] := by rw [List.getElem?_eq_getElem hi]; rfl
  have hlt : S.keys[i] < (S.crashTo ps i).length := by rw [St.crashTo_len]; exact mem_keys (List.getElem_mem hi)
  rw [St.crashTo, hk]
  unfold St.keptB
  simp only
  rw [if_pos h0, List.getElem?_eq_getElem hlt]
  exact List.set_getElem_self hlt
theorem crash_yes (S : St) (ps : List Int) (i : Nat) (hi : i < S.keys.length) (r : Nat) (hr : r + 1 = pickR (pickAt ps i) (S.pend S.keys[i]).length) (hl : r < (S.pend S.keys[i]).length) : S.crashTo ps (i + 1) = (S.crashTo ps i).set S.keys[i] (S.pend S.keys[i])[r] := by
  have hk : (S.keys[i]?).getD 0 = S.keys[i] := by rw [List.getElem?_eq_getElem hi]; rfl
  rw [St.crashTo, hk]
  unfold St.keptB
  simp only
  rw [if_neg (by omega), ← hr, Nat.add_sub_cancel, List.getElem?_eq_getElem hl]
  rfl
theorem pickAt_out (ps : List Int) (i L : Nat) (h : ps.length ≤ i) : pickR (pickAt ps i) L = 0 := by
  unfold pickAt
  rw [List.getElem?_eq_none h]
  simp [pickR]
/-- It begins anew. -/
theorem RDAt.anew {w : World} {G : Nat → Prop} {rb : Nat} {S : St} {sg sc : Nat} {pv : Value} {ps : List (Nat × List UInt8)} {fz : Int} (h : RDAt w G rb S sg sc pv ps fz) : RDAt (((w.setCell ⟨rb, 1, none⟩ (.slice none 0 0)).setCell ⟨rb, 3, none⟩ (.bool false)).setCell ⟨rb, 2, none⟩ (.int .i64 (-1))) G rb { safe := S.safe, pend := fun _ => [], fused := false, fuse := 0, down := false, ops := S.ops } sg sc (.slice none 0 0) [] (-1) := by
  have h1 := h.clear
  have h2 := h1.block (w' := ((w.setCell ⟨rb, 1, none⟩ (.slice none 0 0)).setCell ⟨rb, 3, none⟩ (.bool false)).setCell ⟨rb, 2, none⟩ (.int .i64 (-1))) (T := { safe := S.safe, pend := fun _ => [], fused := false, fuse := 0, down := false, ops := S.ops }) (pv' := .slice none 0 0) (fz' := -1)
    (fun q _ hq => by rw [heap_setCell_other _ _ _ _ hq, heap_setCell_other _ _ _ _ hq]) (set2 _ _ _ _ _ _ _ _ _ (set3 _ _ _ _ _ _ _ _ _ h1.blk)) rfl ⟨rfl, rfl⟩ rfl rfl (by omega) (by omega) (Int.le_refl _)
  exact h2
def CrPost (w : World) (G : Nat → Prop) (rb : Nat) (T : St) (sg sc : Nat) (e : Ending) (w' : World) : Prop := e = .returned (.tuple #[]) ∧ RDW w w' G rb T sg sc (.slice none 0 0) []
theorem kept_same {w W W' : World} {G : Nat → Prop} (hk : Kept G w W) (hb : Below W.heap.size W W') : Kept G w W' := hk.trans (Kept.of_below hb)
set_option maxHeartbeats 16000000 in
theorem rCrash_go {w : World} {G : Nat → Prop} {rb : Nat} {S : St} {sg sc : Nat} {pv : Value} {ps : List (Nat × List UInt8)} {fz : Int} (h : RDAt w G rb S sg sc pv ps fz) (hG : ∀ q, G q → q < w.heap.size) (ho : S.ops < 1000000) (pa : Option Addr) (pl pc' : Nat) (pk : List Int) (hP : ∀ W, Kept G w W → Ints W (.slice pa pl pc') pk) :
    Calls Try.prog 12 #[.pointer (some ⟨rb, 0, none⟩), .slice pa pl pc'] w (CrPost w G rb (S.crash pk) sg sc) := by
  have BL := hide (rBlocks_go h ho)
  have HG := hide hG
  have HP := hide hP
  have hpl : (ps.length : Int) ≤ 1000000 := by have := h.pl; omega
  have hn2 : (S.safe.length : Int) ≤ 512 := by have := h.n2; omega
  have HPD := hide h.pend
  obtain ⟨po, pc, hpv, hp1, hp2, hp3⟩ := rowForm h.pendR
  obtain ⟨np, hnp⟩ : ∃ np, np = ps.length := ⟨_, rfl⟩
  rw [← hnp] at hpv hp1 hp3 hpl
  have HNP := hide hnp
  have HP3 := hide hp3
  have HPV := hide hpv
  have HR0 : Hid (RDAt w G rb { S with safe := S.crashTo pk 0 } sg sc pv ps fz) := hide h
  have lr := lt_of_block h.blk
  have hkl : (S.keys.length : Int) ≤ 512 := by have := pk_len S.safe.length S.pend; have : S.keys.length ≤ S.safe.length := this; omega
  have hil : pl = pk.length ∧ (pl : Int) ≤ 9223372036854775807 := by
    obtain ⟨ao, cap, e, hl, _⟩ := hP w (Kept.refl _ _)
    injection e with _ e2
    omega
  have hplI := hil.2
  have HPL := hide hil.1
  have HKR : Hid (∀ x ∈ pk, -9223372036854775808 ≤ x ∧ x < 9223372036854775808) := hide (by obtain ⟨ao, cap, e, hl, hr, _⟩ := hP w (Kept.refl _ _); exact hr)
  clear h hG hP hpv hnp hp3 hil
  go_enter Try.func12, Try.ntmps12
  go_wp2_with fail
  refine (unhide BL).mono ?_
  rintro e w1 ⟨kv, rfl, hko, hb1⟩
  have HK1 := hide hko
  have R1 : Hid (RDAt w1 G rb { S with safe := S.crashTo pk 0 } sg sc pv ps fz) := hide ((unhide HR0).same fun q hq => hb1.block q (unhide HG q hq))
  have K1 : Hid (Kept G w w1) := hide (Kept.of_below hb1)
  obtain ⟨ko, kc, hkv, hk1, hk2, _⟩ := hko.at
  obtain ⟨nk, hnk⟩ : ∃ nk, nk = S.keys.length := ⟨_, rfl⟩
  rw [← hnk] at hkv hk1 hkl
  subst hkv
  have HNK := hide hnk
  clear hko hb1 hnk BL HR0
  go_wp2_with fail
  go_loopw [5] (fun i W => ∃ (j : Nat), i = .int .i64 (j : Int) ∧ j ≤ nk ∧ Hid (RDAt W G rb { S with safe := S.crashTo pk j } sg sc pv ps fz) ∧ Hid (Kept G w W) ∧ Hid (KOwn W w.heap.size (.slice ko nk kc) S.keys)) (fun i _ => nk - (intOf i).toNat)
  case atStart => exact ⟨0, rfl, by omega, R1, K1, HK1⟩
  case round =>
    obtain ⟨j, rfl, hj, RJ, KJ, OJ⟩ := hrel
    clear R1 K1 HK1
    by_cases hlt : j < nk
    · have hltI : (j : Int) < (nk : Int) := by omega
      have hjk : j < S.keys.length := by rw [← unhide HNK]; exact hlt
      obtain ⟨W0, hW0⟩ : ∃ W0, W0 = wr := ⟨_, rfl⟩
      rw [← hW0] at RJ KJ OJ ⊢
      clear hW0
      obtain ⟨ko', kc', hkv, _, _, hkat⟩ := (unhide OJ).at
      obtain ⟨kq, hkq, kqb, kql, kcell, _⟩ := hkat j hjk
      have hko : ko = some ⟨kq, 0, none⟩ := by injection hkv with e1; rw [e1, hkq]
      subst hko
      have HKC : Hid (∀ W, Below W0.heap.size W0 W → W.cell? ⟨kq, j, none⟩ = some (.int .i64 (S.keys[j] : Nat))) := hide (fun W hW => (hW.cell (p := ⟨kq, j, none⟩) kql).trans kcell)
      have HRC : Hid (∀ W, Below W0.heap.size W0 W → RDAt W G rb { S with safe := S.crashTo pk j } sg sc pv ps fz) := hide (fun W hW => (unhide RJ).same fun q hq => hW.block q (by have := unhide HG q hq; have := (unhide KJ).size; omega))
      have hkin := mem_keys (List.getElem_mem hjk)
      obtain ⟨n, hn⟩ : ∃ n, n = S.keys[j] := ⟨_, rfl⟩
      rw [← hn] at HKC hkin
      have HN := hide hn
      clear hkv hkat hkq kcell hn
      go_wp2_with fail
      go_loopw [6, 7] (fun v i W => ∃ (k : Nat), i = .int .i64 (k : Int) ∧ k ≤ np ∧ Hid (TOwn W W0.heap.size v (wOf (ps.take k) n)) ∧ Hid (Below W0.heap.size W0 W)) (fun _ i _ => np - (intOf i).toNat)
      case atStart => exact ⟨0, rfl, by omega, hide (TOwn.nil _ _), hide (Below.refl _ _)⟩
      case round =>
        obtain ⟨k, rfl, hk, TK, BK⟩ := hrel
        have hh := (unhide HRC wr (unhide BK)).head
        have h0 := hh.1
        have h1 := hh.2.1
        have h5 := hh.2.2.2.2.2
        have hsl : ({ S with safe := S.crashTo pk j } : St).safe.length = S.safe.length := St.crashTo_len S pk j
        rw [hsl] at h0
        rw [unhide HPV] at h1
        clear hh
        have ck := unhide HKC wr (unhide BK)
        by_cases hkn : k < np
        · have hknI : (k : Int) < (np : Int) := by omega
          have hkp : k < ps.length := by rw [← unhide HNP]; exact hkn
          obtain ⟨q, hq⟩ := unhide HP3 (by omega)
          subst hq
          have hrow := (unhide HRC wr (unhide BK)).pendR
          rw [unhide HPV] at hrow
          have e := unhide HNP
          rw [← e] at hrow
          have d0 := (rowCell hrow (k * 2) _ (pC_at ps k hkp).1).1
          have d1 := (rowCell hrow (k * 2 + 1) _ (pC_at ps k hkp).2).1
          have HST : Hid (wOf (ps.take (k + 1)) n = if n = ps[k].1 then wOf (ps.take k) n ++ [ps[k].2] else wOf (ps.take k) n) := hide (by rw [List.take_succ_eq_append_getElem hkp, wOf_snoc])
          obtain ⟨a, ha⟩ : ∃ a, a = ps[k].1 := ⟨_, rfl⟩
          obtain ⟨L, hL⟩ : ∃ L, L = ps[k].2 := ⟨_, rfl⟩
          rw [← ha] at d0 HST
          rw [← hL] at d1 HST
          obtain ⟨sn, hsn⟩ : ∃ sn : ByteArray, sn = ⟨L.toArray⟩ := ⟨_, rfl⟩
          have d1' : wr.cell? ⟨q, k * 2 + 1, none⟩ = some (.string sn) := by rw [hsn]; exact d1
          have HSN := hide hsn
          have j0 : (0 : Int) ≤ (j : Int) := Int.natCast_nonneg _
          have k0 : (0 : Int) ≤ (k : Int) := Int.natCast_nonneg _
          clear hrow e ha hL d1 hsn hsl
          by_cases hm : n = a
          · have hmb : ((a : Int) == (n : Int)) = true := by rw [hm]; simp
            have HX : Hid (wOf (ps.take (k + 1)) n = wOf (ps.take k) n ++ [L]) := hide (by rw [unhide HST, if_pos hm])
            have HZ : Hid (∀ m, W0.heap.size ≤ ((wr.drewN m).alloc (.cells #[.string sn] 9)).heap.size) := hide (fun m => by have := (unhide BK).size; show _ ≤ ((wr.drewN m).heap.push _).size; simp [World.drewN]; omega)
            have HO2 : Hid (∀ m, TOwn ((wr.drewN m).alloc (.cells #[.string sn] 9)) W0.heap.size u6 (wOf (ps.take k) n)) := hide (fun m => (unhide TK).keptB fun q _ hl => Below.heap_alloc (wr.drewN m) _ _ hl)
            have HLn : Hid ((wOf (ps.take k) n).length ≤ 1000000) := hide (by
              unfold wOf
              rw [List.length_map]
              have := List.length_filter_le (fun p : Nat × List UInt8 => decide (p.1 = n)) (ps.take k)
              rw [List.length_take] at this
              omega)
            have HFN : Hid (∀ m v' w', TOwn w' W0.heap.size v' (wOf (ps.take k) n ++ [L]) → ((wr.drewN m).alloc (.cells #[.string sn] 9)).grownBy w' u6.ownBlock → TOwn w' W0.heap.size v' (wOf (ps.take (k + 1)) n) ∧ Below W0.heap.size W0 w') := hide (fun m v' w' o' g' => by
              have hbw : Below W0.heap.size W0 ((wr.drewN m).alloc (.cells #[.string sn] 9)) := (below_drewN (unhide BK) m).alloc (unhide BK).size _
              refine ⟨by rw [unhide HX]; exact o', hbw.trans ⟨g'.os, g'.tape, g'.output, by have := g'.size; have := unhide HZ m; omega, fun q hq => g'.block q (by have := unhide HZ m; omega) fun e => ?_⟩⟩
              have := (rowL (unhide TK) e.symm).1
              omega)
            have HY : Hid (sV L = .string sn) := hide (by rw [unhide HSN])
            clear hm HST HX
            go_wp2_with fail
            go_quiet (fail)
            go_wp2_with (first | (refine wpList_append_text rfl (.tmp 39) (.tmp 48) rfl W0.heap.size u6 (wOf (ps.take k) n) L rfl (unhide HO2 _) (unhide HLn) ⟨wr.heap.size, 0, none⟩ 1 rfl (by rw [unhide HY]; exact cell_one_new (wr.drewN _) _ _) (unhide HZ _) ?_; intro v8 w8 o8 g8; have F8 := hide (unhide HFN _ v8 w8 o8 g8); clear o8 g8) | fail)
            go_roundw
            case rel => exact ⟨k + 1, by go_num, by omega, hide (unhide F8).1, hide (unhide F8).2⟩
            case measure => simp [intOf]; omega
          · have hmb : ((a : Int) == (n : Int)) = false := beq_eq_false_iff_ne.2 (by omega)
            have HX : Hid (wOf (ps.take (k + 1)) n = wOf (ps.take k) n) := hide (by rw [unhide HST, if_neg hm])
            clear hm HST
            go_wp2_with fail
            go_quiet (fail)
            go_wp2
            go_roundw
            case rel => exact ⟨k + 1, by go_num, by omega, hide (by rw [unhide HX]; exact (unhide TK).keptB fun q _ _ => rfl), hide (below_drewN (unhide BK) _)⟩
            case measure => simp [intOf]; omega
        · have hknI : ¬ (k : Int) < (np : Int) := by omega
          have TF : Hid (TOwn wr W0.heap.size u6 (S.pend n)) := hide (by
            rw [unhide HPD]
            have := unhide TK
            rw [List.take_of_length_le (by have := unhide HNP; omega)] at this
            exact this)
          have KW : Hid (Kept G w wr) := hide (kept_same (unhide KJ) (unhide BK))
          have OW : Hid (KOwn wr w.heap.size (.slice (some ⟨kq, 0, none⟩) nk kc) S.keys) := hide ((unhide OJ).keptB fun q _ hl => (unhide BK).block q hl)
          have RW := hide (unhide HRC wr (unhide BK))
          obtain ⟨tgo, tc, htv, ht1, ht2, htat⟩ := (unhide TF).at
          obtain ⟨nt, hnt⟩ : ∃ nt, nt = (S.pend n).length := ⟨_, rfl⟩
          rw [← hnt] at htv ht1
          have HNT := hide hnt
          have HTA := hide htat
          have hntI : (nt : Int) ≤ 9223372036854775806 := by
            have e1 : (S.pend n).length ≤ ps.length := by
              rw [unhide HPD]
              unfold wOf
              rw [List.length_map]
              exact List.length_filter_le _ _
            have := unhide HNP
            omega
          obtain ⟨s0, s1⟩ := rowCell (unhide RW).safeR n (sV ((S.crashTo pk j)[n]'(by rw [St.crashTo_len]; exact hkin))) (by rw [List.getElem?_map]; show ((S.crashTo pk j)[n]?).map sV = _; rw [List.getElem?_eq_getElem (by rw [St.crashTo_len]; exact hkin)]; rfl)
          obtain ⟨old, hold⟩ : ∃ o, o = sV ((S.crashTo pk j)[n]'(by rw [St.crashTo_len]; exact hkin)) := ⟨_, rfl⟩
          rw [← hold] at s0
          obtain ⟨Ns, hNs⟩ : ∃ Ns, Ns = S.safe.length := ⟨_, rfl⟩
          rw [← hNs] at h0 hn2
          have hnI : (n : Int) < (Ns : Int) := by omega
          have hn0 : (0 : Int) ≤ (n : Int) := by omega
          have hu6 : u6 = .slice tgo nt tc := htv
          have HU6 := hide hu6
          -- where nothing is kept of what was pending
          have NO : Hid (pickR (pickAt pk j) nt = 0 → RDAt wr G rb { S with safe := S.crashTo pk (j + 1) } sg sc pv ps fz) := hide (fun h => by
            rw [crash_no S pk j hjk (by rw [← unhide HN, ← unhide HNT]; exact h)]
            exact unhide RW)
          have YES : Hid (∀ r, r + 1 = pickR (pickAt pk j) nt → ∀ (hr : r < (S.pend n).length) (W' : World), W'.heap = (wr.setCell ⟨sg, n, none⟩ (sV (S.pend n)[r])).heap → W'.os = wr.os → W'.tape = wr.tape → W'.output = wr.output → RDAt W' G rb { S with safe := S.crashTo pk (j + 1) } sg sc pv ps fz ∧ Kept G w W' ∧ KOwn W' w.heap.size (.slice (some ⟨kq, 0, none⟩) nk kc) S.keys) := hide (fun r h1 h2 W' e1 e2 e3 e4 => by
            have hgs := (unhide RW).gs
            have hgl := unhide HG sg hgs
            refine ⟨?_, (unhide KW).trans ⟨e2, e3, e4, by rw [e1]; simp [World.setCell], fun q hq hg => by rw [e1]; exact heap_setCell_other _ _ _ _ fun (e : q = sg) => hg (e ▸ hgs)⟩, (unhide OW).keptB fun q hq hl => by rw [e1]; exact heap_setCell_other _ _ _ _ fun (e : q = sg) => by have := (rowL (unhide OW) hq).1; omega⟩
            have hn := unhide HN
            subst hn
            rw [crash_yes S pk j hjk r (by rw [← unhide HNT]; exact h1) h2]
            have := (unhide RW).setSafe S.keys[j] (S.pend S.keys[j])[r] W' e1
            simp only at this
            exact this)
          by_cases hin : j < pl
          · have hinI : (j : Int) < (pl : Int) := by omega
            have hjp : j < pk.length := by rw [← unhide HPL]; exact hin
            obtain ⟨ao, cap, e, _, _, hpi⟩ := unhide HP wr (unhide KW)
            injection e with e1 e2 e3
            obtain ⟨pb, poff, hpa, _, hpc⟩ := hpi (fun e => by rw [e] at hjp; simp at hjp)
            have hpa' : pa = some ⟨pb, poff, none⟩ := by rw [e1, hpa]
            have cp := hpc j hjp
            have hpr := unhide HKR _ (List.getElem_mem hjp)
            have HPA : Hid (pickAt pk j = pk[j]) := hide (by unfold pickAt; rw [List.getElem?_eq_getElem hjp]; rfl)
            obtain ⟨x, hx⟩ : ∃ x, x = pk[j] := ⟨_, rfl⟩
            rw [← hx] at cp hpr HPA
            rw [unhide HPA] at NO YES
            have hpk := pickR_lt x nt
            have PK := hide (Pick_eq x nt wr hpr.1 hpr.2 (by omega))
            subst hpa'
            clear e1 e2 e3 hpi hpc hpa hx
            rw [hu6]
            clear hu6 htv htat hnt hNs hold TK TF
            go_wp2_with fail
            refine (unhide PK).mono ?_
            rintro e w7 ⟨rfl, rfl⟩
            obtain ⟨r, hr⟩ : ∃ r, r = pickR x nt := ⟨_, rfl⟩
            rw [← hr] at NO YES hpk ⊢
            clear hr PK
            by_cases hr0 : r = 0
            · subst hr0
              have N2 := hide (unhide NO rfl)
              clear NO YES
              go_wp2
              go_roundw
              case rel => exact ⟨j + 1, by go_num, by omega, N2, KW, OW⟩
              case measure => simp [intOf]; omega
            · obtain ⟨r', hr'⟩ : ∃ r', r = r' + 1 := ⟨r - 1, by omega⟩
              subst hr'
              have hrl : r' < (S.pend n).length := by have := unhide HNT; omega
              obtain ⟨tq, htq, tqb, tql, tcell⟩ := unhide HTA r' hrl
              subst htq
              obtain ⟨L, hL⟩ : ∃ L, L = (S.pend n)[r'] := ⟨_, rfl⟩
              have Y2 := hide (unhide YES r' rfl hrl)
              rw [← hL] at tcell Y2
              obtain ⟨sn, hsn⟩ : ∃ sn : ByteArray, sn = ⟨L.toArray⟩ := ⟨_, rfl⟩
              have tcell' : wr.cell? ⟨tq, r', none⟩ = some (.string sn) := by rw [hsn]; exact tcell
              rw [show sV L = .string sn by rw [hsn]] at Y2
              have hrI : ((r' + 1 : Nat) : Int) = (r' : Int) + 1 := by omega
              have hr1 : (0 : Int) < (r' : Int) + 1 := by omega
              have hrw : IntKind.i64.wrap ((r' : Int) + 1 - 1) = (r' : Int) := by rw [IntKind.wrap_i64]; omega
              have hrn : (r' : Int) < (nt : Int) := by have := unhide HNT; omega
              have hr0' : (0 : Int) ≤ (r' : Int) := by omega
              rw [hrI]
              clear hrI hsn hL tcell NO YES hr0 hpk hrl tqb tql
              go_wp2_with fail
              go_region
              all_goals
                have F2 := hide (unhide Y2 (wr.setCell ⟨sg, n, none⟩ (.string sn)).drew rfl rfl rfl rfl)
                clear Y2
                go_wp2
                go_roundw
                case rel => exact ⟨j + 1, by go_num, by omega, hide (unhide F2).1, hide (unhide F2).2.1, hide (unhide F2).2.2⟩
                case measure => simp [intOf]; omega
          · have hinI : ¬ (j : Int) < (pl : Int) := by omega
            have N2 := hide (unhide NO (pickAt_out pk j nt (by have := unhide HPL; omega)))
            clear NO YES TK TF
            go_wp2
            go_roundw
            case rel => exact ⟨j + 1, by go_num, by omega, N2, KW, OW⟩
            case measure => simp [intOf]; omega
    · have hltI : ¬ (j : Int) < (nk : Int) := by omega
      have FN : Hid (RDW w (((wr.setCell ⟨rb, 1, none⟩ (.slice none 0 0)).setCell ⟨rb, 3, none⟩ (.bool false)).setCell ⟨rb, 2, none⟩ (.int .i64 (-1))) G rb (S.crash pk) sg sc (.slice none 0 0) []) := hide (by
        have hje : j = S.keys.length := by have := unhide HNK; omega
        have := (unhide RJ).anew
        refine ⟨⟨-1, ?_⟩, (unhide KJ).trans ⟨rfl, rfl, rfl, by simp [World.setCell], fun q _ hq => ?_⟩⟩
        · rw [hje] at this
          exact this
        · have hne : q ≠ rb := fun (e : q = rb) => hq (e ▸ (unhide RJ).gr)
          rw [heap_setCell_other _ _ _ _ hne, heap_setCell_other _ _ _ _ hne, heap_setCell_other _ _ _ _ hne])
      have hh := (unhide RJ).head
      have h1 := hh.2.1
      have h2 := hh.2.2.1
      have h3 := hh.2.2.2.1
      have h5 := hh.2.2.2.2.2
      have lr2 := lt_of_block (unhide RJ).blk
      clear hh RJ KJ OJ
      go_wp2
      refine bodyPost_ret (results_none rfl _ _ _) rfl ?_
      exact ⟨rfl, unhide FN⟩
end Go.Proofs.Ytfoanlmmjbclgaa

/-
  DERIVED. The document's device: a block is written; numbers held against numbers.
-/
namespace Go.Proofs.Ytfoanlmmjbclgaa
open Go.RowKit
set_option linter.unusedVariables false
set_option maxRecDepth 20000

/-- One write more is pending. -/
theorem RDAt.put {w w1 : World} {G : Nat → Prop} {rb : Nat} {S : St} {sg sc : Nat} {pv : Value} {ps : List (Nat × List UInt8)} {fz : Int} (h : RDAt w G rb S sg sc pv ps fz) (k : Nat) (hk : k < S.safe.length) (L : List UInt8) (v : Value) (hg : w.grownBy w1 pv.ownBlock) (hv : w1.ownsRow 0 68 2 v (ps.length + 1) (pC (ps ++ [(k, L)]))) (hat : ∀ q, v.ownBlock = some q → pv.ownBlock = some q ∨ w.heap.size ≤ q) (hpl : (ps.length : Int) < S.ops) :
    RDAt (w1.setCell ⟨rb, 1, none⟩ v) (fun q => G q ∨ v.ownBlock = some q) rb (S.wrote k L) sg sc v (ps ++ [(k, L)]) fz := by
  obtain ⟨k1, k2⟩ := h.kinds
  have lr := lt_of_block h.blk
  have ls := (rowL h.safeR (q := sg) rfl).2.1
  have hrb : w1.heap[rb]? = _ := (hg.block rb lr fun e => (k2 rb e.symm).1 rfl).trans h.blk
  have hvr : ∀ q, v.ownBlock = some q → q ≠ rb := fun q hq e => by
    subst e
    rcases hat q hq with h1 | h1
    · exact (k2 q h1).1 rfl
    · omega
  exact
    { blk := set1 _ _ _ _ _ _ _ _ _ hrb
      safeR := rowF h.safeR fun q hq _ => by
        cases hq
        rw [heap_setCell_other _ _ _ _ k1]
        exact hg.block sg ls fun e => (k2 sg e.symm).2 rfl
      pendR := by
        rw [List.length_append]
        exact rowF hv fun q hq _ => heap_setCell_other _ _ _ _ (hvr q hq)
      pend := fun n => by
        rw [wOf_snoc]
        show putP S.pend k L n = _
        unfold putP
        by_cases e : n = k
        · rw [if_pos e, if_pos e, e, h.pend]
        · rw [if_neg e, if_neg e, h.pend]
      inb := fun p hp => by
        rcases List.mem_append.1 hp with hp | hp
        · exact h.inb p hp
        · obtain rfl : p = (k, L) := by simpa using hp
          exact hk
      f1 := h.f1, f2 := h.f2, f3 := h.f3, f4 := h.f4
      gr := .inl h.gr, gs := .inl h.gs, gp := fun q hq => .inr hq
      pl := by rw [List.length_append]; show ((ps.length + 1 : Nat) : Int) ≤ S.ops; omega
      n1 := h.n1, n2 := h.n2, o1 := h.o1 }
/-- The document's device behind a write; its blocks are G or new. -/
def RDG (w w' : World) (G : Nat → Prop) (rb : Nat) (T : St) : Prop := ∃ H sg sc pv ps fz, RDAt w' H rb T sg sc pv ps fz ∧ Kept G w w' ∧ ∀ q, H q → G q ∨ (w.heap.size ≤ q ∧ q < w'.heap.size)
theorem RDW.toG {w w' : World} {G : Nat → Prop} {rb : Nat} {T : St} {sg sc : Nat} {pv : Value} {ps : List (Nat × List UInt8)} (h : RDW w w' G rb T sg sc pv ps) : RDG w w' G rb T := by
  obtain ⟨⟨fz, h1⟩, h2⟩ := h
  exact ⟨G, sg, sc, pv, ps, fz, h1, h2, fun q hq => .inl hq⟩
def PtPost (w : World) (G : Nat → Prop) (rb : Nat) (S : St) (k : Nat) (L : List UInt8) (e : Ending) (w' : World) : Prop :=
  (burnE S.fused S.fuse = 0 ∧ e = .returned (.int .i64 0) ∧ RDG w w' G rb (S.burn.wrote k L)) ∨ (burnE S.fused S.fuse ≠ 0 ∧ e = .returned (.int .i64 2) ∧ RDG w w' G rb S.burn)
theorem burn_ops {S : St} (h : burnE S.fused S.fuse = 0) : S.burn.ops = S.ops + 1 := by
  unfold St.burn burnO
  unfold burnE at h
  simp only
  split at h
  · cases h
  · rename_i hn; rw [if_neg hn]
set_option maxHeartbeats 8000000 in
theorem rPut_go {w : World} {G : Nat → Prop} {rb : Nat} {S : St} {sg sc : Nat} {pv : Value} {ps : List (Nat × List UInt8)} {fz : Int} (h : RDAt w G rb S sg sc pv ps fz) (ho : S.ops < 1000000) (hd : S.down = false) (k : Nat) (hk : k < S.safe.length) (a : Option Addr) (c : Nat) (L : List UInt8) (hV : ∀ W, Kept G w W → Sl W (.slice a 512 c) L) :
    Calls Try.prog 21 #[.pointer (some ⟨rb, 0, none⟩), .int .i64 (k : Int), .slice a 512 c] w (PtPost w G rb S k L) := by
  have BG := hide (begin_ok h ho (k : Int) (by unfold begE; rw [if_neg (by rw [hd]; decide), if_neg (by omega), if_neg (by decide)]))
  by_cases hb : burnE S.fused S.fuse = 0
  · rw [hb] at BG
    have HB := hide hb
    have HPL := hide h.pl
    clear h
    go_enter Try.func21, Try.ntmps21
    go_wp2_with fail
    refine (unhide BG).mono ?_
    rintro e w1 ⟨rfl, hrd⟩
    obtain ⟨⟨fz', r1⟩, k1⟩ := hrd
    obtain ⟨h0, cr, h2, h3, h4, h5⟩ := r1.head
    obtain ⟨kk1, kk2⟩ := r1.kinds
    have lr := lt_of_block r1.blk
    have hcv := (hV w1 k1).drew.str
    obtain ⟨s, hs⟩ : ∃ s, s = (⟨L.toArray⟩ : ByteArray) := ⟨_, rfl⟩
    rw [← hs] at hcv
    have hkr : pv.ownBlock ≠ some rb := fun e => (kk2 rb e).1 rfl
    have hml : ps.length ≤ 1000000 := by have := unhide HPL; omega
    have HRW : Hid ((w1.alloc (.cells #[.int .i64 (k : Int), .string s] 68)).drew.ownsRow 0 68 2 pv ps.length (pC ps)) := hide (World.ownsRow.alloc r1.pendR _)
    have HFIN : Hid (∀ (W3 : World) (v : Value), (w1.alloc (.cells #[.int .i64 (k : Int), .string s] 68)).drew.grownBy W3 pv.ownBlock → W3.ownsRow 0 68 2 v (ps.length + 1) (pC ps ++ [.int .i64 (k : Int), .string s]) → (∀ q, v.ownBlock = some q → pv.ownBlock = some q ∨ w1.heap.size ≤ q) → RDG w (W3.setCell ⟨rb, 1, none⟩ v) G rb (S.burn.wrote k L)) := hide fun W3 v hg hv2 hat => by
      have hga : w1.grownBy W3 pv.ownBlock := by
        have ha := World.grownBy_alloc w1 (.cells #[.int .i64 (k : Int), .string s] 68) pv.ownBlock
        exact ha.trans ⟨hg.os, hg.tape, hg.output, hg.size, hg.block⟩
      have hv3 : W3.ownsRow 0 68 2 v (ps.length + 1) (pC (ps ++ [(k, L)])) := by rw [pC_snoc]; rw [hs] at hv2; exact hv2
      have hz1 := k1.size
      have hz3 := hga.size
      refine ⟨fun q => G q ∨ v.ownBlock = some q, sg, sc, v, _, fz', r1.put k hk L v hga hv3 hat ?_, ?_, fun q hq => ?_⟩
      · rw [burn_ops hb]; have := unhide HPL; omega
      · exact (k1.trans (Kept.of_grown hga fun q hq => r1.gp q hq)).trans (Kept.of_only ((Only.refl rb W3).set _ _) r1.gr)
      · rcases hq with hq | hq
        · exact .inl hq
        · have := (rowL hv3 hq).2.1
          rcases hat q hq with h1 | h1
          · exact .inl (r1.gp q h1)
          · exact .inr ⟨by omega, by simp [World.setCell]; exact this⟩
    have hk0 : (0 : Int) ≤ (k : Int) := Int.natCast_nonneg _
    clear r1 k1 h0 h2 h3 h4 kk1 kk2 hV hs hb BG
    obtain ⟨i0, hi0, hz0, hz1, hz2⟩ := info_partsB infoW
    go_wp2_with fail
    go_region_law (first | (refine step_append_lies _ (by rfl) _ _ _ (by rfl) 0 68 i0 _ 2 24 Try.underlying42 hi0 hz0 hz1 hz2 (by rfl) (by omega) pv ps.length (pC ps) (by rfl) (unhide HRW) ⟨w1.heap.size, 0, none⟩ 1 1 [.int .i64 (k : Int), .string s] (by rfl) (by rfl) (World.news_of_block (cs := #[.int .i64 (k : Int), .string s]) (t := 68) (fr := (0, 0)) (heap_alloc_new w1 _)) (by simp [Value.oneCell']) (by omega) (by unfold maxLen; omega) (by omega) (Nat.zero_le _) (w1.heap.size + 1) (by simp) ?_; intro gg cap2 W3 hown3 hgrow hat hlt3; have crW : W3.cell? ⟨rb, 1, none⟩ = some pv := (hgrow.cell_far ⟨rb, 1, none⟩ (by show rb < (w1.alloc _).heap.size; simp; omega) (fun e => hkr e.symm)).trans ((World.cell?_alloc_lt _ _ _ lr).trans cr); have fzW : W3.frozen? ⟨rb, 1, none⟩ = false := (hgrow.frozen_far ⟨rb, 1, none⟩ (by show rb < (w1.alloc _).heap.size; simp; omega) (fun e => hkr e.symm)).trans ((World.frozen?_alloc_past _ _ _ lr).trans (h5 1))))
    all_goals
      have HX := hide (unhide HFIN W3 _ hgrow hown3 (fun q hq => by cases hq; exact hat.imp id (fun h => by show w1.heap.size ≤ gg; omega)))
      clear HFIN hgrow hown3 hat
      go_wp2
      go_ret
      exact .inl ⟨unhide HB, rfl, unhide HX⟩
  · rw [burn2 hb] at BG
    have HB := hide hb
    clear h hb hV
    go_enter Try.func21, Try.ntmps21
    go_wp2_with fail
    refine (unhide BG).mono ?_
    rintro e w1 ⟨rfl, hrd⟩
    have HRD := hide hrd.toG
    clear hrd BG
    go_wp2
    go_ret
    exact .inr ⟨unhide HB, rfl, unhide HRD⟩
set_option maxHeartbeats 4000000 in
theorem rPut_no {w : World} {G : Nat → Prop} {rb : Nat} {S : St} {sg sc : Nat} {pv : Value} {ps : List (Nat × List UInt8)} {fz : Int} (h : RDAt w G rb S sg sc pv ps fz) (n : Int) (a : Option Addr) (q c : Nat) (hq : (q : Int) ≤ 9223372036854775807) (hb : begE S n (decide (q ≠ 512)) ≠ 0) :
    Calls Try.prog 21 #[.pointer (some ⟨rb, 0, none⟩), .int .i64 n, .slice a q c] w fun e w' => e = .returned (.int .i64 (begE S n (decide (q ≠ 512)))) ∧ w' = w := by
  have BG := hide (begin_no h n _ hb)
  obtain ⟨x, hx⟩ : ∃ x, x = begE S n (decide (q ≠ 512)) := ⟨_, rfl⟩
  rw [← hx] at BG hb ⊢
  have hxb : (x == 0) = false := beq_eq_false_iff_ne.2 hb
  clear h hb hx
  by_cases hq5 : q = 512
  · subst hq5
    have e : decide ((512 : Nat) ≠ 512) = false := by decide
    rw [e] at BG
    clear e
    go_enter Try.func21, Try.ntmps21
    go_wp2_with fail
    refine (unhide BG).mono ?_
    rintro e w1 ⟨rfl, rfl⟩
    go_wp2
    go_ret
    exact ⟨rfl, rfl⟩
  · have e : decide (q ≠ 512) = true := decide_eq_true hq5
    rw [e] at BG
    clear e
    have hqn : ((q : Int) != 512) = true := by simp; omega
    have HQN := hide hqn
    clear hqn
    go_enter Try.func21, Try.ntmps21
    go_wp2_with fail
    rw [unhide HQN]
    refine (unhide BG).mono ?_
    rintro e w1 ⟨rfl, rfl⟩
    go_wp2
    go_ret
    exact ⟨rfl, rfl⟩
end Go.Proofs.Ytfoanlmmjbclgaa

/-
  DERIVED. The document's device is made, and copied; numbers are held against numbers.
-/
namespace Go.Proofs.Ytfoanlmmjbclgaa
open Go.RowKit
set_option linter.unusedVariables false
set_option maxRecDepth 20000

def zL : List UInt8 := List.replicate 512 0
def zS : ByteArray := ⟨zL.toArray⟩
set_option maxHeartbeats 2000000 in
theorem Noughts_z (w : World) : Calls Try.prog 18 #[] w fun e w' => e = .returned (.string zS) ∧ Below w.heap.size w w' := by
  have mk := run_make_512 w
  have hs := (Row.sl (w := w.alloc (.cells ((List.replicate 512 (0 : UInt8)).map bv).toArray 5)) (g := w.heap.size) (L := List.replicate 512 0) (heap_alloc_self _ _) List.length_replicate).str
  have hb : Below w.heap.size w (w.alloc (.cells ((List.replicate 512 (0 : UInt8)).map bv).toArray 5)) := (Below.refl _ _).alloc (Nat.le_refl _) _
  obtain ⟨s, hse⟩ : ∃ s, s = (⟨(List.replicate 512 (0 : UInt8)).toArray⟩ : ByteArray) := ⟨_, rfl⟩
  obtain ⟨w0, hw0⟩ : ∃ w0, w0 = w.alloc (.cells ((List.replicate 512 (0 : UInt8)).map bv).toArray 5) := ⟨_, rfl⟩
  rw [← hw0] at mk hs hb
  rw [← hse] at hs
  have e : zS = s := hse.symm
  rw [e]
  have HB := hide hb
  clear hw0 hse hb e
  go_enter Try.func18, Try.ntmps18
  go_wp2
  go_ret
  exact ⟨rfl, unhide HB⟩
/-- It, so many blocks of it made. -/
structure RNw (W : World) (B rb j : Nat) (nv : Value) : Prop where
  blk : W.heap[rb]? = some (.cells #[nv, .slice none 0 0, .int .i64 (-1), .bool false, .int .i64 0] 44 (0, 0))
  row : W.ownsRow 0 9 1 nv j (List.replicate j (.string zS))
  lr : B ≤ rb
  ln : ∀ q, nv.ownBlock = some q → B ≤ q
theorem RNw.ne {W : World} {B rb j : Nat} {nv : Value} (h : RNw W B rb j nv) : nv.ownBlock ≠ some rb := fun e => by
  obtain ⟨_, _, c, g⟩ := rowL h.row e
  have hr := h.blk
  rw [g] at hr
  simp only [Option.some.injEq, Obj.cells.injEq] at hr
  exact absurd hr.2.1 (by decide)
theorem RNw.grown {W W' : World} {B rb j : Nat} {nv : Value} (h : RNw W B rb j nv) (hb : ∀ q, q < W.heap.size → W'.heap[q]? = W.heap[q]?) : RNw W' B rb j nv :=
  { h with blk := (hb rb (lt_of_block h.blk)).trans h.blk, row := rowF h.row fun q _ hl => hb q hl }
theorem new_step {w wr w3 W : World} {rb j : Nat} {nv : Value} (h : RNw wr w.heap.size rb j nv) (hb : Below w.heap.size w wr) (b3 : Below wr.heap.size wr w3) (gg cap2 : Nat) (hown : W.ownsRow 0 9 1 (.slice (some ⟨gg, 0, none⟩) (j + 1) cap2) (j + 1) (List.replicate j (.string zS) ++ [.string zS])) (hgrow : (w3.alloc (.cells #[.string zS] 9)).grownBy W nv.ownBlock) (hat : nv.ownBlock = some gg ∨ gg = w3.heap.size + 1) :
    RNw (W.setCell ⟨rb, 0, none⟩ (.slice (some ⟨gg, 0, none⟩) (j + 1) cap2)) w.heap.size rb (j + 1) (.slice (some ⟨gg, 0, none⟩) (j + 1) cap2) ∧ Below w.heap.size w (W.setCell ⟨rb, 0, none⟩ (.slice (some ⟨gg, 0, none⟩) (j + 1) cap2)) := by
  have s1 := hb.size
  have s2 := b3.size
  have hB : Below w.heap.size w (w3.alloc (.cells #[.string zS] 9)) := (hb.trans (b3.mono s1)).alloc (by omega) _
  have hA : (w3.alloc (.cells #[.string zS] 9)).heap.size = w3.heap.size + 1 := by simp
  have h2 := h.grown (W' := w3.alloc (.cells #[.string zS] 9)) fun q hq => (Below.heap_alloc _ _ _ (by omega)).trans (b3.block q hq)
  have hrb : W.heap[rb]? = _ := (hgrow.block rb (lt_of_block h2.blk) fun e => h.ne e.symm).trans h2.blk
  have hgr : gg ≠ rb := fun e => by
    have := lt_of_block h2.blk
    rcases hat with h1 | h1
    · exact h.ne (e ▸ h1)
    · have := lt_of_block h.blk; omega
  refine ⟨⟨?_, ?_, h.lr, fun q hq => ?_⟩, (hB.grown hgrow (by omega) fun k hk => h.ln k hk).setCell h.lr _⟩
  · rw [heap_setCell_same W rb 0 _ _ _ hrb]; rfl
  · rw [List.replicate_succ']
    exact rowF hown fun q hq _ => heap_setCell_other _ _ _ _ (by cases hq; exact hgr)
  · cases hq
    rcases hat with h1 | h1
    · exact h.ln _ h1
    · show _ ≤ gg; omega
def NwPost (w : World) (n : Nat) (e : Ending) (w' : World) : Prop := ∃ rb sg sc, e = .returned (.tuple #[.pointer (some ⟨rb, 0, none⟩), .int .i64 0]) ∧ RDAt w' (fun q => w.heap.size ≤ q ∧ q < w'.heap.size) rb (St.new n) sg sc (.slice none 0 0) [] (-1) ∧ Below w.heap.size w w'
set_option maxHeartbeats 8000000 in
theorem rNew_go (w : World) (n : Nat) (n1 : 64 ≤ n) (n2 : n ≤ 512) : Calls Try.prog 6 #[.int .i64 (n : Int)] w (NwPost w n) := by
  obtain ⟨i0, hi0, hz0, hz1, hz2⟩ := info_partsB infoS
  have H0 := hide (⟨hi0, hz0, hz1, hz2⟩ : _ ∧ _ ∧ _ ∧ _)
  clear hi0 hz0 hz1 hz2
  have n1I : ¬ (n : Int) < 64 := by omega
  have n2I : ¬ (512 : Int) < (n : Int) := by omega
  have HR0 : Hid (RNw (w.alloc (.cells #[.slice none 0 0, .slice none 0 0, .int .i64 (-1), .bool false, .int .i64 0] 44)) w.heap.size w.heap.size 0 (.slice none 0 0)) := hide
    { blk := heap_alloc_self _ _, row := World.ownsRow_nil _ _ _ _, lr := Nat.le_refl _, ln := fun q hq => (by cases hq) }
  have HB0 : Hid (Below w.heap.size w (w.alloc (.cells #[.slice none 0 0, .slice none 0 0, .int .i64 (-1), .bool false, .int .i64 0] 44))) := hide ((Below.refl _ _).alloc (Nat.le_refl _) _)
  go_enter Try.func6, Try.ntmps6
  go_wp2_with fail
  go_loopw [5] (fun i wr => ∃ (j : Nat) (nv : Value), i = .int .i64 (j : Int) ∧ j ≤ n ∧ Hid (RNw wr w.heap.size w.heap.size j nv) ∧ Hid (Below w.heap.size w wr)) (fun i _ => n - (intOf i).toNat)
  case atStart => exact ⟨0, _, rfl, by omega, HR0, HB0⟩
  case round =>
    obtain ⟨j, nv, rfl, hj, HR, HB⟩ := hrel
    clear HR0 HB0
    by_cases hlt : j < n
    · have hlt' : (j : Int) < (n : Int) := by omega
      have c0 : wr.cell? ⟨w.heap.size, 0, none⟩ = some nv := (cell_of_row _ _ _ _ _ _ (unhide HR).blk).trans rfl
      have f0 := frozen_of_row wr w.heap.size 0 _ _ (unhide HR).blk
      have hk0 := (unhide HR).ne
      have lr := lt_of_block (unhide HR).blk
      have HC3 : Hid (∀ w3, Below wr.heap.size wr w3 → w3.cell? ⟨w.heap.size, 0, none⟩ = some nv ∧ w3.frozen? ⟨w.heap.size, 0, none⟩ = false) := hide fun w3 b3 => ⟨(cell_of_row _ _ _ _ _ _ ((unhide HR).grown b3.block).blk).trans rfl, frozen_of_row w3 w.heap.size 0 _ _ ((unhide HR).grown b3.block).blk⟩
      have HRW : Hid (∀ w3, Below wr.heap.size wr w3 → (w3.alloc (.cells #[.string zS] 9)).ownsRow 0 9 1 nv j (List.replicate j (.string zS))) := hide fun w3 b3 => World.ownsRow.alloc ((unhide HR).grown b3.block).row _
      have NG := hide (fun W => Noughts_z W)
      go_wp2_with fail
      go_region_law (first | (refine step_append_lies _ (by rfl) _ _ _ (by rfl) 0 9 i0 _ 1 16 Try.underlying41 (unhide H0).1 (unhide H0).2.1 (unhide H0).2.2.1 (unhide H0).2.2.2 (by rfl) (by omega) nv j (List.replicate j (.string zS)) (by rfl) (unhide HRW w3 b3) ⟨w3.heap.size, 0, none⟩ 1 1 [.string zS] (by rfl) (by rfl) (World.news_of_block (cs := #[.string zS]) (t := 9) (fr := (0, 0)) (heap_alloc_new w3 _)) (by simp [Value.oneCell']) (by omega) (by unfold maxLen; omega) (by omega) (Nat.zero_le _) (w3.heap.size + 1) (by simp) ?_; intro gg cap2 W3 hown3 hgrow hat hlt3; have cW : W3.cell? ⟨w.heap.size, 0, none⟩ = some nv := (hgrow.cell_far ⟨w.heap.size, 0, none⟩ (by show w.heap.size < (w3.alloc _).heap.size; have := b3.size; simp; omega) (fun e => hk0 e.symm)).trans ((World.cell?_alloc_lt _ _ _ (by show w.heap.size < w3.heap.size; have := b3.size; omega)).trans c3); have nW : W3.frozen? ⟨w.heap.size, 0, none⟩ = false := (hgrow.frozen_far ⟨w.heap.size, 0, none⟩ (by show w.heap.size < (w3.alloc _).heap.size; have := b3.size; simp; omega) (fun e => hk0 e.symm)).trans ((World.frozen?_alloc_past _ _ _ (by show w.heap.size < w3.heap.size; have := b3.size; omega)).trans n3)) | (go_simp; go_wp2_with (first | (go_at_call 18; refine (unhide NG _).mono ?_; rintro e w3 ⟨rfl, b0⟩; have b3 : Below wr.heap.size wr w3 := after_drew b0; obtain ⟨c3, n3⟩ := unhide HC3 w3 b3; have c3a := (unhide HC3 (w3.alloc (.cells #[.string zS] 9)) (b3.alloc b3.size _)).1; clear b0) | fail)))
      all_goals
        have NA := hide (new_step (unhide HR) (unhide HB) b3 gg cap2 hown3 hgrow hat)
        clear cW nW hgrow hown3 hat hlt3 c3 n3 c3a b3 c0 f0 hk0 lr HC3 HRW
        go_wp2
        go_roundw
        case rel => exact ⟨j + 1, _, by go_num, by omega, hide (unhide NA).1, hide (unhide NA).2⟩
        case measure => simp [intOf]; omega
    · have hlt' : ¬ (j : Int) < (n : Int) := by omega
      obtain rfl : j = n := by omega
      have FN : Hid (∃ sg sc, RDAt wr (fun q => w.heap.size ≤ q ∧ q < wr.heap.size) w.heap.size (St.new j) sg sc (.slice none 0 0) [] (-1)) := hide (by
        have hr := (unhide HR).row
        obtain ⟨ao, cap, e, _, _, h3⟩ := rowForm hr
        obtain ⟨q, hq⟩ := h3 (by omega)
        subst hq
        subst e
        have hl : (St.new j).safe.length = j := List.length_replicate
        refine ⟨q, cap, { blk := (by rw [hl]; exact (unhide HR).blk), safeR := ?_, pendR := World.ownsRow_nil _ _ _ _, pend := fun n => rfl, inb := (fun p hp => by cases hp), f1 := rfl, f2 := rfl, f3 := (by omega), f4 := (by omega), gr := ⟨(unhide HR).lr, lt_of_block (unhide HR).blk⟩, gs := ⟨(unhide HR).ln q rfl, (rowL hr (q := q) rfl).2.1⟩, gp := (fun q hq => by cases hq), pl := (by show ((0 : Nat) : Int) ≤ 0; omega), n1 := (by rw [hl]; exact n1), n2 := (by rw [hl]; exact n2), o1 := Int.le_refl _ }⟩
        rw [hl]
        have e : (St.new j).safe.map sV = List.replicate j (.string zS) := by show (List.replicate j (List.replicate 512 0)).map sV = _; rw [List.map_replicate]; rfl
        rw [e]
        exact hr)
      go_wp2
      go_ret2
      obtain ⟨sg, sc, h⟩ := unhide FN
      exact ⟨_, sg, sc, rfl, h, unhide HB⟩
theorem rNew_no (w : World) (n : Int) (hn : ¬ (64 ≤ n ∧ n ≤ 512)) : Calls Try.prog 6 #[.int .i64 n] w fun e w' => e = .returned (.tuple #[.pointer none, .int .i64 21]) ∧ w' = w := by
  by_cases h : n < 64
  · clear hn
    go_enter Try.func6, Try.ntmps6
    go_wp2
    go_ret2
    exact ⟨rfl, rfl⟩
  · have h2 : (512 : Int) < n := by omega
    clear hn
    go_enter Try.func6, Try.ntmps6
    go_wp2
    go_ret2
    exact ⟨rfl, rfl⟩
set_option maxHeartbeats 4000000 in
theorem SameInts_go (w : World) (a1 a2 : Option Addr) (m1 m2 c1 c2 : Nat) (l : List Int) (h1 : Ints w (.slice a1 m1 c1) l) (h2 : Ints w (.slice a2 m2 c2) l) :
    Calls Try.prog 26 #[.slice a1 m1 c1, .slice a2 m2 c2] w fun e w' => e = .returned (.bool true) ∧ ∃ k, w' = w.drewN k := by
  obtain ⟨ao1, cp1, e1, b1, _, f1⟩ := h1
  obtain ⟨ao2, cp2, e2, b2, _, f2⟩ := h2
  injection e1 with x1 x2 x3
  injection e2 with y1 y2 y3
  obtain ⟨n, hn⟩ : ∃ n, n = l.length := ⟨_, rfl⟩
  rw [← hn] at x2 y2 b1
  subst x1 x2 x3 y1 y2 y3
  have hnI : (m2 : Int) ≤ 9223372036854775807 := by omega
  have HN := hide hn
  have F1 := hide f1
  have F2 := hide f2
  clear f1 f2 hn b2
  go_enter Try.func26, Try.ntmps26
  go_wp2_with fail
  go_loopw [5] (fun i W => ∃ (j : Nat), i = .int .i64 (j : Int) ∧ j ≤ m2 ∧ Hid (∃ k, W = w.drewN k)) (fun i _ => m2 - (intOf i).toNat)
  case atStart => exact ⟨0, rfl, by omega, hide ⟨0, rfl⟩⟩
  case round =>
    obtain ⟨j, rfl, hj, HW⟩ := hrel
    by_cases hlt : j < m2
    · have hltI : (j : Int) < (m2 : Int) := by omega
      have hjl : j < l.length := by rw [← unhide HN]; exact hlt
      have hne : l ≠ [] := fun e => by rw [e] at hjl; simp at hjl
      obtain ⟨p1, o1, q1, _, c1⟩ := unhide F1 hne
      obtain ⟨p2, o2, q2, _, c2⟩ := unhide F2 hne
      subst q1 q2
      have d1 : wr.cell? ⟨p1, o1 + j, none⟩ = some (.int .i64 l[j]) := by obtain ⟨k, e⟩ := unhide HW; rw [e]; exact c1 j hjl
      have d2 : wr.cell? ⟨p2, o2 + j, none⟩ = some (.int .i64 l[j]) := by obtain ⟨k, e⟩ := unhide HW; rw [e]; exact c2 j hjl
      obtain ⟨x, hx⟩ : ∃ x, x = l[j] := ⟨_, rfl⟩
      rw [← hx] at d1 d2
      have hxx : (x != x) = false := by simp
      have j0 : (0 : Int) ≤ (j : Int) := Int.natCast_nonneg _
      clear c1 c2 hx
      go_wp2_with fail
      go_quiet (fail)
      go_wp2
      go_roundw
      case rel => exact ⟨j + 1, by go_num, by omega, hide (by obtain ⟨k, e⟩ := unhide HW; exact ⟨k + _, by rw [e]; simp [World.drewN, Nat.add_assoc]; rfl⟩)⟩
      case measure => simp [intOf]; omega
    · have hltI : ¬ (j : Int) < (m2 : Int) := by omega
      go_wp2
      go_ret
      exact ⟨rfl, unhide HW⟩
end Go.Proofs.Ytfoanlmmjbclgaa

/-
  DERIVED. The document's device is copied; a device's bound is that of what it has.
-/
namespace Go.Proofs.Ytfoanlmmjbclgaa
open Go.RowKit
set_option linter.unusedVariables false
set_option maxRecDepth 20000

theorem row_emptyB (w : World) (t : TypeId) (s : Nat) : (w.alloc (.cells #[] t)).ownsRow w.heap.size t s (.slice (some ⟨w.heap.size, 0, none⟩) 0 0) 0 [] := ⟨by simp, .inr ⟨w.heap.size, 0, #[], rfl, Nat.le_refl _, heap_alloc_new _ _, by simp, by unfold maxLen; omega, by simp, by simp⟩⟩
theorem row_emptyN (w : World) (t : TypeId) (s N : Nat) (hN : w.heap.size = N) : (w.alloc (.cells #[] t)).ownsRow N t s (.slice (some ⟨N, 0, none⟩) 0 0) 0 [] := by subst hN; exact row_emptyB w t s
theorem pC_one (ps : List (Nat × List UInt8)) : ∀ u ∈ pC ps, u.oneCell' = true := by
  intro u hu
  unfold pC at hu
  obtain ⟨p, _, hp⟩ := List.mem_flatMap.1 hu
  simp at hp
  rcases hp with rfl | rfl <;> rfl
theorem pC_len (ps : List (Nat × List UInt8)) : (pC ps).length = ps.length * 2 := by
  induction ps with
  | nil => rfl
  | cons p ps ih => show (_ :: _ :: pC ps).length = _; simp [ih]; omega
theorem wpList_append_texts {w : World} {ops : Array Oper} {rest : List Oper} {o : Oper} {a : Act} {Q : Exit → Act → World → Prop} (hgd : o.guard = none) (s x : Operand)
    (ho : o.op = .call { callee := .builtin .append, args := #[s, x], argTypes := #[41, 41] })
    (base : Nat) (v : Value) (hs : a.eval s = v) (hown : w.ownsRow base 9 1 v 0 [])
    (g n c : Nat) (l : List (List UInt8)) (hx : a.eval x = .slice (some ⟨g, 0, none⟩) n c) (hn : n = l.length) (hr : w.ownsRow 0 9 1 (.slice (some ⟨g, 0, none⟩) n c) n (l.map sV)) (hl : l.length ≤ 1000000) (hbase : base ≤ w.heap.size)
    (h : ∀ v' w', w'.ownsRow base 9 1 v' n (l.map sV) → w.grownBy w' v.ownBlock → wpList Try.prog ops Q rest (a.put o.dst v') w') : wpList Try.prog ops Q (o :: rest) a w := by
  obtain ⟨i0, hi, hz0, hz1, hz2⟩ := info_partsB infoS
  refine wpList_append_own w hgd s x 41 ho base 9 i0 (.string ByteArray.empty) 1 16 Try.underlying41 hi hz0 hz1 hz2 rfl (by decide) v 0 [] hs hown ⟨g, 0, none⟩ n c (l.map sV) hx (by rw [List.length_map]; omega) (fun j u hj => hr.cells (g := g) rfl j u hj) ?_ (by unfold maxLen; omega) (by omega) hbase ?_
  · intro u hu
    obtain ⟨L, _, rfl⟩ := List.mem_map.1 hu
    rfl
  · intro v' w' ho' hgr _
    rw [Nat.zero_add, List.nil_append] at ho'
    exact h v' w' ho' hgr
theorem wpList_append_pend {w : World} {ops : Array Oper} {rest : List Oper} {o : Oper} {a : Act} {Q : Exit → Act → World → Prop} (hgd : o.guard = none) (s x : Operand)
    (ho : o.op = .call { callee := .builtin .append, args := #[s, x], argTypes := #[42, 42] })
    (base : Nat) (v : Value) (hs : a.eval s = v) (hown : w.ownsRow base 68 2 v 0 [])
    (pv : Value) (ps : List (Nat × List UInt8)) (hx : a.eval x = pv) (hr : w.ownsRow 0 68 2 pv ps.length (pC ps)) (hl : ps.length ≤ 1000000) (hbase : base ≤ w.heap.size)
    (h : ∀ v' w', w'.ownsRow base 68 2 v' ps.length (pC ps) → w.grownBy w' v.ownBlock → wpList Try.prog ops Q rest (a.put o.dst v') w') : wpList Try.prog ops Q (o :: rest) a w := by
  obtain ⟨i0, hi, hz0, hz1, hz2⟩ := info_partsB infoW
  rcases hr.2 with ⟨e, h0⟩ | ⟨g, cap, cur, e, hb, hg, _⟩
  · have hp : ps = [] := List.eq_nil_of_length_eq_zero h0
    subst hp
    refine wpList_append_own_none hgd s x 42 ho base 68 i0 2 Try.underlying42 hi v 0 [] hs hown (by rw [hx, e]) ?_
    exact h v w hown ⟨rfl, rfl, rfl, Nat.le_refl _, fun _ _ _ => rfl⟩
  · subst e
    refine wpList_append_own w hgd s x 42 ho base 68 i0 (.agg #[.int .i64 0, .string ByteArray.empty]) 2 24 Try.underlying42 hi hz0 hz1 hz2 rfl (by decide) v 0 [] hs hown ⟨g, 0, none⟩ ps.length cap (pC ps) hx (pC_len ps) (fun j u hj => hr.cells (g := g) rfl j u hj) (pC_one ps) (by unfold maxLen; omega) (by omega) hbase ?_
    intro v' w' ho' hgr _
    rw [Nat.zero_add, List.nil_append] at ho'
    exact h v' w' ho' hgr
def CpPost (w : World) (S : St) (e : Ending) (w' : World) : Prop := ∃ rb sg sc pv ps fz, e = .returned (.pointer (some ⟨rb, 0, none⟩)) ∧ RDAt w' (fun q => w.heap.size ≤ q ∧ q < w'.heap.size) rb S sg sc pv ps fz ∧ Below w.heap.size w w'
theorem grown_below {B : Nat} {w w1 w2 : World} {row : Option Nat} (h : Below B w w1) (hg : w1.grownBy w2 row) (hB : B ≤ w1.heap.size) (hr : ∀ q, row = some q → B ≤ q) : Below B w w2 :=
  h.trans ⟨hg.os, hg.tape, hg.output, hg.size, fun q hq => hg.block q (by omega) fun e => by have := hr q e.symm; omega⟩
set_option maxHeartbeats 8000000 in
theorem rCopy_go {w : World} {G : Nat → Prop} {rb : Nat} {S : St} {sg sc : Nat} {pv : Value} {ps : List (Nat × List UInt8)} {fz : Int} (h : RDAt w G rb S sg sc pv ps fz) (hG : ∀ q, G q → q < w.heap.size) (ho : S.ops < 1000000) :
    Calls Try.prog 8 #[.pointer (some ⟨rb, 0, none⟩)] w (CpPost w S) := by
  obtain ⟨po, pcap, hpv, _⟩ := rowForm h.pendR
  obtain ⟨np, hnp⟩ : ∃ np, np = ps.length := ⟨_, rfl⟩
  rw [← hnp] at hpv
  subst hpv
  obtain ⟨h0, h1, h2, h3, h4, h5⟩ := h.head
  have hpl : ps.length ≤ 1000000 := by have := h.pl; omega
  have hsl : S.safe.length ≤ 1000000 := by have := h.n2; omega
  have hn1 : 0 < S.safe.length := by have := h.n1; omega
  have HR := hide h
  have lr := lt_of_block h.blk
  have HLS : Hid (sg < w.heap.size) := hide (hG sg h.gs)
  have HA : Hid (∀ (O : Obj) (v' : Value) (w' : World), O = .cells #[.slice (some ⟨sg, 0, none⟩) S.safe.length sc, .slice po np pcap, .int .i64 fz, .bool S.down, .int .i64 S.ops] 44 → w'.ownsRow (w.heap.size + 1) 9 1 v' S.safe.length (S.safe.map sV) → ((w.alloc O).alloc (.cells #[] 9)).grownBy w' (some (w.heap.size + 1)) → Below w.heap.size w w' ∧ w'.heap[w.heap.size]? = some (.cells #[.slice (some ⟨sg, 0, none⟩) S.safe.length sc, .slice po np pcap, .int .i64 fz, .bool S.down, .int .i64 S.ops] 44 (0, 0)) ∧ w.heap.size + 1 < w'.heap.size ∧ w'.cell? ⟨rb, 1, none⟩ = some (.slice po np pcap)) := hide (fun O v' w' eO o' g' => by
    have hb1 : Below w.heap.size w (w.alloc O) := (Below.refl _ _).alloc (Nat.le_refl _) _
    have hb2 := hb1.alloc hb1.size (.cells #[] 9)
    have hz2 : ((w.alloc O).alloc (.cells #[] 9)).heap.size = w.heap.size + 2 := by simp
    have := g'.size
    have hb3 := grown_below hb2 g' (by omega) (fun q hq => by cases hq; omega)
    refine ⟨hb3, ?_, by omega, (hb3.cell (p := ⟨rb, 1, none⟩) lr).trans h1⟩
    rw [g'.block w.heap.size (by omega) (by simp), Below.heap_alloc _ _ _ (by simp), heap_alloc_self, eO])
  have HTX : Hid (∀ O : Obj, ((w.alloc O).alloc (.cells #[] 9)).ownsRow 0 9 1 (.slice (some ⟨sg, 0, none⟩) S.safe.length sc) S.safe.length (S.safe.map sV)) := hide (fun O => World.ownsRow.alloc (World.ownsRow.alloc h.safeR O) _)
  clear h hG hnp
  go_enter Try.func8, Try.ntmps8
  go_upto_region 3 with (first | (refine wpList_append_texts rfl (.tmp 7) (.tmp 11) rfl (w.heap.size + 1) _ rfl (row_emptyN (w.alloc _) _ _ (w.heap.size + 1) (by simp)) sg S.safe.length sc S.safe rfl rfl (unhide HTX _) hsl (by simp) ?_; intro v2 w2 o2 g2; obtain ⟨ao2, cc2, e2, _, _, h32⟩ := rowForm o2; obtain ⟨q2, hq2⟩ := h32 hn1; subst hq2; subst e2; obtain ⟨a2, a3, a4, a5⟩ := unhide HA _ _ w2 rfl o2 g2; have c20 : w2.cell? ⟨w.heap.size, 0, none⟩ = some (.slice (some ⟨sg, 0, none⟩) S.safe.length sc) := (cell_of_row _ _ _ _ _ _ a3).trans rfl; have f20 := frozen_of_row w2 w.heap.size 0 _ _ a3; have A2 := hide a2; have A3 := hide a3; have A5 := hide a5; have O2 := hide o2; clear a2 a3 a5 o2 g2 h32) | fail)
  obtain ⟨W3, hW3⟩ : ∃ W3, W3 = w2.setCell ⟨w.heap.size, 0, none⟩ (.slice (some ⟨q2, 0, none⟩) S.safe.length cc2) := ⟨_, rfl⟩
  have hz3 : W3.heap.size = w2.heap.size := by rw [hW3]; simp [World.setCell]
  have B3 : Hid (Below w.heap.size w W3) := hide (by rw [hW3]; exact (unhide A2).setCell (Nat.le_refl _) _)
  have K3 : Hid (W3.heap[w.heap.size]? = some (.cells #[.slice (some ⟨q2, 0, none⟩) S.safe.length cc2, .slice po np pcap, .int .i64 fz, .bool S.down, .int .i64 S.ops] 44 (0, 0))) := hide (by rw [hW3, heap_setCell_same w2 w.heap.size 0 _ _ _ (unhide A3)]; rfl)
  have hq2 := rowL (unhide O2) (q := q2) rfl
  have O3 : Hid (W3.ownsRow 0 9 1 (.slice (some ⟨q2, 0, none⟩) S.safe.length cc2) S.safe.length (S.safe.map sV) ∧ w.heap.size + 1 ≤ q2 ∧ q2 < W3.heap.size) := hide ⟨by
    rw [hW3]
    have o := (unhide O2)
    obtain ⟨x1, x2⟩ := o
    refine ⟨x1, ?_⟩
    rcases x2 with x2 | ⟨g, cap, cur, e, hb, hg, r⟩
    · exact .inl x2
    · exact .inr ⟨g, cap, cur, e, Nat.zero_le _, by rw [heap_setCell_other _ _ _ _ (show g ≠ w.heap.size by omega)]; exact hg, r⟩, hq2.1, by rw [hz3]; exact hq2.2.1⟩
  have c31 : W3.cell? ⟨rb, 1, none⟩ = some (.slice po np pcap) := ((unhide B3).cell (p := ⟨rb, 1, none⟩) lr).trans h1
  have lr3 : rb < W3.heap.size := by have := (unhide B3).size; omega
  rw [← hW3]
  clear hW3 c20 f20 A2 A3 A5 O2 hq2 h0 h1 h2 h3 h4 HA HTX hz3 a4
  have HPW : Hid ((W3.alloc (.cells #[] 68)).ownsRow 0 68 2 (.slice po np pcap) ps.length (pC ps)) := hide (World.ownsRow.alloc (rowF (unhide HR).pendR fun q _ hl => (unhide B3).block q hl) _)
  have HF : Hid (∀ (v' : Value) (w' : World), w'.ownsRow W3.heap.size 68 2 v' ps.length (pC ps) → (W3.alloc (.cells #[] 68)).grownBy w' (some W3.heap.size) → w'.cell? ⟨w.heap.size, 1, none⟩ = some (.slice po np pcap) ∧ w'.frozen? ⟨w.heap.size, 1, none⟩ = false ∧ CpPost w S (.returned (.pointer (some ⟨w.heap.size, 0, none⟩))) (w'.setCell ⟨w.heap.size, 1, none⟩ v')) := hide (fun v' w' o' g' => by
    have hs3 := lt_of_block (unhide K3)
    have hz4 : (W3.alloc (.cells #[] 68)).heap.size = W3.heap.size + 1 := by simp
    have hzg := g'.size
    have hb4 := (unhide B3).alloc (unhide B3).size (.cells #[] 68)
    have hb5 := grown_below hb4 g' (by omega) (fun q hq => by cases hq; omega)
    have bk : w'.heap[w.heap.size]? = _ := (g'.block w.heap.size (by omega) (by simp; omega)).trans ((Below.heap_alloc _ _ _ hs3).trans (unhide K3))
    refine ⟨(cell_of_row _ _ _ _ _ _ bk).trans rfl, frozen_of_row w' w.heap.size 1 _ _ bk, w.heap.size, q2, cc2, v', ps, fz, rfl, ?_, hb5.setCell (Nat.le_refl _) _⟩
    have hsz : (w'.setCell ⟨w.heap.size, 1, none⟩ v').heap.size = w'.heap.size := by simp [World.setCell]
    have hO := unhide O3
    have hv' : ∀ q, v'.ownBlock = some q → W3.heap.size ≤ q ∧ q < w'.heap.size := fun q hq => ⟨(rowL o' hq).1, (rowL o' hq).2.1⟩
    have hr := unhide HR
    exact
      { blk := set1 _ _ _ _ _ _ _ _ _ bk
        safeR := rowF hO.1 fun q hq hl => by
          cases hq
          rw [heap_setCell_other _ _ _ _ (show q2 ≠ w.heap.size by omega), g'.block q2 (by omega) (by simp; omega), Below.heap_alloc _ _ _ (by omega)]
        pendR := by
          obtain ⟨x1, x2⟩ := o'
          refine ⟨x1, ?_⟩
          rcases x2 with x2 | ⟨g, cap, cur, e, hb, hg, r⟩
          · exact .inl x2
          · exact .inr ⟨g, cap, cur, e, Nat.zero_le _, by rw [heap_setCell_other _ _ _ _ (show g ≠ w.heap.size by omega)]; exact hg, r⟩
        pend := hr.pend, inb := hr.inb, f1 := hr.f1, f2 := hr.f2, f3 := hr.f3, f4 := hr.f4
        gr := ⟨Nat.le_refl _, by rw [hsz]; omega⟩
        gs := ⟨by omega, by rw [hsz]; omega⟩
        gp := fun q hq => ⟨by have := (hv' q hq).1; omega, by rw [hsz]; exact (hv' q hq).2⟩
        pl := hr.pl, n1 := hr.n1, n2 := hr.n2, o1 := hr.o1 })
  go_wp2_with (first | (refine wpList_append_pend rfl (.tmp 14) (.tmp 18) rfl W3.heap.size _ rfl (row_emptyN W3 _ _ W3.heap.size rfl) (.slice po np pcap) ps rfl (unhide HPW) hpl (by simp) ?_; intro v4 w4 o4 g4; obtain ⟨ao4, cc4, e4, _⟩ := rowForm o4; subst e4; obtain ⟨c40, f40, p40⟩ := unhide HF _ w4 o4 g4; have P40 := hide p40; clear p40 o4 g4) | fail)
  go_ret
  exact unhide P40
/-- A device's bound is that of what it has. -/
theorem Dev.tight {w : World} {b : Nat} {F : Nat → Prop} {N M : Nat} {S : St} (h : Dev w b F N S) (hM : 512 ≤ M) (ho : S.ops ≤ M) (hp : ∀ k, (S.pend k).length ≤ M) : Dev w b F M S := by
  obtain ⟨g, c, m, vf, D, h⟩ := h
  refine ⟨g, c, m, vf, D, { h with pend := { h.pend with own := ?_, len := hp }, o2 := ho }⟩
  have hk := (h.pend.keys (intKeys D) (List.Perm.refl _)).2
  have hl := pk_len S.safe.length S.pend
  have hn := h.n2
  obtain ⟨es, clock, hb, FF, hs, hD⟩ := h.pend.own
  refine ⟨es, clock, hb, FF, ?_, hD⟩
  have e : (intKeys D).length = es.size := by
    rw [hD]
    show (List.map _ _).length = _
    rw [List.length_map, length_sorted, List.length_map, Array.length_toList]
  omega
theorem Dev.bnd {w : World} {b : Nat} {F : Nat → Prop} {N : Nat} {S : St} (h : Dev w b F N S) : S.ops ≤ N ∧ (∀ k, (S.pend k).length ≤ N) ∧ (∀ k, k < S.safe.length → (S.newest k).length = 512) := by
  obtain ⟨g, c, m, vf, D, h⟩ := h
  exact ⟨h.o2, h.pend.len, fun k hk => St.newest_len h k hk⟩
/-- A device and the document's, side by side; all their blocks among H. -/
structure PairAt (w0 W : World) (b rb N : Nat) (S : St) (H F G : Nat → Prop) : Prop where
  dev : Dev W b F N S
  ref : ∃ sg sc pv ps fz, RDAt W G rb S sg sc pv ps fz
  hF : ∀ q, F q → H q
  hG : ∀ q, G q → H q
  ap : ∀ q, F q → ¬ G q
  lo : ∀ q, H q → w0.heap.size ≤ q ∧ q < W.heap.size
  n1 : 512 ≤ N
def Pr (w0 W : World) (b rb N : Nat) (S : St) (H : Nat → Prop) : Prop := ∃ F G, PairAt w0 W b rb N S H F G
theorem Pr.lo {w0 W : World} {b rb N : Nat} {S : St} {H : Nat → Prop} (h : Pr w0 W b rb N S H) : ∀ q, H q → w0.heap.size ≤ q ∧ q < W.heap.size := by
  obtain ⟨F, G, h⟩ := h
  exact h.lo
/-- They stand where their blocks do. -/
theorem Pr.same {w0 W W' : World} {b rb N : Nat} {S : St} {H : Nat → Prop} (h : Pr w0 W b rb N S H) (hz : W.heap.size ≤ W'.heap.size) (hs : ∀ q, H q → W'.heap[q]? = W.heap[q]?) : Pr w0 W' b rb N S H := by
  obtain ⟨F, G, h⟩ := h
  obtain ⟨sg, sc, pv, ps, fz, hr⟩ := h.ref
  exact ⟨F, G, { h with dev := h.dev.frame fun k hk _ => hs k (h.hF k hk), ref := ⟨sg, sc, pv, ps, fz, hr.same fun q hq => hs q (h.hG q hq)⟩, lo := fun q hq => ⟨(h.lo q hq).1, by have := (h.lo q hq).2; omega⟩ }⟩
theorem Pr.grown {w0 W W' : World} {b rb N : Nat} {S : St} {H : Nat → Prop} (h : Pr w0 W b rb N S H) (hb : Below W.heap.size W W') : Pr w0 W' b rb N S H := h.same hb.size fun q hq => hb.block q (h.lo q hq).2
theorem Pr.mono {w0 W : World} {b rb N M : Nat} {S : St} {H : Nat → Prop} (h : Pr w0 W b rb N S H) (hM : N ≤ M) : Pr w0 W b rb M S H := by
  obtain ⟨F, G, h⟩ := h
  exact ⟨F, G, { h with dev := h.dev.mono (fun _ h => h) hM, n1 := Nat.le_trans h.n1 hM }⟩
/-- What a call on both leaves. -/
def Did (w0 W W' : World) (b rb N : Nat) (H : Nat → Prop) : Prop := ∃ S' H', Pr w0 W' b rb (N + 2) S' H' ∧ Kept H W W' ∧ ∀ q, H' q → H q ∨ (W.heap.size ≤ q ∧ q < W'.heap.size)
/-- Both have done the same in their own blocks. -/
theorem did_same {w0 W W1 W2 : World} {b rb N M : Nat} {S T : St} {H F G : Nat → Prop} (h : PairAt w0 W b rb N S H F G) (hd : Dev W1 b F M T) (hM : M ≤ N + 2) (k1 : Kept F W W1) {sg sc : Nat} {pv : Value} {ps : List (Nat × List UInt8)} (hr : RDW W1 W2 G rb T sg sc pv ps) : Pr w0 W2 b rb (N + 2) T H ∧ Kept H W W2 := by
  obtain ⟨⟨fz, r1⟩, k2⟩ := hr
  have z1 := k1.size
  have z2 := k2.size
  refine ⟨⟨F, G, { h with dev := (hd.frame fun q hq hl => k2.block q hl (h.ap q hq)).mono (fun _ h => h) hM, ref := ⟨sg, sc, pv, ps, fz, r1⟩, lo := fun q hq => ⟨(h.lo q hq).1, by have := (h.lo q hq).2; omega⟩, n1 := by have := h.n1; omega }⟩, ⟨k2.os.trans k1.os, k2.tape.trans k1.tape, k2.output.trans k1.output, by omega, fun q hq hn => ?_⟩⟩
  rw [k2.block q (by omega) fun hg => hn (h.hG q hg)]
  exact k1.block q hq fun hf => hn (h.hF q hf)
/-- The device first: it has new blocks, and the document's. -/
theorem did_put {w0 W W1 W2 : World} {b rb N M : Nat} {S T : St} {H F G : Nat → Prop} (h : PairAt w0 W b rb N S H F G) {F' : Nat → Prop} (hd : Dev W1 b F' M T) (hM : M ≤ N + 2) (k1 : Kept F W W1) (hF' : ∀ q, F' q → F q ∨ (W.heap.size ≤ q ∧ q < W1.heap.size)) (hr : RDG W1 W2 G rb T) : ∃ H', Pr w0 W2 b rb (N + 2) T H' ∧ Kept H W W2 ∧ ∀ q, H' q → H q ∨ (W.heap.size ≤ q ∧ q < W2.heap.size) := by
  obtain ⟨G', sg, sc, pv, ps, fz, r1, k2, hG'⟩ := hr
  have z1 := k1.size
  have z2 := k2.size
  have ne : ∀ q, F' q → ¬ G q := fun q hf hg => by
    rcases hF' q hf with h1 | h1
    · exact h.ap q h1 hg
    · have := (h.lo q (h.hG q hg)).2; omega
  have hin : ∀ q, F' q ∨ G' q → H q ∨ (W.heap.size ≤ q ∧ q < W2.heap.size) := fun q hq => by
    rcases hq with hq | hq
    · rcases hF' q hq with h1 | h1
      · exact .inl (h.hF q h1)
      · exact .inr ⟨h1.1, by omega⟩
    · rcases hG' q hq with h1 | h1
      · exact .inl (h.hG q h1)
      · exact .inr ⟨by omega, h1.2⟩
  refine ⟨fun q => F' q ∨ G' q, ⟨F', G', ?_⟩, ⟨k2.os.trans k1.os, k2.tape.trans k1.tape, k2.output.trans k1.output, by omega, fun q hq hn => ?_⟩, hin⟩
  · exact
      { dev := (hd.frame fun q hq hl => k2.block q hl (ne q hq)).mono (fun _ h => h) hM
        ref := ⟨sg, sc, pv, ps, fz, r1⟩
        hF := fun q hq => .inl hq
        hG := fun q hq => .inr hq
        ap := fun q hf hg => by
          rcases hG' q hg with h1 | h1
          · exact ne q hf h1
          · rcases hF' q hf with h2 | h2
            · have := (h.lo q (h.hF q h2)).2; omega
            · omega
        lo := fun q hq => by
          have hw : w0.heap.size ≤ W.heap.size := by
            obtain ⟨g, c, m, vf, D, hi⟩ := h.dev
            have := h.lo b (h.hF b hi.fb)
            omega
          rcases hin q hq with h1 | h1
          · have := h.lo q h1; omega
          · omega
        n1 := by have := h.n1; omega }
  · rw [k2.block q (by omega) fun hg => hn (h.hG q hg)]
    exact k1.block q hq fun hf => hn (h.hF q hf)
end Go.Proofs.Ytfoanlmmjbclgaa

/-
  DERIVED. What both devices answer, operation by operation.
-/
namespace Go.Proofs.Ytfoanlmmjbclgaa
open Go.RowKit
set_option linter.unusedVariables false
set_option maxRecDepth 20000

theorem Sl.lenEqB {w : World} {a : Option Addr} {n c : Nat} {l : List UInt8} (h : Sl w (.slice a n c) l) : n = l.length := by
  obtain ⟨ao, cap, e, _⟩ := h
  injection e
theorem Sl.keptB {H : Nat → Prop} {w w' : World} {a : Option Addr} {n c : Nat} {l : List UInt8} (h : Sl w (.slice a n c) l) (hk : Kept H w w') (hG : c ≠ 0 → ∀ ad, a = some ad → ¬ H ad.block) : Sl w' (.slice a n c) l := by
  obtain ⟨ao, cap, e, h1, h2, h3⟩ := h
  injection e with e1 e2 e3
  subst e1 e3
  refine ⟨a, c, by rw [e2], h1, h2, fun hc => ?_⟩
  obtain ⟨b, off, e4, hb, hcl⟩ := h3 hc
  have hz := hk.size
  refine ⟨b, off, e4, by omega, fun i hi => ?_⟩
  have := hk.block b hb (hG hc _ e4)
  rw [← hcl i hi]
  unfold World.cell?
  rw [this]
theorem openE_beg (S : St) (n : Int) : begE S n false = openE S.safe.length S.down n := by
  unfold begE openE
  by_cases hd : S.down = true
  · rw [if_pos hd, if_pos hd]
  · rw [if_neg hd, if_neg hd]
    by_cases hr : 0 ≤ n ∧ n < (S.safe.length : Int)
    · rw [if_neg (by simpa using hr), if_neg (by decide), if_pos hr]
    · rw [if_pos hr, if_neg hr]
theorem open_in {S : St} {n : Int} (h : openE S.safe.length S.down n = 0) : S.down = false ∧ ∃ m : Nat, n = (m : Int) ∧ m < S.safe.length := by
  unfold openE at h
  by_cases hd : S.down = true
  · rw [if_pos hd] at h; cases h
  · rw [if_neg hd] at h
    by_cases hr : 0 ≤ n ∧ n < (S.safe.length : Int)
    · exact ⟨by simpa using hd, n.toNat, by omega, by omega⟩
    · rw [if_neg hr] at h; cases h
/-- A block is read on the device: what it answers, and that the document's answers the same. -/
def RdBoth (w0 W : World) (b rb N : Nat) (H : Nat → Prop) (n : Int) (e : Ending) (W1 : World) : Prop :=
  ∃ x : Int, Kept H W W1 ∧ ((e = .returned (.tuple #[.slice none 0 0, .int .i64 x]) ∧ Calls Try.prog 20 #[.pointer (some ⟨rb, 0, none⟩), .int .i64 n] W1 fun e2 W2 => e2 = .returned (.tuple #[.string ⟨#[]⟩, .int .i64 x]) ∧ ∃ T, Pr w0 W2 b rb (N + 2) T H ∧ Kept H W W2) ∨
    (∃ q L, e = .returned (.tuple #[.slice (some ⟨q, 0, none⟩) 512 512, .int .i64 x]) ∧ W.heap.size ≤ q ∧ W1.heap[q]? = some (.cells (L.map bv).toArray 60 (0, 0)) ∧ L.length = 512 ∧ Calls Try.prog 20 #[.pointer (some ⟨rb, 0, none⟩), .int .i64 n] W1 fun e2 W2 => e2 = .returned (.tuple #[sV L, .int .i64 x]) ∧ (∃ T, Pr w0 W2 b rb (N + 2) T H ∧ Kept H W W2) ∧ W2.heap[q]? = W1.heap[q]?))
theorem Read_both {w0 W : World} {b rb N : Nat} {S : St} {H : Nat → Prop} (h : Pr w0 W b rb N S H) (hN : N < 900000) (n : Int) :
    Calls Try.prog 15 #[.pointer (some ⟨b, 0, none⟩), .int .i64 n] W (RdBoth w0 W b rb N H n) := by
  obtain ⟨F, G, h⟩ := h
  obtain ⟨sg, sc, pv, ps, fz, hr⟩ := h.ref
  have hops := h.dev.bnd.1
  have hFH : ∀ {A B : World}, Kept F A B → Kept H A B := fun k => k.mono fun q _ hq => h.hF q hq
  have same : ∀ {A : World}, Kept F W A → RDAt A G rb S sg sc pv ps fz := fun k => hr.same fun q hq => k.block q (h.lo q (h.hG q hq)).2 fun hf => h.ap q hf hq
  by_cases ho : openE S.safe.length S.down n = 0
  · obtain ⟨hd, m, rfl, hm⟩ := open_in ho
    by_cases hb : burnE S.fused S.fuse = 0
    · refine (Read_dev h.dev m hm hd hb (by omega)).mono ?_
      rintro e W1 ⟨q, rfl, hq, hg, d1, k1⟩
      refine ⟨0, hFH k1, .inr ⟨q, S.newest m, rfl, hq, hg, h.dev.bnd.2.2 m hm, ?_⟩⟩
      refine (rRead_go (same k1) (by omega) hd m hm).mono ?_
      rintro e2 W2 hp
      rcases hp with ⟨_, rfl, rd⟩ | ⟨hn, _⟩
      · have hds := did_same h d1 (by omega) k1 rd
        exact ⟨rfl, ⟨S.burn, hds.1, hds.2⟩, rd.2.block q (lt_of_block hg) fun hgq => by have := (h.lo q (h.hG q hgq)).2; omega⟩
      · exact absurd hb hn
    · refine (Read_dev_burnt h.dev m hm hd hb (by omega)).mono ?_
      rintro e W1 ⟨rfl, d1, k1⟩
      refine ⟨2, hFH k1, .inl ⟨rfl, ?_⟩⟩
      refine (rRead_go (same k1) (by omega) hd m hm).mono ?_
      rintro e2 W2 hp
      rcases hp with ⟨hn, _⟩ | ⟨_, rfl, rd⟩
      · exact absurd hn hb
      · have hds := did_same h d1 (by omega) k1 rd
        exact ⟨rfl, S.burn, hds.1, hds.2⟩
  · refine (Read_dev_shut h.dev n ho).mono ?_
    rintro e W1 ⟨rfl, rfl⟩
    refine ⟨_, Kept.refl _ _, .inl ⟨rfl, ?_⟩⟩
    refine (rRead_no hr n (by rw [openE_beg]; exact ho)).mono ?_
    rintro e2 W2 ⟨rfl, rfl⟩
    exact ⟨by rw [openE_beg], S, Pr.mono ⟨F, G, h⟩ (by omega), Kept.refl _ _⟩
/-- A block is written. -/
def WrBoth (w0 W : World) (b rb N : Nat) (H : Nat → Prop) (n : Int) (v : Value) (e : Ending) (W1 : World) : Prop :=
  ∃ x : Int, e = .returned (.int .i64 x) ∧ Kept H W W1 ∧ Calls Try.prog 21 #[.pointer (some ⟨rb, 0, none⟩), .int .i64 n, v] W1 fun e2 W2 => e2 = .returned (.int .i64 x) ∧ ∃ T H', Pr w0 W2 b rb (N + 2) T H' ∧ Kept H W W2 ∧ ∀ q, H' q → H q ∨ (W.heap.size ≤ q ∧ q < W2.heap.size)
theorem Write_both {w0 W : World} {b rb N : Nat} {S : St} {H : Nat → Prop} (h : Pr w0 W b rb N S H) (hN : N < 900000) (hw : w0.heap.size ≤ W.heap.size) (n : Int) (a : Option Addr) (m c : Nat) (L : List UInt8) (hv : Sl W (.slice a m c) L) (hva : c ≠ 0 → ∀ ad, a = some ad → ¬ H ad.block) :
    Calls Try.prog 13 #[.pointer (some ⟨b, 0, none⟩), .int .i64 n, .slice a m c] W (WrBoth w0 W b rb N H n (.slice a m c)) := by
  obtain ⟨F, G, h⟩ := h
  obtain ⟨sg, sc, pv, ps, fz, hr⟩ := h.ref
  have hops := h.dev.bnd.1
  have hFH : ∀ {A B : World}, Kept F A B → Kept H A B := fun k => k.mono fun q _ hq => h.hF q hq
  have same : ∀ {A : World}, Kept F W A → RDAt A G rb S sg sc pv ps fz := fun k => hr.same fun q hq => k.block q (h.lo q (h.hG q hq)).2 fun hf => h.ap q hf hq
  have hml : m = L.length := hv.lenEqB
  have hmax : (m : Int) ≤ 9223372036854775807 := by
    obtain ⟨ao, cap, _, h1, h2, _⟩ := hv
    unfold maxLen at h2
    omega
  by_cases ho : openE S.safe.length S.down n = 0
  · obtain ⟨hd, k, rfl, hk⟩ := open_in ho
    by_cases h5 : m = 512
    · subst h5
      have slk : ∀ {A : World}, Kept H W A → Sl A (.slice a 512 c) L := fun kk => hv.keptB kk hva
      by_cases hb : burnE S.fused S.fuse = 0
      · refine (Write_own h.dev (base := w0.heap.size) (fun q hq => h.lo q (h.hF q hq)) hw k L _ hk hd hb hv hml.symm (by omega)).mono ?_
        rintro e W1 ⟨rfl, ⟨F', f1, f2, d1⟩, k1⟩
        refine ⟨0, rfl, hFH k1, ?_⟩
        refine (rPut_go (same k1) (by omega) hd k hk a c L (fun A hA => slk ((hFH k1).trans (hA.mono fun q _ hq => h.hG q hq)))).mono ?_
        rintro e2 W2 hp
        rcases hp with ⟨_, rfl, rd⟩ | ⟨hn, _⟩
        · obtain ⟨H', p1, p2, p3⟩ := did_put h d1 (by omega) k1 (fun q hq => (f2 q hq).imp id fun hh => ⟨hh, (f1 q hq).2⟩) rd
          exact ⟨rfl, _, H', p1, p2, p3⟩
        · exact absurd hb hn
      · refine (Write_dev_burnt h.dev k a c hk hd hb (by omega)).mono ?_
        rintro e W1 ⟨rfl, d1, k1⟩
        refine ⟨2, rfl, hFH k1, ?_⟩
        refine (rPut_go (same k1) (by omega) hd k hk a c L (fun A hA => slk ((hFH k1).trans (hA.mono fun q _ hq => h.hG q hq)))).mono ?_
        rintro e2 W2 hp
        rcases hp with ⟨hn, _⟩ | ⟨_, rfl, rd⟩
        · exact absurd hn hb
        · obtain ⟨H', p1, p2, p3⟩ := did_put h d1 (by omega) k1 (fun q hq => .inl hq) rd
          exact ⟨rfl, _, H', p1, p2, p3⟩
    · obtain ⟨g0, c0, m0, vf0, D0, hi⟩ := h.dev
      refine (Write_sized (k : Int) a m c hi.dev ho h5).mono ?_
      rintro e W1 ⟨rfl, rfl⟩
      have eb : begE S (k : Int) (decide (m ≠ 512)) = 21 := by
        unfold begE
        rw [if_neg (by rw [hd]; decide), if_neg (by omega), if_pos (decide_eq_true h5)]
      refine ⟨21, rfl, Kept.refl _ _, ?_⟩
      have := rPut_no hr (k : Int) a m c hmax (by rw [eb]; decide)
      rw [eb] at this
      refine this.mono ?_
      rintro e2 W2 ⟨rfl, rfl⟩
      exact ⟨rfl, S, H, Pr.mono ⟨F, G, h⟩ (by omega), Kept.refl _ _, fun q hq => .inl hq⟩
  · obtain ⟨g0, c0, m0, vf0, D0, hi⟩ := h.dev
    refine (Write_closed n _ hi.dev ho).mono ?_
    rintro e W1 ⟨rfl, rfl⟩
    have eb : begE S n (decide (m ≠ 512)) = openE S.safe.length S.down n := by
      rw [← openE_beg]
      unfold begE
      by_cases hd : S.down = true
      · rw [if_pos hd, if_pos hd]
      · rw [if_neg hd, if_neg hd]
        by_cases hr : 0 ≤ n ∧ n < (S.safe.length : Int)
        · exact absurd (by unfold openE; rw [if_neg hd, if_pos hr]) ho
        · rw [if_pos hr, if_pos hr]
    refine ⟨_, rfl, Kept.refl _ _, ?_⟩
    have := rPut_no hr n a m c hmax (by rw [eb]; exact ho)
    rw [eb] at this
    refine this.mono ?_
    rintro e2 W2 ⟨rfl, rfl⟩
    exact ⟨rfl, S, H, Pr.mono ⟨F, G, h⟩ (by omega), Kept.refl _ _, fun q hq => .inl hq⟩
/-- All is flushed. -/
def OpBoth (w0 W : World) (b rb N : Nat) (H : Nat → Prop) (f : Nat) (args : Array Value) (e : Ending) (W1 : World) : Prop :=
  ∃ x : Int, e = .returned (.int .i64 x) ∧ Kept H W W1 ∧ Calls Try.prog f args W1 fun e2 W2 => e2 = .returned (.int .i64 x) ∧ ∃ T, Pr w0 W2 b rb (N + 2) T H ∧ Kept H W W2
theorem Flush_both {w0 W : World} {b rb N : Nat} {S : St} {H : Nat → Prop} (h : Pr w0 W b rb N S H) (hN : N < 900000) :
    Calls Try.prog 22 #[.pointer (some ⟨b, 0, none⟩)] W (OpBoth w0 W b rb N H 23 #[.pointer (some ⟨rb, 0, none⟩)]) := by
  obtain ⟨F, G, h⟩ := h
  obtain ⟨sg, sc, pv, ps, fz, hr⟩ := h.ref
  have hops := h.dev.bnd.1
  have hFH : ∀ {A B : World}, Kept F A B → Kept H A B := fun k => k.mono fun q _ hq => h.hF q hq
  have same : ∀ {A : World}, Kept F W A → RDAt A G rb S sg sc pv ps fz := fun k => hr.same fun q hq => k.block q (h.lo q (h.hG q hq)).2 fun hf => h.ap q hf hq
  cases hd : S.down with
  | true =>
    obtain ⟨g0, c0, m0, vf0, D0, hi⟩ := h.dev
    have h1 := hi.dev
    rw [hd] at h1
    refine (Flush_down h1).mono ?_
    rintro e W1 ⟨rfl, rfl⟩
    refine ⟨2, rfl, Kept.refl _ _, (rFlush_no hr hd).mono ?_⟩
    rintro e2 W2 ⟨rfl, rfl⟩
    exact ⟨rfl, S, Pr.mono ⟨F, G, h⟩ (by omega), Kept.refl _ _⟩
  | false =>
    by_cases hb : burnE S.fused S.fuse = 0
    · refine (Flush_dev h.dev hd hb (by omega)).mono ?_
      rintro e W1 ⟨rfl, d1, k1⟩
      refine ⟨0, rfl, hFH k1, (rFlush_go (same k1) (by omega) hd).mono ?_⟩
      rintro e2 W2 hp
      rcases hp with ⟨_, rfl, rd⟩ | ⟨hn, _⟩
      · have hds := did_same h d1 (by omega) k1 rd
        exact ⟨rfl, _, hds.1, hds.2⟩
      · exact absurd hb hn
    · refine (Flush_dev_burnt h.dev hd hb (by omega)).mono ?_
      rintro e W1 ⟨rfl, d1, k1⟩
      refine ⟨2, rfl, hFH k1, (rFlush_go (same k1) (by omega) hd).mono ?_⟩
      rintro e2 W2 hp
      rcases hp with ⟨hn, _⟩ | ⟨_, rfl, rd⟩
      · exact absurd hn hb
      · have hds := did_same h d1 (by omega) k1 rd
        exact ⟨rfl, _, hds.1, hds.2⟩
theorem Fuse_both {w0 W : World} {b rb N : Nat} {S : St} {H : Nat → Prop} (h : Pr w0 W b rb N S H) (k : Int) (k1 : -9223372036854775808 ≤ k) (k2 : k < 9223372036854775808) :
    Calls Try.prog 24 #[.pointer (some ⟨b, 0, none⟩), .int .i64 k] W (OpBoth w0 W b rb N H 25 #[.pointer (some ⟨rb, 0, none⟩), .int .i64 k]) := by
  obtain ⟨F, G, h⟩ := h
  obtain ⟨sg, sc, pv, ps, fz, hr⟩ := h.ref
  refine (Fuse_devS h.dev k k1 k2).mono ?_
  rintro e W1 ⟨rfl, d1, kk⟩
  refine ⟨_, rfl, kk.mono fun q _ hq => h.hF q hq, (SetFuse_go (hr.same fun q hq => kk.block q (h.lo q (h.hG q hq)).2 fun hf => h.ap q hf hq) k k1 k2).mono ?_⟩
  rintro e2 W2 ⟨rfl, rd⟩
  have hds := did_same h d1 (by omega) kk rd
  exact ⟨rfl, _, hds.1, hds.2⟩
/-- Both crash. -/
theorem Crash_both {w0 W : World} {b rb N : Nat} {S : St} {H : Nat → Prop} (h : Pr w0 W b rb N S H) (hN : N < 900000) (ps : List Int) (v : Value) (hv : Ints W v ps) (hvo : ps ≠ [] → ∀ pb, v.ownBlock = some pb → ¬ H pb) :
    Calls Try.prog 11 #[.pointer (some ⟨b, 0, none⟩), v] W fun e W1 => e = .returned (.tuple #[]) ∧ Kept H W W1 ∧ ∀ (a : Option Addr) (m c : Nat), (∀ A, Kept H W1 A → Ints A (.slice a m c) ps) →
      Calls Try.prog 12 #[.pointer (some ⟨rb, 0, none⟩), .slice a m c] W1 fun e2 W2 => e2 = .returned (.tuple #[]) ∧ ∃ T, Pr w0 W2 b rb (N + 2) T H ∧ Kept H W W2 := by
  obtain ⟨F, G, h⟩ := h
  obtain ⟨sg, sc, pv, qs, fz, hr⟩ := h.ref
  have hops := h.dev.bnd.1
  refine (Crash_dev h.dev (by omega) ps v hv (fun hn pb hp hf => hvo hn pb hp (h.hF pb hf))).mono ?_
  rintro e W1 ⟨rfl, d1, kk⟩
  refine ⟨rfl, kk.mono fun q _ hq => h.hF q hq, fun a m c hP => ?_⟩
  have z1 := kk.size
  refine (rCrash_go (hr.same fun q hq => kk.block q (h.lo q (h.hG q hq)).2 fun hf => h.ap q hf hq) (fun q hq => by have := (h.lo q (h.hG q hq)).2; omega) (by omega) a m c ps (fun A hA => hP A (hA.mono fun q _ hq => h.hG q hq))).mono ?_
  rintro e2 W2 ⟨rfl, rd⟩
  have hds := did_same h d1 (by omega) kk rd
  exact ⟨rfl, _, hds.1, hds.2⟩
end Go.Proofs.Ytfoanlmmjbclgaa

/-
  DERIVED. All that there is to ask of both devices.
-/
namespace Go.Proofs.Ytfoanlmmjbclgaa
open Go.RowKit
set_option linter.unusedVariables false
set_option maxRecDepth 20000

theorem KOwn.ints {w : World} {base : Nat} {v : Value} {l : List Nat} (h : KOwn w base v l) (hl : ∀ k ∈ l, k < 512) : Ints w v (l.map fun k : Nat => (k : Int)) := by
  obtain ⟨ao, cap, e, h1, h2, h3⟩ := h.at
  refine ⟨ao, cap, by rw [List.length_map]; exact e, by rw [List.length_map]; omega, fun x hx => ?_, fun hn => ?_⟩
  · obtain ⟨k, hk, rfl⟩ := List.mem_map.1 hx
    have := hl k hk
    exact ⟨by omega, by omega⟩
  · have hp : 0 < l.length := by
      rcases Nat.eq_zero_or_pos l.length with h0 | h0
      · exact absurd (by rw [List.eq_nil_of_length_eq_zero h0]; rfl) hn
      · exact h0
    obtain ⟨q, hq, hb, hlt, _, _⟩ := h3 0 hp
    refine ⟨q, 0, hq, hlt, fun i hi => ?_⟩
    rw [List.length_map] at hi
    obtain ⟨q', hq', _, _, hc, _⟩ := h3 i hi
    rw [hq] at hq'
    cases hq'
    rw [Nat.zero_add, hc, List.getElem_map]
theorem Pr.parts {w0 W : World} {b rb N : Nat} {S : St} {H : Nat → Prop} (h : Pr w0 W b rb N S H) : (∃ F, Dev W b F N S) ∧ (∃ G sg sc pv ps fz, RDAt W G rb S sg sc pv ps fz) ∧ S.safe.length ≤ 512 ∧ S.ops ≤ N := by
  obtain ⟨F, G, h⟩ := h
  obtain ⟨sg, sc, pv, ps, fz, hr⟩ := h.ref
  exact ⟨⟨F, h.dev⟩, ⟨G, sg, sc, pv, ps, fz, hr⟩, hr.n2, h.dev.bnd.1⟩
def AskPost (W : World) (e : Ending) (W' : World) : Prop := e = .returned (.bool true) ∧ Below W.heap.size W W'
set_option maxHeartbeats 8000000 in
theorem asked_go {w0 W : World} {b rb N : Nat} {S : St} {H : Nat → Prop} (h : Pr w0 W b rb N S H) (hN : N < 900000) :
    Calls Try.prog 10 #[.pointer (some ⟨b, 0, none⟩), .pointer (some ⟨rb, 0, none⟩)] W (AskPost W) := by
  obtain ⟨⟨F, hd⟩, ⟨G, sg, sc, pv, ps, fz, hr⟩, hn2, hops⟩ := h.parts
  have HP := hide h
  have PD := hide (Pending_dev hd (by omega))
  have HKB : Hid (∀ k ∈ S.keys, k < 512) := hide (fun k hk => by have := mem_keys hk; omega)
  clear h hd hr
  go_enter Try.func10, Try.ntmps10
  go_wp2_with fail
  refine (unhide PD).mono ?_
  rintro e w1 ⟨v1, rfl, hk1, b1⟩
  have K1 : Hid (KOwn w1 W.heap.size v1 S.keys) := hide hk1
  have B1 := hide b1
  obtain ⟨_, ⟨G1, sg1, sc1, pv1, ps1, fz1, hr1⟩, _, _⟩ := ((unhide HP).grown b1).parts
  have BL := hide (rBlocks_go hr1 (by omega))
  clear hk1 b1 hr1 PD
  go_wp2_with fail
  refine (unhide BL).mono ?_
  rintro e w2 ⟨v2, rfl, k2, b2⟩
  have K1b : Hid (KOwn w2 W.heap.size v1 S.keys) := hide ((unhide K1).keptB fun q _ hl => b2.block q hl)
  obtain ⟨a1, c1, e1, x1, x2, x3⟩ := (unhide K1b).at
  obtain ⟨a2, c2, e2, _⟩ := k2.at
  obtain ⟨nk, hnk⟩ : ∃ nk, nk = S.keys.length := ⟨_, rfl⟩
  rw [← hnk] at e1 e2 x1
  have SI := SameInts_go w2 a1 a2 nk nk c1 c2 (S.keys.map fun k : Nat => (k : Int)) (by rw [← e1]; exact (unhide K1b).ints (unhide HKB)) (by rw [← e2]; exact k2.ints (unhide HKB))
  have SI := hide SI
  have B2 : Hid (Below W.heap.size W w2) := hide ((unhide B1).trans (b2.mono (unhide B1).size))
  have HNK := hide hnk
  have hnkI : (nk : Int) ≤ 9223372036854775807 := by omega
  have HROW : Hid (∀ i, i < nk → ∃ q, a1 = some ⟨q, 0, none⟩ ∧ W.heap.size ≤ q ∧ ∃ cur, w2.heap[q]? = some (.cells cur 3 (0, 0)) ∧ nk ≤ cur.size) := hide (fun i hi => by
    obtain ⟨q, hq, hb, hl, hc, _⟩ := x3 i (by omega)
    subst hq
    have h1 := (unhide K1b)
    rw [e1] at h1
    rcases h1.2 with ⟨hh, _⟩ | ⟨g, cap, cur, hv, hb2, hg, hn, hm, hs, ht⟩
    · cases hh
    · cases hv
      refine ⟨q, rfl, hb, cur, hg, ?_⟩
      rw [hs]
      omega)
  subst e1 e2
  clear K1 K1b k2 b2 x3 hnk BL
  go_wp2_with fail
  refine (unhide SI).mono ?_
  rintro e w3 ⟨rfl, kd, rfl⟩
  have B3 : Hid (Below W.heap.size W (w2.drewN kd)) := hide (below_drewN (unhide B2) kd)
  have R3 : Hid (∀ i, i < nk → ∃ q, a1 = some ⟨q, 0, none⟩ ∧ W.heap.size ≤ q ∧ ∃ cur, (w2.drewN kd).heap[q]? = some (.cells cur 3 (0, 0)) ∧ nk ≤ cur.size) := hide (unhide HROW)
  obtain ⟨W3, hW3⟩ : ∃ W3, W3 = w2.drewN kd := ⟨_, rfl⟩
  rw [← hW3] at B3 R3 ⊢
  clear SI B2 HROW hW3
  go_wp2_with fail
  go_loopw [7] (fun i Wr => ∃ (j : Nat), i = .int .i64 (j : Int) ∧ j ≤ nk ∧ Hid (Below W.heap.size W Wr) ∧ Hid (∀ i, i < nk → ∃ q, a1 = some ⟨q, 0, none⟩ ∧ W.heap.size ≤ q ∧ ∃ cur, Wr.heap[q]? = some (.cells cur 3 (0, 0)) ∧ nk ≤ cur.size)) (fun i _ => nk - (intOf i).toNat)
  case atStart => exact ⟨0, rfl, by omega, B3, R3⟩
  case round =>
    obtain ⟨j, rfl, hj, BJ, RJ⟩ := hrel
    clear B3 R3
    by_cases hlt : j < nk
    · have hltI : (j : Int) < (nk : Int) := by omega
      obtain ⟨q, hq, hqb, cur, hc, hs⟩ := unhide RJ j hlt
      subst hq
      have c0 : wr.cell? ⟨q, j, none⟩ = some (cur[j]'(by omega)) := by rw [cell_of_row _ _ _ _ _ _ hc]; exact Array.getElem?_eq_getElem (by omega)
      obtain ⟨old, hold⟩ : ∃ o, o = cur[j]'(by omega) := ⟨_, rfl⟩
      rw [← hold] at c0
      have f0 := frozen_of_row wr q j _ _ hc
      have FN : Hid (Below W.heap.size W (wr.setCell ⟨q, j, none⟩ (.int .i64 (-4))) ∧ ∀ i, i < nk → ∃ q', some (⟨q, 0, none⟩ : Addr) = some ⟨q', 0, none⟩ ∧ W.heap.size ≤ q' ∧ ∃ cur, (wr.setCell ⟨q, j, none⟩ (.int .i64 (-4))).heap[q']? = some (.cells cur 3 (0, 0)) ∧ nk ≤ cur.size) := hide ⟨(unhide BJ).setCell hqb _, fun i hi => ⟨q, rfl, hqb, _, heap_setCell_same wr q j _ _ _ hc, by rw [Array.size_setIfInBounds]; exact hs⟩⟩
      have j0 : (0 : Int) ≤ (j : Int) := Int.natCast_nonneg _
      clear hc hs hold BJ RJ hqb
      go_wp2
      go_roundw
      case rel => exact ⟨j + 1, by go_num, by omega, hide (unhide FN).1, hide (unhide FN).2⟩
      case measure => simp [intOf]; omega
    · have hltI : ¬ (j : Int) < (nk : Int) := by omega
      have hpw : Pr w0 wr b rb N S H := (unhide HP).same (unhide BJ).size fun q hq => (unhide BJ).block q ((unhide HP).lo q hq).2
      obtain ⟨⟨F2, hd2⟩, ⟨G2, sg2, sc2, pv2, ps2, fz2, hr2⟩, _, _⟩ := hpw.parts
      obtain ⟨h0, h1, h2, h3, h4, _⟩ := hr2.head
      obtain ⟨g0, cc0, m0, vf0, D0, hi⟩ := hd2
      have D1 : Hid (∀ k, Calls Try.prog 17 #[.pointer (some ⟨b, 0, none⟩)] (wr.drewN k) fun e w' => e = .returned (.int .i64 (S.safe.length : Int)) ∧ w' = wr.drewN k) := hide (fun k => (Blocks_dev (w := wr.drewN k) hi.dev).mono fun e w' ⟨p1, p2⟩ => ⟨p1, p2.symm⟩)
      have D2 : Hid (∀ k, Calls Try.prog 28 #[.pointer (some ⟨b, 0, none⟩)] (wr.drewN k) fun e w' => e = .returned (.bool S.down) ∧ w' = wr.drewN k) := hide (fun k => (Down_dev (w := wr.drewN k) hi.dev).mono fun e w' ⟨p1, p2⟩ => ⟨p1, p2.symm⟩)
      have D3 : Hid (∀ k, Calls Try.prog 29 #[.pointer (some ⟨b, 0, none⟩)] (wr.drewN k) fun e w' => e = .returned (.int .i64 S.ops) ∧ w' = wr.drewN k) := hide (fun k => (Ops_dev (w := wr.drewN k) hi.dev).mono fun e w' ⟨p1, p2⟩ => ⟨p1, p2.symm⟩)
      obtain ⟨Ns, hNs⟩ : ∃ n : Nat, n = S.safe.length := ⟨_, rfl⟩
      obtain ⟨dn, hdn⟩ : ∃ n, n = S.down := ⟨_, rfl⟩
      obtain ⟨op, hop⟩ : ∃ n, n = S.ops := ⟨_, rfl⟩
      rw [← hNs] at D1 h0
      rw [← hdn] at D2 h3
      rw [← hop] at D3 h4
      have e1 : ((Ns : Int) == (Ns : Int)) = true := by simp
      have e2 : (dn == dn) = true := by simp
      have e3 : (op == op) = true := by simp
      have hNI : (Ns : Int) ≤ 9223372036854775807 := by omega
      clear hpw hr2 hi hNs hdn hop RJ h1 h2
      go_wp2_with fail
      go_quiet (first | (go_at_call 17; exact Calls.quiet_of_same (unhide D1 _)) | (go_at_call 28; exact Calls.quiet_of_same (unhide D2 _)) | (go_at_call 29; exact Calls.quiet_of_same (unhide D3 _)))
      go_wp2
      go_ret
      exact ⟨by first | rfl | simp [e1, e2, e3], below_drewN (unhide BJ) _⟩
end Go.Proofs.Ytfoanlmmjbclgaa
