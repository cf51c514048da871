/-
  DERIVED. The walk of tooMany.
-/
import Derived.Test.YtingpmgpjmlioaaGreatDoorRuUc
namespace Go.Proofs.YtingpmgpjmlioaaGreatDoor
open Go.RowKit Go.Shelf
set_option linter.unusedVariables false
attribute [local go_sem] Oper.semAt_some

def b1 (h : HaV) : Bool := decide (16 < h.needs.length) || decide (16 < h.cases.length)
def b2 (c : CsV) : Bool := decide (16 < c.whn.length) || decide (16 < c.emits.length)
def b3 (m : EmV) : Bool := decide (16 < m.sets.length)
def b4 (v : EvV) : Bool := decide (16 < v.sets.length) || decide (16 < v.drops.length)
def b5 (d : Nd) : Bool := manyX d.x
theorem any_mapT {α β : Type} (f : α → β) (p : β → Bool) (l : List α) : (l.map f).any p = l.any (fun d => p (f d)) := by rw [List.any_map]; rfl
theorem tooMany_v (hs : List HaV) (vs : List EvV) : tooManyR (hs.map HaV.p) (vs.map EvV.p) = (decide (32 < hs.length) || decide (32 < vs.length) || hs.any b1 || (casesV hs).any b2 || (emitsV hs).any b3 || vs.any b4 || (exprsV hs vs).any b5) := by
  have h1 : (hs.map HaV.p).any (fun h => decide (16 < h.needs.length) || decide (16 < h.cases.length)) = hs.any b1 := by
    rw [any_mapT]; congr 1; funext h; rw [show (HaV.p h).needs.length = h.needs.length from rfl, show (HaV.p h).cases.length = h.cases.length by simp [HaV.p]]; rfl
  have h2 : (casesP (hs.map HaV.p)).any (fun c => decide (16 < c.whn.length) || decide (16 < c.emits.length)) = (casesV hs).any b2 := by
    rw [← casesV_p, List.any_map]; congr 1; funext h; rw [Bool.eq_iff_iff]; simp [b2, CsV.p]
  have h3 : (emitsP (hs.map HaV.p)).any (fun m => decide (16 < m.sets.length)) = (emitsV hs).any b3 := by
    rw [← emitsV_p, List.any_map]; congr 1; funext h; rw [Bool.eq_iff_iff]; simp [b3, EmV.p]
  have h4 : (vs.map EvV.p).any (fun v => decide (16 < v.sets.length) || decide (16 < v.drops.length)) = vs.any b4 := by
    rw [any_mapT]; congr 1; funext h; rw [show (EvV.p h).drops.length = h.drops.length from rfl, show (EvV.p h).sets.length = h.sets.length by simp [EvV.p]]; rfl
  have h5 : (exprsP (hs.map HaV.p) (vs.map EvV.p)).any manyX = (exprsV hs vs).any b5 := by
    rw [← exprsV_p]; unfold b5; exact any_mapT _ _ _
  unfold tooManyR
  rw [h1, h2, h3, h4, h5, List.length_map, List.length_map]

set_option maxHeartbeats 8000000 in
set_option maxRecDepth 100000 in
theorem tooMany_any (ha : Option Addr) (hc : Nat) (hs : List HaV) (va : Option Addr) (vc : Nat) (vs : List EvV) (w : World) (ht : TabR w ha hc hs va vc vs) :
    Calls Tryz.prog 17 #[.agg (rulV ha hs.length hc va vs.length vc)] w fun e w' => e = .returned (.bool (tooManyR (hs.map HaV.p) (vs.map EvV.p))) ∧ Below w.heap.size w w' := by
  have hmf : ∀ (fn : Fn) (first cap : Array Value) (w : World), (Instr.makeFunc fn first cap).run Tryz.prog w = .ok (.func fn first cap) w := fun _ _ _ _ => rfl
  obtain ⟨-, hn1, hn2⟩ := ht.hand.len
  obtain ⟨-, hv1, hv2⟩ := ht.evol.len
  have hu := UB.new w ha hs.length hc va vs.length vc
  obtain ⟨w2, hw2⟩ : ∃ w2, w2 = (w.alloc (.cells (rulV ha hs.length hc va vs.length vc) 25)).alloc (.cells #[.bool false] 4) := ⟨_, rfl⟩
  rw [← hw2] at hu
  have HW := hide hw2
  have HT := hide (ht.grown hu.b2)
  obtain ⟨R, hR⟩ : ∃ R, R = tooManyR (hs.map HaV.p) (vs.map EvV.p) := ⟨_, rfl⟩
  rw [← hR]
  have HR := hide (hR.trans (tooMany_v hs vs))
  have HU := hide hu
  have hqlo : w.heap.size + 1 < w2.heap.size := by have := hu.s2; omega
  have hwlo : w.heap.size ≤ w2.heap.size := hu.b2.size
  obtain ⟨N, hN⟩ : ∃ N, N = hs.length := ⟨_, rfl⟩
  obtain ⟨M, hM⟩ : ∃ M, M = vs.length := ⟨_, rfl⟩
  have HN := hide hN
  have HM := hide hM
  rw [← hN] at hn1 HU HW ⊢
  rw [← hM] at hv1 HU HW ⊢
  clear ht hu hw2 hR hN hM
  refine (callsIn_wide (n := 3)).1 ?_
  refine callsIn_of_wp_marks Tryz.func17 rfl trivial ?_ rfl
  simp only [Tryz.ntmps17, List.size_toArray, List.length_cons, List.length_nil, Nat.reduceAdd, Nat.reduceSub, Array.replicate_succ, Array.replicate_zero, List.push_toArray, List.append_toArray, List.nil_append, List.cons_append]
  have hdN : decide ((32 : Int) < (N : Int)) = decide (32 < N) := dec16 N 32
  have hdM : decide ((32 : Int) < (M : Int)) = decide (32 < M) := dec16 M 32
  have HD : Hid (decide ((32 : Int) < (N : Int)) = true ∨ decide ((32 : Int) < (M : Int)) = true → R = true) := hide (fun h => by
    rw [unhide HR, ← unhide HN, ← unhide HM, ← hdN, ← hdM]
    rcases h with h | h <;> simp [h])
  have HD0 : Hid (decide ((32 : Int) < (N : Int)) = false → decide ((32 : Int) < (M : Int)) = false → decide (32 < hs.length) = false ∧ decide (32 < vs.length) = false) := hide (fun h h' => by
    rw [← unhide HN, ← unhide HM, ← hdN, ← hdM]; exact ⟨h, h'⟩)
  clear hdN hdM
  have HB0 : Hid (Below w2.heap.size w2 w2) := hide (Below.refl _ _)
  have HMK0 : Hid (Mk w2.heap.size [] w2) := hide (Mk.nil _ _)
  cases h1 : decide ((32 : Int) < (N : Int)) with
  | true =>
    have e := unhide HD (.inl h1)
    subst e
    gi_wp2
    exact leave_b rfl rfl hqlo hwlo [] _ (by simp) (Mk.nil _ _) (boxes2 _ _ _).2 (below2 _ _ _)
  | false =>
  cases h2 : decide ((32 : Int) < (M : Int)) with
  | true =>
    have e := unhide HD (.inr h2)
    subst e
    gi_wp2
    exact leave_b rfl rfl hqlo hwlo [] _ (by simp) (Mk.nil _ _) (boxes2 _ _ _).2 (below2 _ _ _)
  | false =>
  have HZ0 := hide (unhide HD0 h1 h2)

  have HL1 : Hid (SlOf 3 HaR w2 (.slice ha N hc) hs) := hide (by have := (unhide HT).hand; rw [← unhide HN] at this; exact this)
  gi_wp2
  gi_loopw [4, 23] (fun _ i wr => ∃ (k : Nat), i = .int .i64 k ∧ k ≤ N ∧ Hid ((hs.take k).any b1 = false) ∧ Hid (Below w2.heap.size w2 wr) ∧ Hid (Mk w2.heap.size [] wr)) (fun _ i _ => N - (intOf i).toNat)
  case atStart => exact ⟨0, rfl, by omega, hide rfl, by rw [← unhide HW]; exact HB0, by rw [← unhide HW]; exact HMK0⟩
  case round =>
    obtain ⟨k, rfl, hk, HA1, HB1, HMK1⟩ := hrel
    by_cases hlt : k < N
    · have hlt' : (k : Int) < (N : Int) := by omega
      obtain ⟨x, huk⟩ : ∃ u, hs[k]? = some u := ⟨_, List.getElem?_eq_getElem (by have := unhide HN; omega)⟩
      have HUk := hide huk
      obtain ⟨b, off, hma, -, d0, d1, d2, -⟩ := ((unhide HL1).grown (fun _ _ _ _ _ => HaR.grown) (unhide HB1)).at huk
      rw [hma]
      have hb4 : Below wr.heap.size wr (wr.alloc (.cells x.v 62)) := (Below.refl _ _).alloc (Nat.le_refl _) _
      have HB4 := hide hb4
      obtain ⟨t0, t1⟩ := (unhide HU).res ((unhide HB1).trans (hb4.mono (unhide HB1).size))
      dsimp only [HaV.v] at t0 t1
      clear huk hb4
      have hg : b1 x = (decide (16 < x.needs.length) || decide (16 < x.cases.length)) := rfl
      have e1 : decide ((16 : Int) < (x.needs.length : Int)) = decide (16 < x.needs.length) := dec16 _ 16
      have e2 : decide ((16 : Int) < (x.cases.length : Int)) = decide (16 < x.cases.length) := dec16 _ 16
      have HO := hide ((unhide HU).out (unhide HB1) (unhide HB4) (Nat.le_refl _) (unhide HMK1) true)
      dsimp only [HaV.v] at HO
      rw [← e1, ← e2] at hg
      have HG := hide hg
      have HNx : Hid (b1 x = false → (hs.take (k + 1)).any b1 = false) := hide (fun h => any_take (unhide HUk) (unhide HA1) h)
      have HTx : Hid (b1 x = true → R = true) := hide (fun h => by rw [unhide HR]; simp [any_at (unhide HUk) h])
      clear hg e1 e2
      cases h3 : decide ((16 : Int) < (x.needs.length : Int)) with
      | true =>
        have e := unhide HTx (by rw [unhide HG, h3]; rfl)
        subst e
        gi_wp2
        exact leave_b rfl rfl hqlo hwlo [] _ (by simp) (unhide HO).2.2.2 (unhide HO).2.1 (unhide HO).2.2.1
      | false =>
      cases h4 : decide ((16 : Int) < (x.cases.length : Int)) with
      | true =>
        have e := unhide HTx (by rw [unhide HG, h4]; simp)
        subst e
        gi_wp2
        exact leave_b rfl rfl hqlo hwlo [] _ (by simp) (unhide HO).2.2.2 (unhide HO).2.1 (unhide HO).2.2.1
      | false =>
      have HA2 := hide (unhide HNx (by rw [unhide HG, h3, h4]; rfl))
      gi_wp2
      go_roundw
      case rel => exact ⟨k + 1, by congr 1, by omega, HA2, hide ((unhide HB1).trans ((unhide HB4).mono (unhide HB1).size)), hide ((unhide HMK1).grown (unhide HB4))⟩
      case measure => simp [intOf]; omega

    · have hlt' : ¬ (k : Int) < (N : Int) := by omega
      replace HA1 : Hid (hs.any b1 = false) := hide (by have := unhide HA1; rwa [List.take_of_length_le (by have := unhide HN; omega)] at this)

      obtain ⟨r0, r1⟩ := (unhide HU).cells (unhide HB1)
      have hb2 : Below wr.heap.size wr (wr.alloc (.cells (rulV ha N hc va M vc) 25)) := (Below.refl _ _).alloc (Nat.le_refl _) _
      have hq2 : (wr.alloc (.cells (rulV ha N hc va M vc) 25)).heap[wr.heap.size]? = some (.cells (rulV ha N hc va M vc) 25) := heap_alloc_new _ _
      have hbb2 := (unhide HB1).trans (hb2.mono (unhide HB1).size)
      have hmm2 := (unhide HMK1).grown hb2
      obtain ⟨Y2, hY2⟩ : ∃ Y, Y = wr.alloc (.cells (rulV ha N hc va M vc) 25) := ⟨_, rfl⟩
      rw [← hY2] at hq2 hbb2 hmm2
      have HY2 := hide hY2
      have HYB2 := hide hbb2
      have HYM2 := hide hmm2
      have HG2 := hide (cases_goes wr.heap.size ha hc hs va vs.length vc Y2 (by rw [← unhide HN, ← unhide HM]; exact hq2) ((unhide HT).grown hbb2).hand)
      clear hb2 hq2 hbb2 hmm2 hY2
      gi_wp2_with fail
      refine ⟨trivial, (callsIn_wide.2 (cases_any _ _ _ _ _ _ _)).mono ?_⟩
      rintro e w' ⟨rfl, rfl⟩
      clear r0 r1
      gi_wp2
      rw [show wr.alloc (.cells #[.slice ha N hc, .slice va M vc] 25) = Y2 from (unhide HY2).symm]
      refine range_box (gf := 85) (lb := #[.pointer (some ⟨wr.heap.size, 0, none⟩)]) rfl (enters_of Tryz.func85 (by kernel_rfl) rfl) (unhide HG2) (Below.refl _ _)
        (fun (pre : List CsV) X => pre.any b2 = false ∧ Below w2.heap.size w2 X ∧ Mk w2.heap.size [] X)
        (fun c pre X => c = .ret ∧ pre.any b2 = true ∧ X.heap[w.heap.size + 1]? = some (.cells #[.bool true] 4) ∧ Below w.heap.size w X ∧ Mk w2.heap.size [] X)
        (fun s A C h hb => ⟨h.1, h.2.1.trans (hb.mono (unhide HYB2).size), Mk.kept (B := 0) (unhide HYM2) h.2.2 hb⟩)
        (fun c s A C h hb => by
          obtain ⟨h1, h2, h3, h4, h5⟩ := h
          have hlt : w.heap.size + 1 < Y2.heap.size := by have := (unhide HYB2).size; omega
          exact ⟨h1, h2, (hb.block _ hlt).trans h3, h4.trans (hb.mono (Nat.le_trans hwlo (unhide HYB2).size)), Mk.kept (B := 0) (unhide HYM2) h5 hb⟩)
        ⟨rfl, unhide HYB2, unhide HYM2⟩ 66 5 ?assign2 ?body2 ?done2 ?stop2
      case assign2 =>
        intro l' x X K hK
        simp only [rdAct, List.setIfInBounds_toArray, List.set_cons_zero, List.set_cons_succ, CsV.v] at hK ⊢
        gi_wp2
        exact hK
      case stop2 =>
        rintro D c pre X hD hpre ⟨rfl, ha1, hrow, hbw, hmk⟩ hK
        have e : R = true := by rw [unhide HR]; simp [any_of_pre hpre ha1]
        subst e
        have hD' : w2.heap.size ≤ D := Nat.le_trans (unhide HYB2).size hD
        have hnd : (D :: []).Nodup := by
          simp
        have hmk2 := hmk.cons hD' hK
        gi_wp2
        exact leave_b rfl rfl hqlo hwlo (D :: []) X hnd hmk2 hrow hbw
      case body2 =>
        rintro l pre x Bx Z ⟨hp0, hbZ, hmZ⟩ hbx hpre
        have HP0 := hide hp0
        have HBZ := hide hbZ
        have HMZ := hide hmZ
        obtain ⟨t0, t1⟩ := (unhide HU).res hbZ
        have HMem : Hid (x ∈ casesV hs) := hide (hpre.subset (by simp))
        have hlo2 : w2.heap.size ≤ Y2.heap.size := (unhide HYB2).size
        clear hp0 hbZ hmZ hpre
        simp only [rdAct, List.setIfInBounds_toArray, List.set_cons_zero, List.set_cons_succ, CsV.v]
        obtain ⟨x0, x1, x2, -⟩ := cells3 hbx
        have e1 : decide ((16 : Int) < (x.whn.length : Int)) = decide (16 < x.whn.length) := dec16 _ 16
        have e2 : decide ((16 : Int) < (x.emits.length : Int)) = decide (16 < x.emits.length) := dec16 _ 16
        have hg : b2 x = (decide (16 < x.whn.length) || decide (16 < x.emits.length)) := rfl
        rw [← e1, ← e2] at hg
        have HG := hide hg
        have HO := hide ((unhide HU).out (unhide HBZ) (Below.refl _ _) hlo2 (unhide HMZ) true)
        clear hg e1 e2 hbx
        cases h3 : decide ((16 : Int) < (x.whn.length : Int)) with
        | true =>
          have hb := any_snoc_t (pre := pre) (p := b2) (x := x) (by rw [unhide HG, h3]; rfl)
          gi_wp2
          exact ⟨(unhide HO).1, rfl, hb, (unhide HO).2.1, (unhide HO).2.2.1, (unhide HO).2.2.2⟩
        | false =>
        cases h4 : decide ((16 : Int) < (x.emits.length : Int)) with
        | true =>
          have hb := any_snoc_t (pre := pre) (p := b2) (x := x) (by rw [unhide HG, h4]; simp)
          gi_wp2
          exact ⟨(unhide HO).1, rfl, hb, (unhide HO).2.1, (unhide HO).2.2.1, (unhide HO).2.2.2⟩
        | false =>
        have hb := any_snoc_f (unhide HP0) (by rw [unhide HG, h3, h4]; rfl)
        gi_wp2
        exact ⟨Below.refl _ _, hb, unhide HBZ, unhide HMZ⟩

      case done2 =>
        rintro D2 X2 hD2 ⟨ha2, hbX2, hmX2⟩ hK2
        have HA2 := hide ha2
        have HB2 := hide hbX2
        have hlt2 : Y2.heap.size ≤ D2 := hD2
        have HMK2 := hide (hmX2.cons (Nat.le_trans (unhide HYB2).size hD2) hK2)
        have HND2 : Hid ((D2 :: []).Nodup) := hide (by
          simp)
        clear ha2 hbX2 hmX2 hK2 hD2

        obtain ⟨r0, r1⟩ := (unhide HU).cells (unhide HB2)
        have hb3 : Below X2.heap.size X2 (X2.alloc (.cells (rulV ha N hc va M vc) 25)) := (Below.refl _ _).alloc (Nat.le_refl _) _
        have hq3 : (X2.alloc (.cells (rulV ha N hc va M vc) 25)).heap[X2.heap.size]? = some (.cells (rulV ha N hc va M vc) 25) := heap_alloc_new _ _
        have hbb3 := (unhide HB2).trans (hb3.mono (unhide HB2).size)
        have hmm3 := (unhide HMK2).grown hb3
        obtain ⟨Y3, hY3⟩ : ∃ Y, Y = X2.alloc (.cells (rulV ha N hc va M vc) 25) := ⟨_, rfl⟩
        rw [← hY3] at hq3 hbb3 hmm3
        have HY3 := hide hY3
        have HYB3 := hide hbb3
        have HYM3 := hide hmm3
        have HG3 := hide (emits_goes X2.heap.size ha hc hs va vc vs Y3 (by rw [← unhide HN, ← unhide HM]; exact hq3) ((unhide HT).grown hbb3))
        clear hb3 hq3 hbb3 hmm3 hY3
        gi_wp2_with fail
        refine ⟨trivial, (callsIn_wide.2 (emits_any _ _ _ _ _ _ _)).mono ?_⟩
        rintro e w' ⟨rfl, rfl⟩
        clear r0 r1
        gi_wp2
        rw [show X2.alloc (.cells #[.slice ha N hc, .slice va M vc] 25) = Y3 from (unhide HY3).symm]
        refine range_box (gf := 86) (lb := #[.pointer (some ⟨X2.heap.size, 0, none⟩)]) rfl (enters_of Tryz.func86 (by kernel_rfl) rfl) (unhide HG3) (Below.refl _ _)
          (fun (pre : List EmV) X => pre.any b3 = false ∧ Below w2.heap.size w2 X ∧ Mk w2.heap.size [D2] X)
          (fun c pre X => c = .ret ∧ pre.any b3 = true ∧ X.heap[w.heap.size + 1]? = some (.cells #[.bool true] 4) ∧ Below w.heap.size w X ∧ Mk w2.heap.size [D2] X)
          (fun s A C h hb => ⟨h.1, h.2.1.trans (hb.mono (unhide HYB3).size), Mk.kept (B := 0) (unhide HYM3) h.2.2 hb⟩)
          (fun c s A C h hb => by
            obtain ⟨h1, h2, h3, h4, h5⟩ := h
            have hlt : w.heap.size + 1 < Y3.heap.size := by have := (unhide HYB3).size; omega
            exact ⟨h1, h2, (hb.block _ hlt).trans h3, h4.trans (hb.mono (Nat.le_trans hwlo (unhide HYB3).size)), Mk.kept (B := 0) (unhide HYM3) h5 hb⟩)
          ⟨rfl, unhide HYB3, unhide HYM3⟩ 94 6 ?assign3 ?body3 ?done3 ?stop3
        case assign3 =>
          intro l' x X K hK
          simp only [rdAct, List.setIfInBounds_toArray, List.set_cons_zero, List.set_cons_succ, EmV.v] at hK ⊢
          gi_wp2
          exact hK
        case stop3 =>
          rintro D c pre X hD hpre ⟨rfl, ha1, hrow, hbw, hmk⟩ hK
          have e : R = true := by rw [unhide HR]; simp [any_of_pre hpre ha1]
          subst e
          have hD' : w2.heap.size ≤ D := Nat.le_trans (unhide HYB3).size hD
          have hnd : (D :: [D2]).Nodup := by
            rw [List.nodup_cons]
            refine ⟨fun hin => ?_, unhide HND2⟩
            have h1 := (Array.getElem?_eq_some_iff.1 (unhide HYM3 _ hin).2).1
            omega
          have hmk2 := hmk.cons hD' hK
          gi_wp2
          exact leave_b rfl rfl hqlo hwlo (D :: [D2]) X hnd hmk2 hrow hbw
        case body3 =>
          rintro l pre x Bx Z ⟨hp0, hbZ, hmZ⟩ hbx hpre
          have HP0 := hide hp0
          have HBZ := hide hbZ
          have HMZ := hide hmZ
          obtain ⟨t0, t1⟩ := (unhide HU).res hbZ
          have HMem : Hid (x ∈ emitsV hs) := hide (hpre.subset (by simp))
          have hlo3 : w2.heap.size ≤ Y3.heap.size := (unhide HYB3).size
          clear hp0 hbZ hmZ hpre
          simp only [rdAct, List.setIfInBounds_toArray, List.set_cons_zero, List.set_cons_succ, EmV.v]
          have x1 : Z.cell? ⟨Bx, 1, none⟩ = some (.slice x.a x.sets.length x.c) := (cell_of_row _ _ _ _ _ _ hbx).trans rfl
          have e1 : decide ((16 : Int) < (x.sets.length : Int)) = decide (16 < x.sets.length) := dec16 _ 16
          have hg : b3 x = decide (16 < x.sets.length) := rfl
          rw [← e1] at hg
          have HG := hide hg
          have HO := hide ((unhide HU).out (unhide HBZ) (Below.refl _ _) hlo3 (unhide HMZ) true)
          clear hg e1 hbx
          cases h3 : decide ((16 : Int) < (x.sets.length : Int)) with
          | true =>
            have hb := any_snoc_t (pre := pre) (p := b3) (x := x) (by rw [unhide HG, h3])
            gi_wp2
            exact ⟨(unhide HO).1, rfl, hb, (unhide HO).2.1, (unhide HO).2.2.1, (unhide HO).2.2.2⟩
          | false =>
          have hb := any_snoc_f (unhide HP0) (by rw [unhide HG, h3])
          gi_wp2
          exact ⟨Below.refl _ _, hb, unhide HBZ, unhide HMZ⟩

        case done3 =>
          rintro D3 X3 hD3 ⟨ha3, hbX3, hmX3⟩ hK3
          have HA3 := hide ha3
          have HB3 := hide hbX3
          have hlt3 : Y3.heap.size ≤ D3 := hD3
          have HMK3 := hide (hmX3.cons (Nat.le_trans (unhide HYB3).size hD3) hK3)
          have HND3 : Hid ((D3 :: [D2]).Nodup) := hide (by
            rw [List.nodup_cons]
            refine ⟨fun hin => ?_, unhide HND2⟩
            have h1 := (Array.getElem?_eq_some_iff.1 (unhide HYM3 _ hin).2).1
            omega)
          clear ha3 hbX3 hmX3 hK3 hD3

          obtain ⟨r0, r1⟩ := (unhide HU).cells (unhide HB3)
          have HL4 : Hid (SlOf 3 EvR w2 (.slice va M vc) vs) := hide (by have := (unhide HT).evol; rw [← unhide HM] at this; exact this)
          gi_wp2
          gi_loopw [8, 61] (fun _ i wr => ∃ (k : Nat), i = .int .i64 k ∧ k ≤ M ∧ Hid ((vs.take k).any b4 = false) ∧ Hid (Below w2.heap.size w2 wr) ∧ Hid (Mk w2.heap.size [D3, D2] wr)) (fun _ i _ => M - (intOf i).toNat)
          case atStart => exact ⟨0, rfl, by omega, hide rfl, HB3, HMK3⟩
          case round =>
            obtain ⟨k, rfl, hk, HA4, HB4s, HMK4⟩ := hrel
            by_cases hlt : k < M
            · have hlt' : (k : Int) < (M : Int) := by omega
              obtain ⟨x, huk⟩ : ∃ u, vs[k]? = some u := ⟨_, List.getElem?_eq_getElem (by have := unhide HM; omega)⟩
              have HUk := hide huk
              obtain ⟨b, off, hma, -, d0, d1, d2, -⟩ := ((unhide HL4).grown (fun _ _ _ _ _ => EvR.grown) (unhide HB4s)).at huk
              rw [hma]
              have hb4 : Below wr.heap.size wr (wr.alloc (.cells x.v 74)) := (Below.refl _ _).alloc (Nat.le_refl _) _
              have HB4 := hide hb4
              obtain ⟨t0, t1⟩ := (unhide HU).res ((unhide HB4s).trans (hb4.mono (unhide HB4s).size))
              dsimp only [EvV.v] at t0 t1
              clear huk hb4
              have hg : b4 x = (decide (16 < x.sets.length) || decide (16 < x.drops.length)) := rfl
              have e1 : decide ((16 : Int) < (x.sets.length : Int)) = decide (16 < x.sets.length) := dec16 _ 16
              have e2 : decide ((16 : Int) < (x.drops.length : Int)) = decide (16 < x.drops.length) := dec16 _ 16
              have HO := hide ((unhide HU).out (unhide HB4s) (unhide HB4) (Nat.le_refl _) (unhide HMK4) true)
              dsimp only [EvV.v] at HO
              rw [← e1, ← e2] at hg
              have HG := hide hg
              have HNx : Hid (b4 x = false → (vs.take (k + 1)).any b4 = false) := hide (fun h => any_take (unhide HUk) (unhide HA4) h)
              have HTx : Hid (b4 x = true → R = true) := hide (fun h => by rw [unhide HR]; simp [any_at (unhide HUk) h])
              clear hg e1 e2
              cases h3 : decide ((16 : Int) < (x.sets.length : Int)) with
              | true =>
                have e := unhide HTx (by rw [unhide HG, h3]; rfl)
                subst e
                gi_wp2
                exact leave_b rfl rfl hqlo hwlo [D3, D2] _ (unhide HND3) (unhide HO).2.2.2 (unhide HO).2.1 (unhide HO).2.2.1
              | false =>
              cases h4 : decide ((16 : Int) < (x.drops.length : Int)) with
              | true =>
                have e := unhide HTx (by rw [unhide HG, h4]; simp)
                subst e
                gi_wp2
                exact leave_b rfl rfl hqlo hwlo [D3, D2] _ (unhide HND3) (unhide HO).2.2.2 (unhide HO).2.1 (unhide HO).2.2.1
              | false =>
              have HA2 := hide (unhide HNx (by rw [unhide HG, h3, h4]; rfl))
              gi_wp2
              go_roundw
              case rel => exact ⟨k + 1, by congr 1, by omega, HA2, hide ((unhide HB4s).trans ((unhide HB4).mono (unhide HB4s).size)), hide ((unhide HMK4).grown (unhide HB4))⟩
              case measure => simp [intOf]; omega

            · have hlt' : ¬ (k : Int) < (M : Int) := by omega
              replace HA4 : Hid (vs.any b4 = false) := hide (by have := unhide HA4; rwa [List.take_of_length_le (by have := unhide HM; omega)] at this)

              obtain ⟨r0, r1⟩ := (unhide HU).cells (unhide HB4s)
              have hb5 : Below wr.heap.size wr (wr.alloc (.cells (rulV ha N hc va M vc) 25)) := (Below.refl _ _).alloc (Nat.le_refl _) _
              have hq5 : (wr.alloc (.cells (rulV ha N hc va M vc) 25)).heap[wr.heap.size]? = some (.cells (rulV ha N hc va M vc) 25) := heap_alloc_new _ _
              have hbb5 := (unhide HB4s).trans (hb5.mono (unhide HB4s).size)
              have hmm5 := (unhide HMK4).grown hb5
              obtain ⟨Y5, hY5⟩ : ∃ Y, Y = wr.alloc (.cells (rulV ha N hc va M vc) 25) := ⟨_, rfl⟩
              rw [← hY5] at hq5 hbb5 hmm5
              have HY5 := hide hY5
              have HYB5 := hide hbb5
              have HYM5 := hide hmm5
              have HG5 := hide (expressions_goes wr.heap.size ha hc hs va vc vs Y5 (by rw [← unhide HN, ← unhide HM]; exact hq5) ((unhide HT).grown hbb5))
              clear hb5 hq5 hbb5 hmm5 hY5
              gi_wp2_with fail
              refine ⟨trivial, (callsIn_wide.2 (expressions_any _ _ _ _ _ _ _)).mono ?_⟩
              rintro e w' ⟨rfl, rfl⟩
              clear r0 r1
              gi_wp2
              rw [show wr.alloc (.cells #[.slice ha N hc, .slice va M vc] 25) = Y5 from (unhide HY5).symm]
              refine range_box (gf := 87) (lb := #[.pointer (some ⟨wr.heap.size, 0, none⟩)]) rfl (enters_of Tryz.func87 (by kernel_rfl) rfl) (unhide HG5) (Below.refl _ _)
                (fun (pre : List Nd) X => pre.any b5 = false ∧ Below w2.heap.size w2 X ∧ Mk w2.heap.size [D3, D2] X)
                (fun c pre X => c = .ret ∧ pre.any b5 = true ∧ X.heap[w.heap.size + 1]? = some (.cells #[.bool true] 4) ∧ Below w.heap.size w X ∧ Mk w2.heap.size [D3, D2] X)
                (fun s A C h hb => ⟨h.1, h.2.1.trans (hb.mono (unhide HYB5).size), Mk.kept (B := 0) (unhide HYM5) h.2.2 hb⟩)
                (fun c s A C h hb => by
                  obtain ⟨h1, h2, h3, h4, h5⟩ := h
                  have hlt : w.heap.size + 1 < Y5.heap.size := by have := (unhide HYB5).size; omega
                  exact ⟨h1, h2, (hb.block _ hlt).trans h3, h4.trans (hb.mono (Nat.le_trans hwlo (unhide HYB5).size)), Mk.kept (B := 0) (unhide HYM5) h5 hb⟩)
                ⟨rfl, unhide HYB5, unhide HYM5⟩ 44 9 ?assign5 ?body5 ?done5 ?stop5
              case assign5 =>
                intro l' x X K hK
                simp only [rdAct, List.setIfInBounds_toArray, List.set_cons_zero, List.set_cons_succ, ndv] at hK ⊢
                gi_wp2
                exact hK
              case stop5 =>
                rintro D c pre X hD hpre ⟨rfl, ha1, hrow, hbw, hmk⟩ hK
                have e : R = true := by rw [unhide HR]; simp [any_of_pre hpre ha1]
                subst e
                have hD' : w2.heap.size ≤ D := Nat.le_trans (unhide HYB5).size hD
                have hnd : (D :: [D3, D2]).Nodup := by
                  rw [List.nodup_cons]
                  refine ⟨fun hin => ?_, unhide HND3⟩
                  have h1 := (Array.getElem?_eq_some_iff.1 (unhide HYM5 _ hin).2).1
                  omega
                have hmk2 := hmk.cons hD' hK
                gi_wp2
                exact leave_b rfl rfl hqlo hwlo (D :: [D3, D2]) X hnd hmk2 hrow hbw
              case body5 =>
                rintro l pre x Bx Z ⟨hp0, hbZ, hmZ⟩ hbx hpre
                have HP0 := hide hp0
                have HBZ := hide hbZ
                have HMZ := hide hmZ
                obtain ⟨t0, t1⟩ := (unhide HU).res hbZ
                have HMem : Hid (x ∈ exprsV hs vs) := hide (hpre.subset (by simp))
                have hlo5 : w2.heap.size ≤ Y5.heap.size := (unhide HYB5).size
                clear hp0 hbZ hmZ hpre
                simp only [rdAct, List.setIfInBounds_toArray, List.set_cons_zero, List.set_cons_succ, ndv]
                have hat : x.at Z := Nd.grown ((unhide HT).ex (unhide HMem)) (unhide HBZ)
                obtain ⟨x0, x1, x2, x3, -⟩ := XBox.cells (x := x.x) (a := x.a) (c := x.c) hbx
                have HC := hide (tooGreat_any x Z hat)
                have HG : Hid (b5 x = manyX x.x) := hide rfl
                clear hbx hat
                cases h3 : manyX x.x with
                | true =>
                  have hb := any_snoc_t (pre := pre) (p := b5) (x := x) (by rw [unhide HG, h3])
                  rw [h3] at HC
                  clear h3
                  gi_wp2_with fail
                  refine ⟨trivial, (CallsIn.inRound l (callsIn_wide.2 (unhide HC))).mono ?_⟩
                  rintro e w5 ⟨rfl, b5⟩
                  have HO := hide ((unhide HU).out (unhide HBZ) b5 hlo5 (unhide HMZ) true)
                  clear t0 t1
                  obtain ⟨t0, t1⟩ := (unhide HU).res ((unhide HBZ).trans (b5.mono (unhide HBZ).size))
                  clear b5
                  gi_wp2
                  exact ⟨(unhide HO).1, rfl, hb, (unhide HO).2.1, (unhide HO).2.2.1, (unhide HO).2.2.2⟩
                | false =>
                have hb := any_snoc_f (unhide HP0) (by rw [unhide HG, h3])
                rw [h3] at HC
                clear h3
                gi_wp2_with fail
                refine ⟨trivial, (CallsIn.inRound l (callsIn_wide.2 (unhide HC))).mono ?_⟩
                rintro e w5 ⟨rfl, b5⟩
                have HB5 := hide b5
                clear b5
                gi_wp2
                exact ⟨unhide HB5, hb, (unhide HBZ).trans ((unhide HB5).mono (unhide HBZ).size), (unhide HMZ).grown (unhide HB5)⟩

              case done5 =>
                rintro D5 X5 hD5 ⟨ha5, hbX5, hmX5⟩ hK5
                have HA5 := hide ha5
                have HB5 := hide hbX5
                have hlt5 : Y5.heap.size ≤ D5 := hD5
                have HMK5 := hide (hmX5.cons (Nat.le_trans (unhide HYB5).size hD5) hK5)
                have HND5 : Hid ((D5 :: [D3, D2]).Nodup) := hide (by
                  rw [List.nodup_cons]
                  refine ⟨fun hin => ?_, unhide HND3⟩
                  have h1 := (Array.getElem?_eq_some_iff.1 (unhide HYM5 _ hin).2).1
                  omega)
                clear ha5 hbX5 hmX5 hK5 hD5

                have e : R = false := by
                  rw [unhide HR, (unhide HZ0).1, (unhide HZ0).2, unhide HA1, unhide HA2, unhide HA3, unhide HA4, unhide HA5]; rfl
                subst e
                have HO := hide ((unhide HU).out (unhide HB5) (Below.refl _ _) (Nat.le_refl _) (unhide HMK5) false)
                obtain ⟨t0, t1⟩ := (unhide HU).res (unhide HB5)
                gi_wp2
                exact leave_b rfl rfl hqlo hwlo [D5, D3, D2] _ (unhide HND5) (unhide HO).2.2.2 (unhide HO).2.1 (unhide HO).2.2.1

end Go.Proofs.YtingpmgpjmlioaaGreatDoor

namespace Go.Proofs.YtingpmgpjmlioaaGreatDoor
open Go.RowKit Go.Shelf
set_option linter.unusedVariables false
attribute [local go_sem] Oper.semAt_some

def f1 (x : CsV) : Bool := decide (200 < x.refuse.length) || (x.refuse.isEmpty == x.emits.isEmpty)
def f2 (x : CdV) : Bool := decide (x.kind < 1) || decide (4 < x.kind) || (decide (x.kind = 4) && !nmsX x.A.x)
def f3 (d : Nd) : Bool := badFormX d.x
theorem any_mapM {α β : Type} (f : α → β) (p : β → Bool) (l : List α) : (l.map f).any p = l.any (fun d => p (f d)) := by rw [List.any_map]; rfl
theorem misformed_v (hs : List HaV) (vs : List EvV) : misformedR (hs.map HaV.p) (vs.map EvV.p) = ((casesV hs).any f1 || (condsV hs).any f2 || (exprsV hs vs).any f3) := by
  have h1 : (casesP (hs.map HaV.p)).any badCase = (casesV hs).any f1 := by
    rw [← casesV_p, any_mapM]; congr 1; funext h
    unfold badCase f1
    rw [show (CsV.p h).refuse = h.refuse from rfl, show (CsV.p h).emits.isEmpty = h.emits.isEmpty by simp [CsV.p]]
  have h2 : (condsP (hs.map HaV.p)).any badCond = (condsV hs).any f2 := by
    rw [← condsV_p, any_mapM]; congr 1
  have h3 : (exprsP (hs.map HaV.p) (vs.map EvV.p)).any badFormX = (exprsV hs vs).any f3 := by
    rw [← exprsV_p]; unfold f3; exact any_mapM _ _ _
  unfold misformedR
  rw [h1, h2, h3]

set_option maxHeartbeats 8000000 in
set_option maxRecDepth 100000 in
theorem misformed_any (ha : Option Addr) (hc : Nat) (hs : List HaV) (va : Option Addr) (vc : Nat) (vs : List EvV) (w : World) (ht : TabR w ha hc hs va vc vs) :
    Calls Tryz.prog 19 #[.agg (rulV ha hs.length hc va vs.length vc)] w fun e w' => e = .returned (.bool (misformedR (hs.map HaV.p) (vs.map EvV.p))) ∧ Below w.heap.size w w' := by
  have hmf : ∀ (fn : Fn) (first cap : Array Value) (w : World), (Instr.makeFunc fn first cap).run Tryz.prog w = .ok (.func fn first cap) w := fun _ _ _ _ => rfl
  obtain ⟨-, hn1, hn2⟩ := ht.hand.len
  obtain ⟨-, hv1, hv2⟩ := ht.evol.len
  have hu := UB.new w ha hs.length hc va vs.length vc
  obtain ⟨w2, hw2⟩ : ∃ w2, w2 = (w.alloc (.cells (rulV ha hs.length hc va vs.length vc) 25)).alloc (.cells #[.bool false] 4) := ⟨_, rfl⟩
  rw [← hw2] at hu
  have HW := hide hw2
  have HT := hide (ht.grown hu.b2)
  obtain ⟨R, hR⟩ : ∃ R, R = misformedR (hs.map HaV.p) (vs.map EvV.p) := ⟨_, rfl⟩
  rw [← hR]
  have HR := hide (hR.trans (misformed_v hs vs))
  have HU := hide hu
  have hqlo : w.heap.size + 1 < w2.heap.size := by have := hu.s2; omega
  have hwlo : w.heap.size ≤ w2.heap.size := hu.b2.size
  obtain ⟨N, hN⟩ : ∃ N, N = hs.length := ⟨_, rfl⟩
  obtain ⟨M, hM⟩ : ∃ M, M = vs.length := ⟨_, rfl⟩
  have HN := hide hN
  have HM := hide hM
  rw [← hN] at hn1 HU HW ⊢
  rw [← hM] at hv1 HU HW ⊢
  clear ht hu hw2 hR hN hM
  refine (callsIn_wide (n := 3)).1 ?_
  refine callsIn_of_wp_marks Tryz.func19 rfl trivial ?_ rfl
  simp only [Tryz.ntmps19, List.size_toArray, List.length_cons, List.length_nil, Nat.reduceAdd, Nat.reduceSub, Array.replicate_succ, Array.replicate_zero, List.push_toArray, List.append_toArray, List.nil_append, List.cons_append]
  have HB0 : Hid (Below w2.heap.size w2 w2) := hide (Below.refl _ _)
  have HMK0 : Hid (Mk w2.heap.size [] w2) := hide (Mk.nil _ _)

  have hb1 : Below w2.heap.size w2 (w2.alloc (.cells (rulV ha N hc va M vc) 25)) := (Below.refl _ _).alloc (Nat.le_refl _) _
  have hq1 : (w2.alloc (.cells (rulV ha N hc va M vc) 25)).heap[w2.heap.size]? = some (.cells (rulV ha N hc va M vc) 25) := heap_alloc_new _ _
  have hbb1 := (unhide HB0).trans (hb1.mono (unhide HB0).size)
  have hmm1 := (unhide HMK0).grown hb1
  obtain ⟨Y1, hY1⟩ : ∃ Y, Y = w2.alloc (.cells (rulV ha N hc va M vc) 25) := ⟨_, rfl⟩
  rw [← hY1] at hq1 hbb1 hmm1
  rw [(unhide HU).s2] at hq1
  replace hq1 : Y1.heap[w.heap.size + 1 + 1]? = _ := hq1
  have HY1 := hide hY1
  have HYB1 := hide hbb1
  have HYM1 := hide hmm1
  have HG1 := hide (cases_goes (w.heap.size + 1 + 1) ha hc hs va vs.length vc Y1 (by rw [← unhide HN, ← unhide HM]; exact hq1) ((unhide HT).grown hbb1).hand)
  clear hb1 hq1 hbb1 hmm1 hY1
  gi_wp2_with fail
  refine ⟨trivial, (callsIn_wide.2 (cases_any _ _ _ _ _ _ _)).mono ?_⟩
  rintro e w' ⟨rfl, rfl⟩
  gi_wp2
  rw [show ((w.alloc (.cells #[.slice ha N hc, .slice va M vc] 25)).alloc (.cells #[.bool false] 4)).alloc (.cells #[.slice ha N hc, .slice va M vc] 25) = Y1 by rw [unhide HY1, unhide HW]]
  refine range_box (gf := 85) (lb := #[.pointer (some ⟨w.heap.size + 1 + 1, 0, none⟩)]) rfl (enters_of Tryz.func85 (by kernel_rfl) rfl) (unhide HG1) (Below.refl _ _)
    (fun (pre : List CsV) X => Non f1 pre ∧ Below w2.heap.size w2 X ∧ Mk w2.heap.size [] X)
    (fun c pre X => c = .ret ∧ Som f1 pre ∧ X.heap[w.heap.size + 1]? = some (.cells #[.bool true] 4) ∧ Below w.heap.size w X ∧ Mk w2.heap.size [] X)
    (fun s A C h hb => ⟨h.1, h.2.1.trans (hb.mono (unhide HYB1).size), Mk.kept (B := 0) (unhide HYM1) h.2.2 hb⟩)
    (fun c s A C h hb => by
      obtain ⟨h1, h2, h3, h4, h5⟩ := h
      have hlt : w.heap.size + 1 < Y1.heap.size := by have := (unhide HYB1).size; omega
      exact ⟨h1, h2, (hb.block _ hlt).trans h3, h4.trans (hb.mono (Nat.le_trans hwlo (unhide HYB1).size)), Mk.kept (B := 0) (unhide HYM1) h5 hb⟩)
    ⟨rfl, unhide HYB1, unhide HYM1⟩ 66 3 ?assign1 ?body1 ?done1 ?stop1
  case assign1 =>
    intro l' x X K hK
    simp only [rdAct, List.setIfInBounds_toArray, List.set_cons_zero, List.set_cons_succ, CsV.v] at hK ⊢
    gi_wp2
    exact hK
  case stop1 =>
    rintro D c pre X hD hpre ⟨rfl, ha1, hrow, hbw, hmk⟩ hK
    have e : R = true := by rw [unhide HR]; simp only [any_of_pre hpre ha1, Bool.true_or]
    subst e
    have hD' : w2.heap.size ≤ D := Nat.le_trans (unhide HYB1).size hD
    have hnd : (D :: []).Nodup := by
      simp
    have hmk2 := hmk.cons hD' hK
    gi_wp2
    exact leave_b rfl rfl hqlo hwlo (D :: []) X hnd hmk2 hrow hbw
  case body1 =>
    rintro l pre x Bx Z ⟨hp0, hbZ, hmZ⟩ hbx hpre
    have HP0 := hide hp0
    have HBZ := hide hbZ
    have HMZ := hide hmZ
    obtain ⟨t0, t1⟩ := (unhide HU).res hbZ
    have HMem : Hid (x ∈ casesV hs) := hide (hpre.subset (by simp))
    have hlo1 : w2.heap.size ≤ Y1.heap.size := (unhide HYB1).size
    clear hp0 hbZ hmZ hpre
    simp only [rdAct, List.setIfInBounds_toArray, List.set_cons_zero, List.set_cons_succ, CsV.v]
    obtain ⟨x0, x1, x2, -⟩ := cells3 hbx
    have hfit := x.fit
    obtain ⟨rf, hrf⟩ : ∃ rf, rf = x.refuse := ⟨_, rfl⟩
    obtain ⟨en, hen⟩ : ∃ en, en = x.emits.length := ⟨_, rfl⟩
    have HG : Hid (f1 x = (decide (200 < rf.length) || (rf.isEmpty == decide (en = 0)))) := hide (by
      unfold f1; rw [hrf, hen]; congr 2; rw [Bool.eq_iff_iff]; simp)
    have HO := hide ((unhide HU).out (unhide HBZ) (Below.refl _ _) hlo1 (unhide HMZ) true)
    rw [← hrf] at x1 hfit ⊢
    rw [← hen] at x2 ⊢
    have hx6 : x.emits.length ≤ 9223372036854775807 := by
      have := ((unhide HT).cs (unhide HMem)).2.len
      omega
    rw [← hen] at hx6
    clear hbx hrf hen
    have e1 : decide ((200 : Int) < (rf.length : Int)) = decide (200 < rf.length) := dec16 _ 200
    cases h3 : decide ((200 : Int) < (rf.length : Int)) with
    | true =>
      have hb := any_snoc_t (pre := pre) (p := f1) (x := x) (by rw [unhide HG, ← e1, h3]; rfl)
      clear e1
      gi_wp2
      exact ⟨(unhide HO).1, rfl, hb, (unhide HO).2.1, (unhide HO).2.2.1, (unhide HO).2.2.2⟩
    | false =>
    have h3' : decide (200 < rf.length) = false := by rw [← e1, h3]
    clear e1
    cases rf with
    | nil =>
      by_cases hz : en = 0
      · have hb := any_snoc_t (pre := pre) (p := f1) (x := x) (by rw [unhide HG]; simp [hz])
        subst hz
        clear h3'
        gi_wp2
        exact ⟨(unhide HO).1, rfl, hb, (unhide HO).2.1, (unhide HO).2.2.1, (unhide HO).2.2.2⟩
      · have hb := any_snoc_f (unhide HP0) (show f1 x = false by rw [unhide HG]; simp [hz])
        have hz1 : decide ((en : Int) = 0) = false := by simp; omega
        have hz2 : ((en : Int) == 0) = false := by simp; omega
        have hz3 : (en == 0) = false := by simp; omega
        have hz4 : decide (en = 0) = false := by simp; omega
        clear h3'
        gi_wp2
        exact ⟨Below.refl _ _, hb, unhide HBZ, unhide HMZ⟩
    | cons s r =>
      have h3n : ¬ ((200 : Int) < (r.length : Int) + 1) := by
        have := h3'
        simp at this
        omega
      have h3d : decide ((200 : Int) < (r.length : Int) + 1) = false := decide_eq_false h3n
      by_cases hz : en = 0
      · have hb := any_snoc_f (unhide HP0) (show f1 x = false by rw [unhide HG, h3']; simp [hz])
        subst hz
        clear h3'
        gi_wp2
        exact ⟨Below.refl _ _, hb, unhide HBZ, unhide HMZ⟩
      · have hb := any_snoc_t (pre := pre) (p := f1) (x := x) (by rw [unhide HG, h3']; simp [hz])
        have hz1 : decide ((en : Int) = 0) = false := by simp; omega
        have hz2 : ((en : Int) == 0) = false := by simp; omega
        have hz3 : (en == 0) = false := by simp; omega
        have hz4 : decide (en = 0) = false := by simp; omega
        clear h3'
        gi_wp2
        exact ⟨(unhide HO).1, rfl, hb, (unhide HO).2.1, (unhide HO).2.2.1, (unhide HO).2.2.2⟩

  case done1 =>
    rintro D1 X1 hD1 ⟨ha1, hbX1, hmX1⟩ hK1
    have HA1 : Hid ((casesV hs).any f1 = false) := hide ha1
    have HB1 := hide hbX1
    have hlt1 : Y1.heap.size ≤ D1 := hD1
    have HMK1 := hide (hmX1.cons (Nat.le_trans (unhide HYB1).size hD1) hK1)
    have HND1 : Hid ((D1 :: []).Nodup) := hide (by
      simp)
    clear ha1 hbX1 hmX1 hK1 hD1

    obtain ⟨r0, r1⟩ := (unhide HU).cells (unhide HB1)
    have hb2 : Below X1.heap.size X1 (X1.alloc (.cells (rulV ha N hc va M vc) 25)) := (Below.refl _ _).alloc (Nat.le_refl _) _
    have hq2 : (X1.alloc (.cells (rulV ha N hc va M vc) 25)).heap[X1.heap.size]? = some (.cells (rulV ha N hc va M vc) 25) := heap_alloc_new _ _
    have hbb2 := (unhide HB1).trans (hb2.mono (unhide HB1).size)
    have hmm2 := (unhide HMK1).grown hb2
    obtain ⟨Y2, hY2⟩ : ∃ Y, Y = X1.alloc (.cells (rulV ha N hc va M vc) 25) := ⟨_, rfl⟩
    rw [← hY2] at hq2 hbb2 hmm2
    have HY2 := hide hY2
    have HYB2 := hide hbb2
    have HYM2 := hide hmm2
    have HG2 := hide (conditions_goes X1.heap.size ha hc hs va vc vs Y2 (by rw [← unhide HN, ← unhide HM]; exact hq2) ((unhide HT).grown hbb2))
    clear hb2 hq2 hbb2 hmm2 hY2
    gi_wp2_with fail
    refine ⟨trivial, (callsIn_wide.2 (conditions_any _ _ _ _ _ _ _)).mono ?_⟩
    rintro e w' ⟨rfl, rfl⟩
    clear r0 r1
    gi_wp2
    rw [show X1.alloc (.cells #[.slice ha N hc, .slice va M vc] 25) = Y2 from (unhide HY2).symm]
    refine range_box (gf := 94) (lb := #[.pointer (some ⟨X1.heap.size, 0, none⟩)]) rfl (enters_of Tryz.func94 (by kernel_rfl) rfl) (unhide HG2) (Below.refl _ _)
      (fun (pre : List CdV) X => Non f2 pre ∧ Below w2.heap.size w2 X ∧ Mk w2.heap.size [D1] X)
      (fun c pre X => c = .ret ∧ Som f2 pre ∧ X.heap[w.heap.size + 1]? = some (.cells #[.bool true] 4) ∧ Below w.heap.size w X ∧ Mk w2.heap.size [D1] X)
      (fun s A C h hb => ⟨h.1, h.2.1.trans (hb.mono (unhide HYB2).size), Mk.kept (B := 0) (unhide HYM2) h.2.2 hb⟩)
      (fun c s A C h hb => by
        obtain ⟨h1, h2, h3, h4, h5⟩ := h
        have hlt : w.heap.size + 1 < Y2.heap.size := by have := (unhide HYB2).size; omega
        exact ⟨h1, h2, (hb.block _ hlt).trans h3, h4.trans (hb.mono (Nat.le_trans hwlo (unhide HYB2).size)), Mk.kept (B := 0) (unhide HYM2) h5 hb⟩)
      ⟨rfl, unhide HYB2, unhide HYM2⟩ 46 4 ?assign2 ?body2 ?done2 ?stop2
    case assign2 =>
      intro l' x X K hK
      simp only [rdAct, List.setIfInBounds_toArray, List.set_cons_zero, List.set_cons_succ, CdV.v] at hK ⊢
      gi_wp2
      exact hK
    case stop2 =>
      rintro D c pre X hD hpre ⟨rfl, ha1, hrow, hbw, hmk⟩ hK
      have e : R = true := by rw [unhide HR]; simp only [any_of_pre hpre ha1, Bool.or_true, Bool.true_or]
      subst e
      have hD' : w2.heap.size ≤ D := Nat.le_trans (unhide HYB2).size hD
      have hnd : (D :: [D1]).Nodup := by
        rw [List.nodup_cons]
        refine ⟨fun hin => ?_, unhide HND1⟩
        have h1 := (Array.getElem?_eq_some_iff.1 (unhide HYM2 _ hin).2).1
        omega
      have hmk2 := hmk.cons hD' hK
      gi_wp2
      exact leave_b rfl rfl hqlo hwlo (D :: [D1]) X hnd hmk2 hrow hbw
    case body2 =>
      rintro l pre x Bx Z ⟨hp0, hbZ, hmZ⟩ hbx hpre
      have HP0 := hide hp0
      have HBZ := hide hbZ
      have HMZ := hide hmZ
      obtain ⟨t0, t1⟩ := (unhide HU).res hbZ
      have HMem : Hid (x ∈ condsV hs) := hide (hpre.subset (by simp))
      have hlo2 : w2.heap.size ≤ Y2.heap.size := (unhide HYB2).size
      clear hp0 hbZ hmZ hpre
      simp only [rdAct, List.setIfInBounds_toArray, List.set_cons_zero, List.set_cons_succ, CdV.v]
      obtain ⟨k0, ⟨a0, a1, a2, a3⟩, -⟩ := cells10 hbx
      have hbx' := hbx
      obtain ⟨kd, hkd⟩ : ∃ kd, kd = x.kind := ⟨_, rfl⟩
      have HG : Hid (f2 x = (decide (kd < 1) || decide (4 < kd) || (decide (kd = 4) && !nmsX x.A.x))) := hide (by unfold f2; rw [hkd])
      have HO := hide ((unhide HU).out (unhide HBZ) (Below.refl _ _) hlo2 (unhide HMZ) true)
      rw [← hkd] at k0 ⊢
      have HC := hide (namesField_any x.A.x x.A.a x.A.c Z)
      clear hbx hbx' hkd
      cases h3 : decide (kd < 1) with
      | true =>
        have hb := any_snoc_t (pre := pre) (p := f2) (x := x) (by rw [unhide HG, h3]; rfl)
        gi_wp2
        all_goals first
          | exact absurd (show some undef = some (Value.bool _) by assumption) (by unfold undef; simp)
          | exact ⟨(unhide HO).1, rfl, hb, (unhide HO).2.1, (unhide HO).2.2.1, (unhide HO).2.2.2⟩
          | (refine ⟨trivial, ?_⟩
             gi_wp2
             all_goals first
               | exact absurd (show some undef = some (Value.bool _) by assumption) (by unfold undef; simp)
               | exact ⟨(unhide HO).1, rfl, hb, (unhide HO).2.1, (unhide HO).2.2.1, (unhide HO).2.2.2⟩)
      | false =>
      cases h4 : decide (4 < kd) with
      | true =>
        have hb := any_snoc_t (pre := pre) (p := f2) (x := x) (by rw [unhide HG, h4]; simp)
        gi_wp2
        all_goals first
          | exact absurd (show some undef = some (Value.bool _) by assumption) (by unfold undef; simp)
          | exact ⟨(unhide HO).1, rfl, hb, (unhide HO).2.1, (unhide HO).2.2.1, (unhide HO).2.2.2⟩
          | (refine ⟨trivial, ?_⟩
             gi_wp2
             all_goals first
               | exact absurd (show some undef = some (Value.bool _) by assumption) (by unfold undef; simp)
               | exact ⟨(unhide HO).1, rfl, hb, (unhide HO).2.1, (unhide HO).2.2.1, (unhide HO).2.2.2⟩)
      | false =>
      by_cases h5 : kd = 4
      · subst h5
        cases h6 : nmsX x.A.x with
        | true =>
          have hb := any_snoc_f (unhide HP0) (show f2 x = false by rw [unhide HG, h6]; rfl)
          rw [h6] at HC
          clear h3 h4 h6
          gi_wp2_with fail
          refine ⟨trivial, (CallsIn.inRound l (callsIn_wide.2 (unhide HC))).mono ?_⟩
          rintro e w5 ⟨rfl, b5⟩
          have HB5 := hide b5
          clear b5
          gi_wp2
          exact ⟨unhide HB5, hb, (unhide HBZ).trans ((unhide HB5).mono (unhide HBZ).size), (unhide HMZ).grown (unhide HB5)⟩
        | false =>
          have hb := any_snoc_t (pre := pre) (p := f2) (x := x) (by rw [unhide HG, h6]; rfl)
          rw [h6] at HC
          clear h3 h4 h6 HO
          gi_wp2_with fail
          refine ⟨trivial, (CallsIn.inRound l (callsIn_wide.2 (unhide HC))).mono ?_⟩
          rintro e w5 ⟨rfl, b5⟩
          have HO := hide ((unhide HU).out (unhide HBZ) b5 hlo2 (unhide HMZ) true)
          clear t0 t1
          obtain ⟨t0, t1⟩ := (unhide HU).res ((unhide HBZ).trans (b5.mono (unhide HBZ).size))
          clear b5
          gi_wp2
          exact ⟨(unhide HO).1, rfl, hb, (unhide HO).2.1, (unhide HO).2.2.1, (unhide HO).2.2.2⟩
      · have hb := any_snoc_f (unhide HP0) (show f2 x = false by rw [unhide HG, h3, h4]; simp [h5])
        have h5' : (kd == 4) = false := by simp [h5]
        have h52 : decide (kd = 4) = false := by simp [h5]
        clear h5
        gi_wp2
        refine ⟨trivial, ?_⟩
        gi_wp2
        exact ⟨Below.refl _ _, hb, unhide HBZ, unhide HMZ⟩

    case done2 =>
      rintro D2 X2 hD2 ⟨ha2, hbX2, hmX2⟩ hK2
      have HA2 : Hid ((condsV hs).any f2 = false) := hide ha2
      have HB2 := hide hbX2
      have hlt2 : Y2.heap.size ≤ D2 := hD2
      have HMK2 := hide (hmX2.cons (Nat.le_trans (unhide HYB2).size hD2) hK2)
      have HND2 : Hid ((D2 :: [D1]).Nodup) := hide (by
        rw [List.nodup_cons]
        refine ⟨fun hin => ?_, unhide HND1⟩
        have h1 := (Array.getElem?_eq_some_iff.1 (unhide HYM2 _ hin).2).1
        omega)
      clear ha2 hbX2 hmX2 hK2 hD2

      obtain ⟨r0, r1⟩ := (unhide HU).cells (unhide HB2)
      have hb3 : Below X2.heap.size X2 (X2.alloc (.cells (rulV ha N hc va M vc) 25)) := (Below.refl _ _).alloc (Nat.le_refl _) _
      have hq3 : (X2.alloc (.cells (rulV ha N hc va M vc) 25)).heap[X2.heap.size]? = some (.cells (rulV ha N hc va M vc) 25) := heap_alloc_new _ _
      have hbb3 := (unhide HB2).trans (hb3.mono (unhide HB2).size)
      have hmm3 := (unhide HMK2).grown hb3
      obtain ⟨Y3, hY3⟩ : ∃ Y, Y = X2.alloc (.cells (rulV ha N hc va M vc) 25) := ⟨_, rfl⟩
      rw [← hY3] at hq3 hbb3 hmm3
      have HY3 := hide hY3
      have HYB3 := hide hbb3
      have HYM3 := hide hmm3
      have HG3 := hide (expressions_goes X2.heap.size ha hc hs va vc vs Y3 (by rw [← unhide HN, ← unhide HM]; exact hq3) ((unhide HT).grown hbb3))
      clear hb3 hq3 hbb3 hmm3 hY3
      gi_wp2_with fail
      refine ⟨trivial, (callsIn_wide.2 (expressions_any _ _ _ _ _ _ _)).mono ?_⟩
      rintro e w' ⟨rfl, rfl⟩
      clear r0 r1
      gi_wp2
      rw [show X2.alloc (.cells #[.slice ha N hc, .slice va M vc] 25) = Y3 from (unhide HY3).symm]
      refine range_box (gf := 87) (lb := #[.pointer (some ⟨X2.heap.size, 0, none⟩)]) rfl (enters_of Tryz.func87 (by kernel_rfl) rfl) (unhide HG3) (Below.refl _ _)
        (fun (pre : List Nd) X => Non f3 pre ∧ Below w2.heap.size w2 X ∧ Mk w2.heap.size [D2, D1] X)
        (fun c pre X => c = .ret ∧ Som f3 pre ∧ X.heap[w.heap.size + 1]? = some (.cells #[.bool true] 4) ∧ Below w.heap.size w X ∧ Mk w2.heap.size [D2, D1] X)
        (fun s A C h hb => ⟨h.1, h.2.1.trans (hb.mono (unhide HYB3).size), Mk.kept (B := 0) (unhide HYM3) h.2.2 hb⟩)
        (fun c s A C h hb => by
          obtain ⟨h1, h2, h3, h4, h5⟩ := h
          have hlt : w.heap.size + 1 < Y3.heap.size := by have := (unhide HYB3).size; omega
          exact ⟨h1, h2, (hb.block _ hlt).trans h3, h4.trans (hb.mono (Nat.le_trans hwlo (unhide HYB3).size)), Mk.kept (B := 0) (unhide HYM3) h5 hb⟩)
        ⟨rfl, unhide HYB3, unhide HYM3⟩ 44 5 ?assign3 ?body3 ?done3 ?stop3
      case assign3 =>
        intro l' x X K hK
        simp only [rdAct, List.setIfInBounds_toArray, List.set_cons_zero, List.set_cons_succ, ndv] at hK ⊢
        gi_wp2
        exact hK
      case stop3 =>
        rintro D c pre X hD hpre ⟨rfl, ha1, hrow, hbw, hmk⟩ hK
        have e : R = true := by rw [unhide HR]; simp only [any_of_pre hpre ha1, Bool.or_true]
        subst e
        have hD' : w2.heap.size ≤ D := Nat.le_trans (unhide HYB3).size hD
        have hnd : (D :: [D2, D1]).Nodup := by
          rw [List.nodup_cons]
          refine ⟨fun hin => ?_, unhide HND2⟩
          have h1 := (Array.getElem?_eq_some_iff.1 (unhide HYM3 _ hin).2).1
          omega
        have hmk2 := hmk.cons hD' hK
        gi_wp2
        exact leave_b rfl rfl hqlo hwlo (D :: [D2, D1]) X hnd hmk2 hrow hbw
      case body3 =>
        rintro l pre x Bx Z ⟨hp0, hbZ, hmZ⟩ hbx hpre
        have HP0 := hide hp0
        have HBZ := hide hbZ
        have HMZ := hide hmZ
        obtain ⟨t0, t1⟩ := (unhide HU).res hbZ
        have HMem : Hid (x ∈ exprsV hs vs) := hide (hpre.subset (by simp))
        have hlo3 : w2.heap.size ≤ Y3.heap.size := (unhide HYB3).size
        clear hp0 hbZ hmZ hpre
        simp only [rdAct, List.setIfInBounds_toArray, List.set_cons_zero, List.set_cons_succ, ndv]
        have hat : x.at Z := Nd.grown ((unhide HT).ex (unhide HMem)) (unhide HBZ)
        obtain ⟨x0, x1, x2, x3, -⟩ := XBox.cells (x := x.x) (a := x.a) (c := x.c) hbx
        have HXB : Hid (XBox Z Bx x.x x.a x.c) := hide hbx
        have HC := hide (wellFormed_any x Z hat)
        have HG : Hid (f3 x = (!formX x.x || (nodesX x.x).any (fun y => decide (y.kind = 2) && decide (200 < y.s.length)))) := hide (by unfold f3 badFormX; rfl)
        have HAt := hide hat
        clear hbx hat
        cases h3 : formX x.x with
        | false =>
          have hb := any_snoc_t (pre := pre) (p := f3) (x := x) (by rw [unhide HG, h3, Bool.not_false, Bool.true_or])
          rw [h3] at HC
          clear h3
          gi_wp2_with fail
          refine ⟨trivial, (CallsIn.inRound l (callsIn_wide.2 (unhide HC))).mono ?_⟩
          rintro e w5 ⟨rfl, b5⟩
          have HO := hide ((unhide HU).out (unhide HBZ) b5 hlo3 (unhide HMZ) true)
          clear t0 t1
          obtain ⟨t0, t1⟩ := (unhide HU).res ((unhide HBZ).trans (b5.mono (unhide HBZ).size))
          clear b5
          gi_wp2
          exact ⟨(unhide HO).1, rfl, hb, (unhide HO).2.1, (unhide HO).2.2.1, (unhide HO).2.2.2⟩
        | true =>
          have HG2 : Hid (f3 x = (nodesX x.x).any (fun y => decide (y.kind = 2) && decide (200 < y.s.length))) := hide (by rw [unhide HG, h3, Bool.not_true, Bool.false_or])
          rw [h3] at HC
          clear h3
          gi_wp2_with fail
          refine ⟨trivial, (CallsIn.inRound l (callsIn_wide.2 (unhide HC))).mono ?_⟩
          rintro e w5 ⟨rfl, b5⟩
          clear x0 x1 x2 x3
          obtain ⟨x0, x1, x2, x3, -⟩ := ((unhide HXB).below b5 (Nat.le_refl _)).cells
          have HB5 := hide b5
          have HC5 := hide (nodes_any x w5 (Nd.grown (unhide HAt) b5))
          clear b5
          gi_wp2_with fail
          refine ⟨trivial, (CallsIn.inRound l (callsIn_wide.2 (unhide HC5))).mono ?_⟩
          rintro e w6 ⟨v, nl, rfl, hr, hna, hnl, b6⟩
          obtain ⟨na, nc, rfl, hsl⟩ := hr.slof (fun y hy => Nd.grown (hna y hy) b6)
          have HC6 := hide (containsExpr_umisformedC1 na nc nl (fun y => decide (y.x.kind = 2) && decide (200 < y.x.s.length)) w6 hsl (fun W y hy hW => umisformedC1_any y W (Nd.grown (Nd.grown (hna y hy) b6) hW)))
          have HE : Hid (f3 x = nl.any (fun y => decide (y.x.kind = 2) && decide (200 < y.x.s.length))) := hide (by
            rw [unhide HG2, ← hnl, any_mapM])
          have HB6 := hide ((unhide HB5).trans (b6.mono (unhide HB5).size))
          obtain ⟨nn, hnn⟩ : ∃ nn, nn = nl.length := ⟨_, rfl⟩
          rw [← hnn] at HC6 ⊢
          clear hr hna hnl b6 hsl hnn x0 x1 x2 x3
          cases h4 : nl.any (fun y => decide (y.x.kind = 2) && decide (200 < y.x.s.length)) with
          | true =>
            have hb := any_snoc_t (pre := pre) (p := f3) (x := x) (by rw [unhide HE, h4])
            rw [h4] at HC6
            clear h4
            gi_wp2_with fail
            refine ⟨trivial, (CallsIn.inRound l (callsIn_wide.2 (unhide HC6))).mono ?_⟩
            rintro e w7 ⟨rfl, b7⟩
            have hb7 := (unhide HB6).trans (b7.mono (unhide HB6).size)
            have HO := hide ((unhide HU).out (unhide HBZ) hb7 hlo3 (unhide HMZ) true)
            clear t0 t1
            obtain ⟨t0, t1⟩ := (unhide HU).res ((unhide HBZ).trans (hb7.mono (unhide HBZ).size))
            clear b7 hb7
            gi_wp2
            exact ⟨(unhide HO).1, rfl, hb, (unhide HO).2.1, (unhide HO).2.2.1, (unhide HO).2.2.2⟩
          | false =>
            have hb := any_snoc_f (unhide HP0) (show f3 x = false by rw [unhide HE, h4])
            rw [h4] at HC6
            clear h4
            gi_wp2_with fail
            refine ⟨trivial, (CallsIn.inRound l (callsIn_wide.2 (unhide HC6))).mono ?_⟩
            rintro e w7 ⟨rfl, b7⟩
            have HB7 := hide ((unhide HB6).trans (b7.mono (unhide HB6).size))
            clear b7
            gi_wp2
            exact ⟨unhide HB7, hb, (unhide HBZ).trans ((unhide HB7).mono (unhide HBZ).size), (unhide HMZ).grown (unhide HB7)⟩

      case done3 =>
        rintro D3 X3 hD3 ⟨ha3, hbX3, hmX3⟩ hK3
        have HA3 : Hid ((exprsV hs vs).any f3 = false) := hide ha3
        have HB3 := hide hbX3
        have hlt3 : Y3.heap.size ≤ D3 := hD3
        have HMK3 := hide (hmX3.cons (Nat.le_trans (unhide HYB3).size hD3) hK3)
        have HND3 : Hid ((D3 :: [D2, D1]).Nodup) := hide (by
          rw [List.nodup_cons]
          refine ⟨fun hin => ?_, unhide HND2⟩
          have h1 := (Array.getElem?_eq_some_iff.1 (unhide HYM3 _ hin).2).1
          omega)
        clear ha3 hbX3 hmX3 hK3 hD3

        have e : R = false := by
          rw [unhide HR, unhide HA1, unhide HA2, unhide HA3]; rfl
        subst e
        have HO := hide ((unhide HU).out (unhide HB3) (Below.refl _ _) (Nat.le_refl _) (unhide HMK3) false)
        obtain ⟨t0, t1⟩ := (unhide HU).res (unhide HB3)
        gi_wp2
        exact leave_b rfl rfl hqlo hwlo [D3, D2, D1] _ (unhide HND3) (unhide HO).2.2.2 (unhide HO).2.1 (unhide HO).2.2.1

end Go.Proofs.YtingpmgpjmlioaaGreatDoor

namespace Go.Proofs.YtingpmgpjmlioaaGreatDoor
open Go.RowKit Go.Shelf
set_option linter.unusedVariables false
attribute [local go_sem] Oper.semAt_some

def n3 (h : HaV) : Bool := !apartT (h.needs.map (fun x => x.nm))
def n4 (m : EmV) : Bool := !nameB m.type || !apartT (m.sets.map (fun x => x.nm))
def n5 (v : EvV) : Bool := v.sets.any (fun a => !nameB a.nm) || v.drops.any (fun d => !nameB d)
def n6 (d : Nd) : Bool := badNameX d.x
theorem any_mapN {α β : Type} (f : α → β) (p : β → Bool) (l : List α) : (l.map f).any p = l.any (fun d => p (f d)) := by rw [List.any_map]; rfl
theorem misnamed_v (hs : List HaV) (vs : List EvV) : misnamedR (hs.map HaV.p) (vs.map EvV.p) = (!apartT (hs.map (fun x => x.cmd)) || !apartT (vs.map (fun x => x.type)) || hs.any n3 || (emitsV hs).any n4 || vs.any n5 || (exprsV hs vs).any n6) := by
  have h1 : ((hs.map HaV.p).map (·.cmd)) = hs.map (fun x => x.cmd) := by rw [List.map_map]; rfl
  have h2 : ((vs.map EvV.p).map (·.type)) = vs.map (fun x => x.type) := by rw [List.map_map]; rfl
  have h3 : (hs.map HaV.p).any (fun h => !apartT (h.needs.map (·.nm))) = hs.any n3 := by rw [any_mapN]; congr 1
  have h4 : (emitsP (hs.map HaV.p)).any (fun m => !nameB m.type || !apartT (m.sets.map (·.nm))) = (emitsV hs).any n4 := by
    rw [← emitsV_p, any_mapN]; congr 1; funext m
    unfold n4
    rw [show (EmV.p m).type = m.type from rfl, show (EmV.p m).sets.map (·.nm) = m.sets.map (fun x => x.nm) by simp only [EmV.p, List.map_map]; rfl]
  have h5 : (vs.map EvV.p).any (fun v => v.sets.any (fun a => !nameB a.nm) || v.drops.any (fun d => !nameB d)) = vs.any n5 := by
    rw [any_mapN]; congr 1; funext v
    unfold n5
    rw [show (EvV.p v).drops = v.drops from rfl, show (EvV.p v).sets = v.sets.map AsV.p from rfl, any_mapN]
    rfl
  have h6 : (exprsP (hs.map HaV.p) (vs.map EvV.p)).any badNameX = (exprsV hs vs).any n6 := by
    rw [← exprsV_p]; unfold n6; exact any_mapN _ _ _
  unfold misnamedR
  rw [h1, h2, h3, h4, h5, h6]

set_option maxHeartbeats 8000000 in
set_option maxRecDepth 100000 in
theorem misnamed_any (ha : Option Addr) (hc : Nat) (hs : List HaV) (va : Option Addr) (vc : Nat) (vs : List EvV) (w : World) (ht : TabR w ha hc hs va vc vs) :
    Calls Tryz.prog 18 #[.agg (rulV ha hs.length hc va vs.length vc)] w fun e w' => e = .returned (.bool (misnamedR (hs.map HaV.p) (vs.map EvV.p))) ∧ Below w.heap.size w w' := by
  have hmf : ∀ (fn : Fn) (first cap : Array Value) (w : World), (Instr.makeFunc fn first cap).run Tryz.prog w = .ok (.func fn first cap) w := fun _ _ _ _ => rfl
  obtain ⟨-, hn1, hn2⟩ := ht.hand.len
  obtain ⟨-, hv1, hv2⟩ := ht.evol.len
  have hu := UB.new w ha hs.length hc va vs.length vc
  obtain ⟨w2, hw2⟩ : ∃ w2, w2 = (w.alloc (.cells (rulV ha hs.length hc va vs.length vc) 25)).alloc (.cells #[.bool false] 4) := ⟨_, rfl⟩
  rw [← hw2] at hu
  have HW := hide hw2
  have HT := hide (ht.grown hu.b2)
  obtain ⟨R, hR⟩ : ∃ R, R = misnamedR (hs.map HaV.p) (vs.map EvV.p) := ⟨_, rfl⟩
  rw [← hR]
  have HR := hide (hR.trans (misnamed_v hs vs))
  have HU := hide hu
  have hqlo : w.heap.size + 1 < w2.heap.size := by have := hu.s2; omega
  have hwlo : w.heap.size ≤ w2.heap.size := hu.b2.size
  obtain ⟨N, hN⟩ : ∃ N, N = hs.length := ⟨_, rfl⟩
  obtain ⟨M, hM⟩ : ∃ M, M = vs.length := ⟨_, rfl⟩
  have HN := hide hN
  have HM := hide hM
  rw [← hN] at hn1 HU HW ⊢
  rw [← hM] at hv1 HU HW ⊢
  clear ht hu hw2 hR hN hM
  refine (callsIn_wide (n := 3)).1 ?_
  refine callsIn_of_wp_marks Tryz.func18 rfl trivial ?_ rfl
  simp only [Tryz.ntmps18, List.size_toArray, List.length_cons, List.length_nil, Nat.reduceAdd, Nat.reduceSub, Array.replicate_succ, Array.replicate_zero, List.push_toArray, List.append_toArray, List.nil_append, List.cons_append]
  have HB0 : Hid (Below w2.heap.size w2 w2) := hide (Below.refl _ _)
  have HMK0 : Hid (Mk w2.heap.size [] w2) := hide (Mk.nil _ _)
  have HA1c : Hid (∀ W, Below w2.heap.size w2 W → Calls Tryz.prog 48 #[.slice ha N hc, .func (.func 49) #[] #[]] W fun e w' => e = .returned (.bool (apartT (hs.map (fun x => x.cmd)))) ∧ Below W.heap.size W w') := hide (fun W hW => by
    have := apartH_any ha hc hs W ((unhide HT).grown hW).hand (fun x _ => x.fit)
    rwa [← unhide HN] at this)
  have HA2c : Hid (∀ W, Below w2.heap.size w2 W → Calls Tryz.prog 50 #[.slice va M vc, .func (.func 51) #[] #[]] W fun e w' => e = .returned (.bool (apartT (vs.map (fun x => x.type)))) ∧ Below W.heap.size W w') := hide (fun W hW => by
    have := apartE_any va vc vs W ((unhide HT).grown hW).evol (fun x _ => x.fit)
    rwa [← unhide HM] at this)
  obtain ⟨Z1, hZ1⟩ : ∃ Z1, Z1 = apartT (hs.map (fun x => x.cmd)) := ⟨_, rfl⟩
  obtain ⟨Z2, hZ2⟩ : ∃ Z2, Z2 = apartT (vs.map (fun x => x.type)) := ⟨_, rfl⟩
  rw [← hZ1, ← hZ2] at HR
  rw [← hZ1] at HA1c
  rw [← hZ2] at HA2c
  clear hZ1 hZ2
  have HC1 := hide (unhide HA1c w2 (Below.refl _ _))
  rw [show w2 = _ from unhide HW] at HC1
  gi_wp2_with fail
  refine ⟨trivial, (callsIn_wide.2 (unhide HC1)).mono ?_⟩
  rintro e wa ⟨rfl, ba⟩
  have hba : Below w2.heap.size w2 wa := by rw [unhide HW]; exact ba
  have HBa := hide hba
  have HMKa : Hid (Mk w2.heap.size [] wa) := hide (Mk.nil _ _)
  obtain ⟨r0, r1⟩ := (unhide HU).cells hba
  obtain ⟨t0, t1⟩ := (unhide HU).res hba
  have HC2 := hide (unhide HA2c wa hba)
  clear ba hba
  cases Z1 with
  | false =>
    have e : R = true := by rw [unhide HR]; simp
    subst e
    have HO := hide ((unhide HU).out (unhide HBa) (Below.refl _ _) (Nat.le_refl _) (unhide HMKa) true)
    gi_wp2
    exact leave_b rfl rfl hqlo hwlo [] _ (by simp) (unhide HO).2.2.2 (unhide HO).2.1 (unhide HO).2.2.1
  | true =>
  gi_wp2_with fail
  refine ⟨trivial, (callsIn_wide.2 (unhide HC2)).mono ?_⟩
  rintro e wb ⟨rfl, bb⟩
  have HBb := hide ((unhide HBa).trans (bb.mono (unhide HBa).size))
  have HMKb : Hid (Mk w2.heap.size [] wb) := hide (Mk.nil _ _)
  clear r0 r1 t0 t1 bb
  obtain ⟨r0, r1⟩ := (unhide HU).cells (unhide HBb)
  obtain ⟨t0, t1⟩ := (unhide HU).res (unhide HBb)
  cases Z2 with
  | false =>
    have e : R = true := by rw [unhide HR]; simp
    subst e
    have HO := hide ((unhide HU).out (unhide HBb) (Below.refl _ _) (Nat.le_refl _) (unhide HMKb) true)
    gi_wp2
    exact leave_b rfl rfl hqlo hwlo [] _ (by simp) (unhide HO).2.2.2 (unhide HO).2.1 (unhide HO).2.2.1
  | true =>
  clear t0 t1

  have HL3 : Hid (SlOf 3 HaR w2 (.slice ha N hc) hs) := hide (by have := (unhide HT).hand; rw [← unhide HN] at this; exact this)
  gi_wp2
  gi_loopw [4, 20] (fun _ i wr => ∃ (k : Nat), i = .int .i64 k ∧ k ≤ N ∧ Hid ((hs.take k).any n3 = false) ∧ Hid (Below w2.heap.size w2 wr) ∧ Hid (Mk w2.heap.size [] wr)) (fun _ i _ => N - (intOf i).toNat)
  case atStart => exact ⟨0, rfl, by omega, hide rfl, HBb, HMKb⟩
  case round =>
    obtain ⟨k, rfl, hk, HA3, HB3, HMK3⟩ := hrel
    by_cases hlt : k < N
    · have hlt' : (k : Int) < (N : Int) := by omega
      obtain ⟨x, huk⟩ : ∃ u, hs[k]? = some u := ⟨_, List.getElem?_eq_getElem (by have := unhide HN; omega)⟩
      have HUk := hide huk
      obtain ⟨b, off, hma, -, d0, d1, d2, d3⟩ := ((unhide HL3).grown (fun _ _ _ _ _ => HaR.grown) (unhide HB3)).at huk
      rw [hma]
      have hb4 : Below wr.heap.size wr (wr.alloc (.cells x.v 62)) := (Below.refl _ _).alloc (Nat.le_refl _) _
      have HB4 := hide hb4
      obtain ⟨t0, t1⟩ := (unhide HU).res ((unhide HB3).trans (hb4.mono (unhide HB3).size))
      dsimp only [HaV.v] at t0 t1
      clear huk hb4
      have HC4 := hide (apartN_any x.na x.nc x.needs (wr.alloc (.cells x.v 62)) ((d3.1.grown (fun _ _ _ _ _ => NeAt.grown) (unhide HB4))) (fun n hn => x.nfit n hn))
      dsimp only [HaV.v] at HC4
      have HG : Hid (n3 x = !apartT (x.needs.map (fun x => x.nm))) := hide rfl
      have HNx : Hid (n3 x = false → (hs.take (k + 1)).any n3 = false) := hide (fun h => any_take (unhide HUk) (unhide HA3) h)
      have HTx : Hid (n3 x = true → R = true) := hide (fun h => by rw [unhide HR]; simp only [any_at (unhide HUk) h, Bool.or_true, Bool.true_or])
      clear d3
      cases h3 : apartT (x.needs.map (fun x => x.nm)) with
      | false =>
        have e := unhide HTx (by rw [unhide HG, h3]; rfl)
        subst e
        rw [h3] at HC4
        clear h3
        gi_wp2_with fail
        refine ⟨trivial, (callsIn_wide.2 (unhide HC4)).mono ?_⟩
        rintro e w5 ⟨rfl, b5⟩
        have HB45 := hide ((unhide HB4).trans (b5.mono (unhide HB4).size))
        have HO := hide ((unhide HU).out (unhide HB3) (unhide HB45) (Nat.le_refl _) (unhide HMK3) true)
        clear t0 t1 b5
        obtain ⟨t0, t1⟩ := (unhide HU).res ((unhide HB3).trans ((unhide HB45).mono (unhide HB3).size))
        gi_wp2
        exact leave_b rfl rfl hqlo hwlo [] _ (by simp) (unhide HO).2.2.2 (unhide HO).2.1 (unhide HO).2.2.1
      | true =>
      have HA2 := hide (unhide HNx (by rw [unhide HG, h3]; rfl))
      rw [h3] at HC4
      clear h3
      gi_wp2_with fail
      refine ⟨trivial, (callsIn_wide.2 (unhide HC4)).mono ?_⟩
      rintro e w5 ⟨rfl, b5⟩
      have HB45 := hide ((unhide HB4).trans (b5.mono (unhide HB4).size))
      clear b5
      gi_wp2
      go_roundw
      case rel => exact ⟨k + 1, by congr 1, by omega, HA2, hide ((unhide HB3).trans ((unhide HB45).mono (unhide HB3).size)), hide ((unhide HMK3).grown (unhide HB45))⟩
      case measure => simp [intOf]; omega

    · have hlt' : ¬ (k : Int) < (N : Int) := by omega
      replace HA3 : Hid (hs.any n3 = false) := hide (by have := unhide HA3; rwa [List.take_of_length_le (by have := unhide HN; omega)] at this)

      obtain ⟨r0, r1⟩ := (unhide HU).cells (unhide HB3)
      have hb4 : Below wr.heap.size wr (wr.alloc (.cells (rulV ha N hc va M vc) 25)) := (Below.refl _ _).alloc (Nat.le_refl _) _
      have hq4 : (wr.alloc (.cells (rulV ha N hc va M vc) 25)).heap[wr.heap.size]? = some (.cells (rulV ha N hc va M vc) 25) := heap_alloc_new _ _
      have hbb4 := (unhide HB3).trans (hb4.mono (unhide HB3).size)
      have hmm4 := (unhide HMK3).grown hb4
      obtain ⟨Y4, hY4⟩ : ∃ Y, Y = wr.alloc (.cells (rulV ha N hc va M vc) 25) := ⟨_, rfl⟩
      rw [← hY4] at hq4 hbb4 hmm4
      have HY4 := hide hY4
      have HYB4 := hide hbb4
      have HYM4 := hide hmm4
      have HG4 := hide (emits_goes wr.heap.size ha hc hs va vc vs Y4 (by rw [← unhide HN, ← unhide HM]; exact hq4) ((unhide HT).grown hbb4))
      clear hb4 hq4 hbb4 hmm4 hY4
      gi_wp2_with fail
      refine ⟨trivial, (callsIn_wide.2 (emits_any _ _ _ _ _ _ _)).mono ?_⟩
      rintro e w' ⟨rfl, rfl⟩
      clear r0 r1
      gi_wp2
      rw [show wr.alloc (.cells #[.slice ha N hc, .slice va M vc] 25) = Y4 from (unhide HY4).symm]
      refine range_box (gf := 86) (lb := #[.pointer (some ⟨wr.heap.size, 0, none⟩)]) rfl (enters_of Tryz.func86 (by kernel_rfl) rfl) (unhide HG4) (Below.refl _ _)
        (fun (pre : List EmV) X => Non n4 pre ∧ Below w2.heap.size w2 X ∧ Mk w2.heap.size [] X)
        (fun c pre X => c = .ret ∧ Som n4 pre ∧ X.heap[w.heap.size + 1]? = some (.cells #[.bool true] 4) ∧ Below w.heap.size w X ∧ Mk w2.heap.size [] X)
        (fun s A C h hb => ⟨h.1, h.2.1.trans (hb.mono (unhide HYB4).size), Mk.kept (B := 0) (unhide HYM4) h.2.2 hb⟩)
        (fun c s A C h hb => by
          obtain ⟨h1, h2, h3, h4, h5⟩ := h
          have hlt : w.heap.size + 1 < Y4.heap.size := by have := (unhide HYB4).size; omega
          exact ⟨h1, h2, (hb.block _ hlt).trans h3, h4.trans (hb.mono (Nat.le_trans hwlo (unhide HYB4).size)), Mk.kept (B := 0) (unhide HYM4) h5 hb⟩)
        ⟨rfl, unhide HYB4, unhide HYM4⟩ 94 5 ?assign4 ?body4 ?done4 ?stop4
      case assign4 =>
        intro l' x X K hK
        simp only [rdAct, List.setIfInBounds_toArray, List.set_cons_zero, List.set_cons_succ, EmV.v] at hK ⊢
        gi_wp2
        exact hK
      case stop4 =>
        rintro D c pre X hD hpre ⟨rfl, ha1, hrow, hbw, hmk⟩ hK
        have e : R = true := by rw [unhide HR]; simp only [any_of_pre hpre ha1, Bool.or_true, Bool.true_or]
        subst e
        have hD' : w2.heap.size ≤ D := Nat.le_trans (unhide HYB4).size hD
        have hnd : (D :: []).Nodup := by
          simp
        have hmk2 := hmk.cons hD' hK
        gi_wp2
        exact leave_b rfl rfl hqlo hwlo (D :: []) X hnd hmk2 hrow hbw
      case body4 =>
        rintro l pre x Bx Z ⟨hp0, hbZ, hmZ⟩ hbx hpre
        have HP0 := hide hp0
        have HBZ := hide hbZ
        have HMZ := hide hmZ
        obtain ⟨t0, t1⟩ := (unhide HU).res hbZ
        have HMem : Hid (x ∈ emitsV hs) := hide (hpre.subset (by simp))
        have hlo4 : w2.heap.size ≤ Y4.heap.size := (unhide HYB4).size
        clear hp0 hbZ hmZ hpre
        simp only [rdAct, List.setIfInBounds_toArray, List.set_cons_zero, List.set_cons_succ, EmV.v]
        have x0 : Z.cell? ⟨Bx, 0, none⟩ = some (sv x.type) := (cell_of_row _ _ _ _ _ _ hbx).trans rfl
        have HRow := hide hbx
        have hok : SlOf 5 AsR Z (.slice x.a x.sets.length x.c) x.sets := ((unhide HT).em (unhide HMem)).grown (unhide HBZ)
        have HAp : Hid (∀ W, Below Z.heap.size Z W → Calls Tryz.prog 55 #[.slice x.a x.sets.length x.c, .func (.func 56) #[] #[]] W fun e w' => e = .returned (.bool (apartT (x.sets.map (fun x => x.nm)))) ∧ Below W.heap.size W w') := hide (fun W hW => apartA_any x.a x.c x.sets W (hok.grown (fun _ _ _ _ _ => AsR.grown) hW) (fun y _ => y.fit))
        have HNm := hide (Name_any x.type Z (by have := x.fit; omega))
        have HG : Hid (n4 x = (!nameB x.type || !apartT (x.sets.map (fun x => x.nm)))) := hide (by unfold n4; rfl)
        clear hbx hok
        obtain ⟨T1, hT1⟩ : ∃ T1, T1 = nameB x.type := ⟨_, rfl⟩
        obtain ⟨T2, hT2⟩ : ∃ T2, T2 = apartT (x.sets.map (fun x => x.nm)) := ⟨_, rfl⟩
        rw [← hT1] at HNm HG
        rw [← hT2] at HAp HG
        clear hT1 hT2
        cases T1 with
        | false =>
          have hb := any_snoc_t (pre := pre) (p := n4) (x := x) (by rw [unhide HG]; rfl)
          have HO := hide ((unhide HU).out (unhide HBZ) (Below.refl _ _) hlo4 (unhide HMZ) true)
          gi_wp2_with fail
          refine ⟨trivial, (CallsIn.inRound l (callsIn_wide.2 (unhide HNm))).mono ?_⟩
          rintro e w5 ⟨rfl, rfl⟩
          gi_wp2
          all_goals first
            | exact ⟨(unhide HO).1, rfl, hb, (unhide HO).2.1, (unhide HO).2.2.1, (unhide HO).2.2.2⟩
            | (refine ⟨trivial, ?_⟩
               gi_wp2
               exact ⟨(unhide HO).1, rfl, hb, (unhide HO).2.1, (unhide HO).2.2.1, (unhide HO).2.2.2⟩)
        | true =>
        have x1 : Z.cell? ⟨Bx, 1, none⟩ = some (.slice x.a x.sets.length x.c) := (cell_of_row _ _ _ _ _ _ (unhide HRow)).trans rfl
        have HC5 := hide (unhide HAp Z (Below.refl _ _))
        cases T2 with
        | false =>
          have hb := any_snoc_t (pre := pre) (p := n4) (x := x) (by rw [unhide HG]; rfl)
          gi_wp2_with fail
          refine ⟨trivial, (CallsIn.inRound l (callsIn_wide.2 (unhide HNm))).mono ?_⟩
          rintro e w5 ⟨rfl, rfl⟩
          gi_wp2_with fail
          refine ⟨trivial, (CallsIn.inRound l (callsIn_wide.2 (unhide HC5))).mono ?_⟩
          rintro e w6 ⟨rfl, b6⟩
          have HO := hide ((unhide HU).out (unhide HBZ) b6 hlo4 (unhide HMZ) true)
          clear t0 t1
          obtain ⟨t0, t1⟩ := (unhide HU).res ((unhide HBZ).trans (b6.mono (unhide HBZ).size))
          clear b6
          gi_wp2
          exact ⟨(unhide HO).1, rfl, hb, (unhide HO).2.1, (unhide HO).2.2.1, (unhide HO).2.2.2⟩
        | true =>
        have hb := any_snoc_f (unhide HP0) (show n4 x = false by rw [unhide HG]; rfl)
        gi_wp2_with fail
        refine ⟨trivial, (CallsIn.inRound l (callsIn_wide.2 (unhide HNm))).mono ?_⟩
        rintro e w5 ⟨rfl, rfl⟩
        gi_wp2_with fail
        refine ⟨trivial, (CallsIn.inRound l (callsIn_wide.2 (unhide HC5))).mono ?_⟩
        rintro e w6 ⟨rfl, b6⟩
        have HB6 := hide b6
        clear b6
        gi_wp2
        exact ⟨unhide HB6, hb, (unhide HBZ).trans ((unhide HB6).mono (unhide HBZ).size), (unhide HMZ).grown (unhide HB6)⟩

      case done4 =>
        rintro D4 X4 hD4 ⟨ha4, hbX4, hmX4⟩ hK4
        have HA4 : Hid ((emitsV hs).any n4 = false) := hide ha4
        have HB4 := hide hbX4
        have hlt4 : Y4.heap.size ≤ D4 := hD4
        have HMK4 := hide (hmX4.cons (Nat.le_trans (unhide HYB4).size hD4) hK4)
        have HND4 : Hid ((D4 :: []).Nodup) := hide (by
          simp)
        clear ha4 hbX4 hmX4 hK4 hD4

        obtain ⟨r0, r1⟩ := (unhide HU).cells (unhide HB4)
        have HL5 : Hid (SlOf 3 EvR w2 (.slice va M vc) vs) := hide (by have := (unhide HT).evol; rw [← unhide HM] at this; exact this)
        gi_wp2
        gi_loopw [7, 45] (fun _ i wr => ∃ (k : Nat), i = .int .i64 k ∧ k ≤ M ∧ Hid ((vs.take k).any n5 = false) ∧ Hid (Below w2.heap.size w2 wr) ∧ Hid (Mk w2.heap.size [D4] wr)) (fun _ i _ => M - (intOf i).toNat)
        case atStart => exact ⟨0, rfl, by omega, hide rfl, HB4, HMK4⟩
        case round =>
          obtain ⟨k, rfl, hk, HA5, HB5s, HMK5⟩ := hrel
          by_cases hlt : k < M
          · have hlt' : (k : Int) < (M : Int) := by omega
            obtain ⟨x, huk⟩ : ∃ u, vs[k]? = some u := ⟨_, List.getElem?_eq_getElem (by have := unhide HM; omega)⟩
            have HUk := hide huk
            obtain ⟨b, off, hma, -, d0, d1, d2, d3⟩ := ((unhide HL5).grown (fun _ _ _ _ _ => EvR.grown) (unhide HB5s)).at huk
            rw [hma]
            have hb4 : Below wr.heap.size wr (wr.alloc (.cells x.v 74)) := (Below.refl _ _).alloc (Nat.le_refl _) _
            have HB4 := hide hb4
            obtain ⟨t0, t1⟩ := (unhide HU).res ((unhide HB5s).trans (hb4.mono (unhide HB5s).size))
            dsimp only [EvV.v] at t0 t1
            clear huk hb4
            have hd3 := d3
            have HRow : Hid ((wr.alloc (.cells x.v 74)).heap[wr.heap.size]? = some (.cells x.v 74)) := hide (heap_alloc_new _ _)
            have HC5 := hide (containsAssign_umisnamedC5 x.sa x.sc x.sets (fun a => !nameB a.nm) (wr.alloc (.cells x.v 74)) (d3.1.grown (fun _ _ _ _ _ => AsR.grown) (unhide HB4)) (fun W y hy hW => umisnamedC5_any y W))
            have HC6 : Hid (∀ W, Below (wr.alloc (.cells x.v 74)).heap.size (wr.alloc (.cells x.v 74)) W → Calls Tryz.prog 59 #[.slice x.da x.drops.length x.dc, .func (.func 60) #[] #[]] W fun e w' => e = .returned (.bool (x.drops.any (fun d => !nameB d))) ∧ Below W.heap.size W w') := hide (fun W hW => containsString_umisnamedC6 x.da x.dc x.drops (fun d => !nameB d) W ((hd3.2.grown (fun _ _ _ _ _ => StAt.grown) (unhide HB4)).grown (fun _ _ _ _ _ => StAt.grown) hW) (fun W' y hy _ => umisnamedC6_any y (x.dfit y hy) W'))
            have HG : Hid (n5 x = (x.sets.any (fun a => !nameB a.nm) || x.drops.any (fun d => !nameB d))) := hide (by unfold n5; rfl)
            have HNx : Hid (n5 x = false → (vs.take (k + 1)).any n5 = false) := hide (fun h => any_take (unhide HUk) (unhide HA5) h)
            have HTx : Hid (n5 x = true → R = true) := hide (fun h => by rw [unhide HR]; simp only [any_at (unhide HUk) h, Bool.or_true, Bool.true_or])
            dsimp only [EvV.v] at HC5
            obtain ⟨T1, hT1⟩ : ∃ T1, T1 = x.sets.any (fun a => !nameB a.nm) := ⟨_, rfl⟩
            obtain ⟨T2, hT2⟩ : ∃ T2, T2 = x.drops.any (fun d => !nameB d) := ⟨_, rfl⟩
            rw [← hT1] at HC5 HG
            rw [← hT2] at HC6 HG
            clear hT1 hT2 d3 hd3
            gi_wp2_with fail
            refine ⟨trivial, (callsIn_wide.2 (unhide HC5)).mono ?_⟩
            rintro e w5 ⟨rfl, b5⟩
            have HB45 := hide ((unhide HB4).trans (b5.mono (unhide HB4).size))
            have HO := hide ((unhide HU).out (unhide HB5s) (unhide HB45) (Nat.le_refl _) (unhide HMK5) true)
            clear t0 t1
            obtain ⟨t0, t1⟩ := (unhide HU).res ((unhide HB5s).trans ((unhide HB45).mono (unhide HB5s).size))
            have z2 : w5.cell? ⟨wr.heap.size, 2, none⟩ = some (.slice x.da x.drops.length x.dc) := (cell_of_row _ _ _ _ _ _ (rowKept (unhide HRow) b5 (Nat.le_refl _))).trans rfl
            have HC7 := hide (unhide HC6 w5 b5)
            clear b5
            cases T1 with
            | true =>
              have e := unhide HTx (by rw [unhide HG]; rfl)
              subst e
              gi_wp2
              exact leave_b rfl rfl hqlo hwlo [D4] _ (by simp) (unhide HO).2.2.2 (unhide HO).2.1 (unhide HO).2.2.1
            | false =>
            clear HO
            gi_wp2_with fail
            refine ⟨trivial, (callsIn_wide.2 (unhide HC7)).mono ?_⟩
            rintro e w6 ⟨rfl, b6⟩
            have HB46 := hide ((unhide HB45).trans (b6.mono (unhide HB45).size))
            have HO := hide ((unhide HU).out (unhide HB5s) (unhide HB46) (Nat.le_refl _) (unhide HMK5) true)
            clear t0 t1 b6 z2
            obtain ⟨t0, t1⟩ := (unhide HU).res ((unhide HB5s).trans ((unhide HB46).mono (unhide HB5s).size))
            cases T2 with
            | true =>
              have e := unhide HTx (by rw [unhide HG]; rfl)
              subst e
              gi_wp2
              exact leave_b rfl rfl hqlo hwlo [D4] _ (by simp) (unhide HO).2.2.2 (unhide HO).2.1 (unhide HO).2.2.1
            | false =>
            have HA2 := hide (unhide HNx (by rw [unhide HG]; rfl))
            gi_wp2
            go_roundw
            case rel => exact ⟨k + 1, by congr 1, by omega, HA2, hide ((unhide HB5s).trans ((unhide HB46).mono (unhide HB5s).size)), hide ((unhide HMK5).grown (unhide HB46))⟩
            case measure => simp [intOf]; omega

          · have hlt' : ¬ (k : Int) < (M : Int) := by omega
            replace HA5 : Hid (vs.any n5 = false) := hide (by have := unhide HA5; rwa [List.take_of_length_le (by have := unhide HM; omega)] at this)

            obtain ⟨r0, r1⟩ := (unhide HU).cells (unhide HB5s)
            have hb6 : Below wr.heap.size wr (wr.alloc (.cells (rulV ha N hc va M vc) 25)) := (Below.refl _ _).alloc (Nat.le_refl _) _
            have hq6 : (wr.alloc (.cells (rulV ha N hc va M vc) 25)).heap[wr.heap.size]? = some (.cells (rulV ha N hc va M vc) 25) := heap_alloc_new _ _
            have hbb6 := (unhide HB5s).trans (hb6.mono (unhide HB5s).size)
            have hmm6 := (unhide HMK5).grown hb6
            obtain ⟨Y6, hY6⟩ : ∃ Y, Y = wr.alloc (.cells (rulV ha N hc va M vc) 25) := ⟨_, rfl⟩
            rw [← hY6] at hq6 hbb6 hmm6
            have HY6 := hide hY6
            have HYB6 := hide hbb6
            have HYM6 := hide hmm6
            have HG6 := hide (expressions_goes wr.heap.size ha hc hs va vc vs Y6 (by rw [← unhide HN, ← unhide HM]; exact hq6) ((unhide HT).grown hbb6))
            clear hb6 hq6 hbb6 hmm6 hY6
            gi_wp2_with fail
            refine ⟨trivial, (callsIn_wide.2 (expressions_any _ _ _ _ _ _ _)).mono ?_⟩
            rintro e w' ⟨rfl, rfl⟩
            clear r0 r1
            gi_wp2
            rw [show wr.alloc (.cells #[.slice ha N hc, .slice va M vc] 25) = Y6 from (unhide HY6).symm]
            refine range_box (gf := 87) (lb := #[.pointer (some ⟨wr.heap.size, 0, none⟩)]) rfl (enters_of Tryz.func87 (by kernel_rfl) rfl) (unhide HG6) (Below.refl _ _)
              (fun (pre : List Nd) X => Non n6 pre ∧ Below w2.heap.size w2 X ∧ Mk w2.heap.size [D4] X)
              (fun c pre X => c = .ret ∧ Som n6 pre ∧ X.heap[w.heap.size + 1]? = some (.cells #[.bool true] 4) ∧ Below w.heap.size w X ∧ Mk w2.heap.size [D4] X)
              (fun s A C h hb => ⟨h.1, h.2.1.trans (hb.mono (unhide HYB6).size), Mk.kept (B := 0) (unhide HYM6) h.2.2 hb⟩)
              (fun c s A C h hb => by
                obtain ⟨h1, h2, h3, h4, h5⟩ := h
                have hlt : w.heap.size + 1 < Y6.heap.size := by have := (unhide HYB6).size; omega
                exact ⟨h1, h2, (hb.block _ hlt).trans h3, h4.trans (hb.mono (Nat.le_trans hwlo (unhide HYB6).size)), Mk.kept (B := 0) (unhide HYM6) h5 hb⟩)
              ⟨rfl, unhide HYB6, unhide HYM6⟩ 44 8 ?assign6 ?body6 ?done6 ?stop6
            case assign6 =>
              intro l' x X K hK
              simp only [rdAct, List.setIfInBounds_toArray, List.set_cons_zero, List.set_cons_succ, ndv] at hK ⊢
              gi_wp2
              exact hK
            case stop6 =>
              rintro D c pre X hD hpre ⟨rfl, ha1, hrow, hbw, hmk⟩ hK
              have e : R = true := by rw [unhide HR]; simp only [any_of_pre hpre ha1, Bool.or_true]
              subst e
              have hD' : w2.heap.size ≤ D := Nat.le_trans (unhide HYB6).size hD
              have hnd : (D :: [D4]).Nodup := by
                rw [List.nodup_cons]
                refine ⟨fun hin => ?_, unhide HND4⟩
                have h1 := (Array.getElem?_eq_some_iff.1 (unhide HYM6 _ hin).2).1
                omega
              have hmk2 := hmk.cons hD' hK
              gi_wp2
              exact leave_b rfl rfl hqlo hwlo (D :: [D4]) X hnd hmk2 hrow hbw
            case body6 =>
              rintro l pre x Bx Z ⟨hp0, hbZ, hmZ⟩ hbx hpre
              have HP0 := hide hp0
              have HBZ := hide hbZ
              have HMZ := hide hmZ
              obtain ⟨t0, t1⟩ := (unhide HU).res hbZ
              have HMem : Hid (x ∈ exprsV hs vs) := hide (hpre.subset (by simp))
              have hlo6 : w2.heap.size ≤ Y6.heap.size := (unhide HYB6).size
              clear hp0 hbZ hmZ hpre
              simp only [rdAct, List.setIfInBounds_toArray, List.set_cons_zero, List.set_cons_succ, ndv]
              have hat : x.at Z := Nd.grown ((unhide HT).ex (unhide HMem)) (unhide HBZ)
              obtain ⟨x0, x1, x2, x3, -⟩ := XBox.cells (x := x.x) (a := x.a) (c := x.c) hbx
              have HG2 : Hid (n6 x = (nodesX x.x).any (fun y => nmsX y && !nameB y.s)) := hide (by unfold n6 badNameX; rfl)
              have HC5 := hide (nodes_any x Z hat)
              clear hbx hat
              gi_wp2_with fail
              refine ⟨trivial, (CallsIn.inRound l (callsIn_wide.2 (unhide HC5))).mono ?_⟩
              rintro e w6 ⟨v, nl, rfl, hr, hna, hnl, b6⟩
              obtain ⟨na, nc, rfl, hsl⟩ := hr.slof (fun y hy => Nd.grown (hna y hy) b6)
              have HC6 := hide (containsExpr_umisnamedC7 na nc nl (fun y => nmsX y.x && !nameB y.x.s) w6 hsl (fun W y hy hW => umisnamedC7_any y W (Nd.grown (Nd.grown (hna y hy) b6) hW)))
              have HE : Hid (n6 x = nl.any (fun y => nmsX y.x && !nameB y.x.s)) := hide (by
                rw [unhide HG2, ← hnl, any_mapN])
              have HB6 := hide b6
              obtain ⟨nn, hnn⟩ : ∃ nn, nn = nl.length := ⟨_, rfl⟩
              rw [← hnn] at HC6 ⊢
              clear hr hna hnl b6 hsl hnn x0 x1 x2 x3
              cases h4 : nl.any (fun y => nmsX y.x && !nameB y.x.s) with
              | true =>
                have hb := any_snoc_t (pre := pre) (p := n6) (x := x) (by rw [unhide HE, h4])
                rw [h4] at HC6
                clear h4
                gi_wp2_with fail
                refine ⟨trivial, (CallsIn.inRound l (callsIn_wide.2 (unhide HC6))).mono ?_⟩
                rintro e w7 ⟨rfl, b7⟩
                have hb7 := (unhide HB6).trans (b7.mono (unhide HB6).size)
                have HO := hide ((unhide HU).out (unhide HBZ) hb7 hlo6 (unhide HMZ) true)
                clear t0 t1
                obtain ⟨t0, t1⟩ := (unhide HU).res ((unhide HBZ).trans (hb7.mono (unhide HBZ).size))
                clear b7 hb7
                gi_wp2
                exact ⟨(unhide HO).1, rfl, hb, (unhide HO).2.1, (unhide HO).2.2.1, (unhide HO).2.2.2⟩
              | false =>
                have hb := any_snoc_f (unhide HP0) (show n6 x = false by rw [unhide HE, h4])
                rw [h4] at HC6
                clear h4
                gi_wp2_with fail
                refine ⟨trivial, (CallsIn.inRound l (callsIn_wide.2 (unhide HC6))).mono ?_⟩
                rintro e w7 ⟨rfl, b7⟩
                have HB7 := hide ((unhide HB6).trans (b7.mono (unhide HB6).size))
                clear b7
                gi_wp2
                exact ⟨unhide HB7, hb, (unhide HBZ).trans ((unhide HB7).mono (unhide HBZ).size), (unhide HMZ).grown (unhide HB7)⟩

            case done6 =>
              rintro D6 X6 hD6 ⟨ha6, hbX6, hmX6⟩ hK6
              have HA6 : Hid ((exprsV hs vs).any n6 = false) := hide ha6
              have HB6 := hide hbX6
              have hlt6 : Y6.heap.size ≤ D6 := hD6
              have HMK6 := hide (hmX6.cons (Nat.le_trans (unhide HYB6).size hD6) hK6)
              have HND6 : Hid ((D6 :: [D4]).Nodup) := hide (by
                rw [List.nodup_cons]
                refine ⟨fun hin => ?_, unhide HND4⟩
                have h1 := (Array.getElem?_eq_some_iff.1 (unhide HYM6 _ hin).2).1
                omega)
              clear ha6 hbX6 hmX6 hK6 hD6

              have e : R = false := by
                rw [unhide HR, unhide HA3, unhide HA4, unhide HA5, unhide HA6]; rfl
              subst e
              have HO := hide ((unhide HU).out (unhide HB6) (Below.refl _ _) (Nat.le_refl _) (unhide HMK6) false)
              obtain ⟨t0, t1⟩ := (unhide HU).res (unhide HB6)
              gi_wp2
              exact leave_b rfl rfl hqlo hwlo [D6, D4] _ (unhide HND6) (unhide HO).2.2.2 (unhide HO).2.1 (unhide HO).2.2.1

end Go.Proofs.YtingpmgpjmlioaaGreatDoor

namespace Go.Proofs.YtingpmgpjmlioaaGreatDoor
open Go.RowKit
set_option linter.unusedVariables false

set_option maxHeartbeats 4000000 in
theorem uCheck_any (ha : Option Addr) (hc : Nat) (hs : List HaV) (va : Option Addr) (vc : Nat) (vs : List EvV) (w : World) (ht : TabR w ha hc hs va vc vs) :
    Calls Tryz.prog 7 #[.agg (rulV ha hs.length hc va vs.length vc)] w fun e w' => e = .returned (.int .i64 (checkT (hs.map HaV.p) (vs.map EvV.p))) ∧ Below w.heap.size w w' := by
  have hb1 : Below w.heap.size w (w.alloc (.cells (rulV ha hs.length hc va vs.length vc) 25)) := (Below.refl _ _).alloc (Nat.le_refl _) _
  have hx1 : (w.alloc (.cells (rulV ha hs.length hc va vs.length vc) 25)).heap[w.heap.size]? = some (.cells (rulV ha hs.length hc va vs.length vc) 25) := heap_alloc_new _ _
  have ht1 := ht.grown hb1
  obtain ⟨Z1, hZ1⟩ : ∃ Z1, Z1 = tooManyR (hs.map HaV.p) (vs.map EvV.p) := ⟨_, rfl⟩
  obtain ⟨Z2, hZ2⟩ : ∃ Z2, Z2 = misnamedR (hs.map HaV.p) (vs.map EvV.p) := ⟨_, rfl⟩
  obtain ⟨Z3, hZ3⟩ : ∃ Z3, Z3 = misformedR (hs.map HaV.p) (vs.map EvV.p) := ⟨_, rfl⟩
  obtain ⟨K, hK⟩ : ∃ K, K = checkT (hs.map HaV.p) (vs.map EvV.p) := ⟨_, rfl⟩
  have HK : Hid (K = if Z1 then 130 else if Z2 then 131 else if Z3 then 132 else 0) := hide (by rw [hK, hZ1, hZ2, hZ3]; rfl)
  obtain ⟨w1, hw1⟩ : ∃ w1, w1 = w.alloc (.cells (rulV ha hs.length hc va vs.length vc) 25) := ⟨_, rfl⟩
  rw [← hw1] at hb1 hx1 ht1
  have HC1 : Hid (∀ W, Below w1.heap.size w1 W → Calls Tryz.prog 17 #[.agg (rulV ha hs.length hc va vs.length vc)] W fun e w' => e = .returned (.bool Z1) ∧ Below W.heap.size W w') := hide (fun W hW => by rw [hZ1]; exact tooMany_any ha hc hs va vc vs W (ht1.grown hW))
  have HC2 : Hid (∀ W, Below w1.heap.size w1 W → Calls Tryz.prog 18 #[.agg (rulV ha hs.length hc va vs.length vc)] W fun e w' => e = .returned (.bool Z2) ∧ Below W.heap.size W w') := hide (fun W hW => by rw [hZ2]; exact misnamed_any ha hc hs va vc vs W (ht1.grown hW))
  have HC3 : Hid (∀ W, Below w1.heap.size w1 W → Calls Tryz.prog 19 #[.agg (rulV ha hs.length hc va vs.length vc)] W fun e w' => e = .returned (.bool Z3) ∧ Below W.heap.size W w') := hide (fun W hW => by rw [hZ3]; exact misformed_any ha hc hs va vc vs W (ht1.grown hW))
  have HR : Hid (∀ W, Below w1.heap.size w1 W → W.cell? ⟨w.heap.size, 0, none⟩ = some (.slice ha hs.length hc) ∧ W.cell? ⟨w.heap.size, 1, none⟩ = some (.slice va vs.length vc)) := hide (fun W hW => ⟨kept hW ((cell_of_row _ _ _ _ _ _ hx1).trans rfl), kept hW ((cell_of_row _ _ _ _ _ _ hx1).trans rfl)⟩)
  have HW := hide hw1
  have HB1 := hide hb1
  rw [← hK]
  obtain ⟨N, hN⟩ : ∃ N, N = hs.length := ⟨_, rfl⟩
  obtain ⟨M, hM⟩ : ∃ M, M = vs.length := ⟨_, rfl⟩
  rw [← hN, ← hM] at HC1 HC2 HC3 HR HW ⊢
  clear ht hb1 hx1 ht1 hZ1 hZ2 hZ3 hK hw1 hN hM
  go_enter Tryz.func7, Tryz.ntmps7
  go_upto_region 1 with fail
  rw [show w.alloc (.cells #[.slice ha N hc, .slice va M vc] 25) = w1 from (unhide HW).symm]
  obtain ⟨r0, r1⟩ := unhide HR w1 (Below.refl _ _)
  have HD1 := hide (unhide HC1 w1 (Below.refl _ _))
  cases Z1 with
  | true =>
    go_wp2_with (go_at_call 17; refine (unhide HD1).mono ?_; rintro e w3 ⟨rfl, b3⟩; have HB3 := hide ((unhide HB1).trans (b3.mono (unhide HB1).size)); clear b3)
    go_ret
    exact ⟨by rw [unhide HK]; rfl, unhide HB3⟩
  | false =>
    go_upto_region 3 with (go_at_call 17; refine (unhide HD1).mono ?_; rintro e w3 ⟨rfl, b3⟩; have HB3 := hide b3; clear b3)
    clear r0 r1
    obtain ⟨r0, r1⟩ := unhide HR w3 (unhide HB3)
    have HD2 := hide (unhide HC2 w3 (unhide HB3))
    cases Z2 with
    | true =>
      go_wp2_with (go_at_call 18; refine (unhide HD2).mono ?_; rintro e w4 ⟨rfl, b4⟩; have HB4 := hide ((unhide HB3).trans (b4.mono (unhide HB3).size)); clear b4)
      go_ret
      exact ⟨by rw [unhide HK]; rfl, (unhide HB1).trans ((unhide HB4).mono (unhide HB1).size)⟩
    | false =>
      go_upto_region 5 with (go_at_call 18; refine (unhide HD2).mono ?_; rintro e w4 ⟨rfl, b4⟩; have HB4 := hide ((unhide HB3).trans (b4.mono (unhide HB3).size)); clear b4)
      clear r0 r1
      obtain ⟨r0, r1⟩ := unhide HR w4 (unhide HB4)
      have HD3 := hide (unhide HC3 w4 (unhide HB4))
      cases Z3 with
      | true =>
        go_wp2_with (go_at_call 19; refine (unhide HD3).mono ?_; rintro e w5 ⟨rfl, b5⟩; have HB5 := hide ((unhide HB4).trans (b5.mono (unhide HB4).size)); clear b5)
        go_ret
        exact ⟨by rw [unhide HK]; rfl, (unhide HB1).trans ((unhide HB5).mono (unhide HB1).size)⟩
      | false =>
        go_wp2_with (go_at_call 19; refine (unhide HD3).mono ?_; rintro e w5 ⟨rfl, b5⟩; have HB5 := hide ((unhide HB4).trans (b5.mono (unhide HB4).size)); clear b5)
        go_ret
        exact ⟨by rw [unhide HK]; rfl, (unhide HB1).trans ((unhide HB5).mono (unhide HB1).size)⟩
end Go.Proofs.YtingpmgpjmlioaaGreatDoor
