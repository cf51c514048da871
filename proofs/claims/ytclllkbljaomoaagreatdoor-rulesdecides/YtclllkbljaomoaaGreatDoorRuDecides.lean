/-
  DERIVED. RulesDecides: any command, by any table, comes to what the document says.
-/
import Derived.Test.YtclllkbljaomoaaGreatDoorRuEs
import Derived.Test.YtclllkbljaomoaaGreatDoorRuOd
import Derived.Test.YtclllkbljaomoaaGreatDoorRuTb
import Derived.Test.YtclllkbljaomoaaGreatDoorUpLaid
import Derived.Test.YtclllkbljaomoaaGreatDoorCards
import Derived.Test.YtclllkbljaomoaaGreatDoorTie
import Derived.SevenTiedAt
namespace Go.Proofs.YtclllkbljaomoaaGreatDoor
open Go.ChangeShapes Go.WideShapes Go.ChangeAt Go.RowKit
open Go.ChangeMaps (open_string shut_string)
set_option linter.unusedVariables false

def mineH : Fld := ⟨[109, 105, 110, 101], false, 0, []⟩

set_option maxRecDepth 20000 in
set_option maxHeartbeats 16000000 in
theorem RuDecides.walk (ha : Option Addr) (hc : Nat) (hs : List Ha) (va : Option Addr) (vn vc : Nat) (s : ByteArray) (la : Option Addr) (lc : Nat) (l : List Fld) (cs : ByteArray) (ma : Option Addr) (mc : Nat) (m : List Fld) (w : World)
    (ht : SlOf 3 HaAt w (.slice ha hs.length hc) hs) (hbig : ∀ h ∈ hs, bigHaP h) (hst : s.data.toList.length ≤ 140737488355328) (hl : FdN w la lc l) (hl16 : l.length * 48 ≤ 140737488351232) (hfs : ∀ f ∈ l, small f) (hm : FdN w ma mc m) (hm16 : m.length * 48 ≤ 140737488351232) (hfg : ∀ f ∈ m, small f) (hva : Vars w) :
    Calls Tryz.prog 6 #[.agg (rulV ha hs.length hc va vn vc), .string s, .slice la l.length lc, .string cs, .slice ma m.length mc] w fun e w' => e = .returned (.bool true) ∧ Below w.heap.size w w' := by
  rw [str_list s, str_list cs]
  obtain ⟨st, hste⟩ : ∃ st, st = s.data.toList := ⟨_, rfl⟩
  obtain ⟨cmd, hcmd⟩ : ∃ cmd, cmd = cs.data.toList := ⟨_, rfl⟩
  rw [← hste] at hst ⊢
  rw [← hcmd]
  clear hste hcmd
  obtain ⟨Y, hY, hsV⟩ := haPick ht (fun x hx => (hbig x hx).1)
  have hb1 : Below w.heap.size w (w.alloc (.cells (rulV ha hs.length hc va vn vc) 26)) := (Below.refl _ _).alloc (Nat.le_refl _) _
  have hr1 : (w.alloc (.cells (rulV ha hs.length hc va vn vc) 26)).heap[w.heap.size]? = some (.cells (rulV ha hs.length hc va vn vc) 26 (0, 0)) := heap_alloc_new _ _
  obtain ⟨w1, hw1⟩ : ∃ w1, w1 = w.alloc (.cells (rulV ha hs.length hc va vn vc) 26) := ⟨_, rfl⟩
  rw [← hw1] at hb1 hr1
  have HW := hide hw1
  obtain ⟨B, hB⟩ : ∃ B, B = w.heap.size := ⟨_, rfl⟩
  rw [← hB] at hr1
  have HBe := hide hB
  obtain ⟨R, hR⟩ : ∃ R, R = decE st l m hs cmd := ⟨_, rfl⟩
  have HSB : Hid (∀ W, Below w1.heap.size w1 W → (W.cell? ⟨B, 0, none⟩ = some (.slice ha hs.length hc) ∧ W.cell? ⟨B, 1, none⟩ = some (.slice va vn vc))) := hide (fun W hW => ⟨kept hW ((cell_of_row _ _ _ _ _ _ hr1).trans rfl), kept hW ((cell_of_row _ _ _ _ _ _ hr1).trans rfl)⟩)
  have HBW : Hid (∀ W, Below w1.heap.size w1 W → Below w.heap.size w W) := hide (fun W hW => hb1.trans (hW.mono hb1.size))
  have HLW : Hid (∀ W, Below w1.heap.size w1 W → FdN W la lc l) := hide (fun W hW => hl.below (hb1.trans (hW.mono hb1.size)) (Nat.le_refl _))
  have HMW : Hid (∀ W, Below w1.heap.size w1 W → FdN W ma mc m) := hide (fun W hW => hm.below (hb1.trans (hW.mono hb1.size)) (Nat.le_refl _))
  have HDe : Hid (∀ (W : World) (a : Option Addr) (c : Nat) (a' : Option Addr) (c' : Nat), Below w1.heap.size w1 W → FdL W (.slice a l.length c) l → FdL W (.slice a' m.length c') m → Calls Tryz.prog 16 #[.agg #[.slice ha hs.length hc, .slice va vn vc], sv st, .slice a l.length c, sv cmd, .slice a' m.length c'] W (CaughtD W R)) := hide (fun W a c a' c' hW h1 h2 => by
    have h := hb1.trans (hW.mono hb1.size)
    have e : hs.length = Y.length := by rw [← hY]; simp
    rw [hR, e, ← hY]
    refine Decide_any ha hc Y va vn vc st l m a c cmd a' c' W ?_ (bigHaP.v hY hbig) h1 h2 hst hfs hfg (hva.below h (Nat.le_refl _))
    rw [← e]
    exact hsV.grown (fun _ _ _ _ _ => HaR.grown) h)
  have HrD : Hid (∀ (W : World), Below w1.heap.size w1 W → Calls Tryz.prog 17 #[.agg #[.slice ha hs.length hc, .slice va vn vc], sv st, .slice la l.length lc, sv cmd, .slice ma m.length mc] W (CaughtD W R)) := hide (fun W hW => by
    have h := hb1.trans (hW.mono hb1.size)
    rw [hR]
    exact rDecide_any ha hc hs va vn vc st l m la lc cmd ma mc W (ht.grown (fun _ _ _ _ _ => HaAt.grown) h) (bigHaP.r hbig) (hl.1.below h (Nat.le_refl _)) (hm.1.below h (Nat.le_refl _)) hst hfs hfg (hva.below h (Nat.le_refl _)))
  have HA := hide (uawake_go w1 (hva.below hb1 (Nat.le_refl _)))
  obtain ⟨NH, hNH⟩ : ∃ NH, NH = hs.length := ⟨_, rfl⟩
  rw [← hNH] at HW HSB HDe HrD ⊢
  obtain ⟨d, hd⟩ : ∃ d, d = decV R := ⟨_, rfl⟩
  obtain ⟨N, hN⟩ : ∃ N, N = decN R := ⟨_, rfl⟩
  have HDe2 : Hid (∀ (W : World) (a : Option Addr) (c : Nat) (a' : Option Addr) (c' : Nat), Below w1.heap.size w1 W → FdL W (.slice a l.length c) l → FdL W (.slice a' m.length c') m → Calls Tryz.prog 16 #[.agg #[.slice ha NH hc, .slice va vn vc], sv st, .slice a l.length c, sv cmd, .slice a' m.length c'] W (fun e w' => ∃ a c, e = .returned (.tuple #[.agg #[.bool d.refused, sv d.reason, .slice a d.events.length c], .int .i64 N]) ∧ EvOwn w' W.heap.size (.slice a d.events.length c) d.events ∧ Below W.heap.size W w')) := hide (fun W a c a' c' hW h1 h2 => by rw [hd, hN]; exact (unhide HDe W a c a' c' hW h1 h2).mono fun e w' q => caughtD_two q)
  have HrD2 : Hid (∀ (W : World), Below w1.heap.size w1 W → Calls Tryz.prog 17 #[.agg #[.slice ha NH hc, .slice va vn vc], sv st, .slice la l.length lc, sv cmd, .slice ma m.length mc] W (fun e w' => ∃ a c, e = .returned (.tuple #[.agg #[.bool d.refused, sv d.reason, .slice a d.events.length c], .int .i64 N]) ∧ EvOwn w' W.heap.size (.slice a d.events.length c) d.events ∧ Below W.heap.size W w')) := hide (fun W hW => by rw [hd, hN]; exact (unhide HrD W hW).mono fun e w' q => caughtD_two q)
  obtain ⟨rf, rs, evs⟩ := d
  obtain ⟨NE, hNE⟩ : ∃ NE, NE = evs.length := ⟨_, rfl⟩
  simp only at HDe2 HrD2
  rw [← hNE] at HDe2 HrD2
  clear hw1 hb1 hr1 hB ht hbig hl hm hst hfs hfg hva hR hNH hd hN HDe HrD hsV hY hNE
  go_enter Tryz.func6, Tryz.ntmps6
  go_upto_region 1 with fail
  rw [show w.alloc (.cells #[Value.slice ha NH hc, .slice va vn vc] 26) = w1 from (unhide HW).symm]
  rw [← unhide HBe]
  go_upto_region 2 with (go_at_call 9; refine (unhide HA).mono ?_; rintro e w2 ⟨rfl, b2⟩; have HK2 := hide b2; clear b2)
  have hb0 : Below w2.heap.size w2 (w2.alloc (.cells #[] 37)) := (Below.refl _ _).alloc (Nat.le_refl _) _
  have HB0 := hide hb0
  have HV0 := hide ((unhide HLW w2 (unhide HK2)).below hb0 (Nat.le_refl _))
  have HO0 := hide (fown_empty w2)
  clear hb0 HA
  go_upto_region 3 with (at_builtin; refine wpList_append_flds rfl (.tmp 27) (.tmp 28) rfl w2.heap.size _ [] rfl (unhide HO0) la lc l rfl (unhide HV0) (by simp; omega) (unhide HB0).size ?_; intro v3 w3 own3 b3; have HO3 : Hid (FOwn w3 w2.heap.size v3 l) := hide (by simpa using own3); have HK3 := hide ((unhide HK2).trans (((unhide HB0).trans b3).mono (unhide HK2).size)); clear own3 b3)
  obtain ⟨sa, sc, rfl, hsf⟩ := (unhide HO3).fdn
  have HSf := hide hsf
  clear hsf HB0 HV0 HO0 HO3
  have hb0 : Below w3.heap.size w3 (w3.alloc (.cells #[] 37)) := (Below.refl _ _).alloc (Nat.le_refl _) _
  have HB0 := hide hb0
  have HV0 := hide ((unhide HMW w3 (unhide HK3)).below hb0 (Nat.le_refl _))
  have HO0 := hide (fown_empty w3)
  clear hb0
  go_upto_region 4 with (at_builtin; refine wpList_append_flds rfl (.tmp 30) (.tmp 31) rfl w3.heap.size _ [] rfl (unhide HO0) ma mc m rfl (unhide HV0) (by simp; omega) (unhide HB0).size ?_; intro v4 w4 own4 b4; have HO4 : Hid (FOwn w4 w3.heap.size v4 m) := hide (by simpa using own4); have HB4 := hide ((unhide HB0).trans b4); clear own4 b4)
  obtain ⟨ga, gc, rfl, hgf⟩ := (unhide HO4).fdn
  have HGf := hide hgf
  have HK4 := hide ((unhide HK3).trans ((unhide HB4).mono (unhide HK3).size))
  have HSf4 := hide ((unhide HSf).below (unhide HB4) (Nat.le_refl _))
  clear hgf HB0 HV0 HO0 HO4 HSf
  obtain ⟨r0, r1⟩ := unhide HSB w4 (unhide HK4)
  have HC4 := hide (unhide HDe2 w4 sa sc ga gc (unhide HK4) (unhide HSf4).1 (unhide HGf).1)
  go_upto_region 5 with (go_at_call 16; refine (unhide HC4).mono ?_; rintro e w5 ⟨aa, ac, rfl, o5, b5⟩; have HO5 := hide o5; have HB5 := hide b5; clear o5 b5)
  clear r0 r1
  have b56 : Below w5.heap.size w5 (w5.alloc (.cells #[.bool rf, sv rs, .slice aa NE ac] 45)) := (Below.refl _ _).alloc (Nat.le_refl _) _
  have hx6 : (w5.alloc (.cells #[.bool rf, sv rs, .slice aa NE ac] 45)).heap[w5.heap.size]? = some (.cells #[.bool rf, sv rs, .slice aa NE ac] 45 (0, 0)) := heap_alloc_new _ _
  obtain ⟨w6, hw6⟩ : ∃ w6, w6 = w5.alloc (.cells #[.bool rf, sv rs, .slice aa NE ac] 45) := ⟨_, rfl⟩
  rw [show w5.alloc (.cells #[Value.bool rf, .string ⟨rs.toArray⟩, .slice aa NE ac] 45) = w6 from hw6.symm]
  rw [← hw6] at b56 hx6
  obtain ⟨D1, hD1⟩ : ∃ D1, D1 = w5.heap.size := ⟨_, rfl⟩
  have HD1 := hide hD1
  rw [← hD1] at hx6 ⊢
  have HB56 := hide b56
  have HX6 := hide hx6
  have HB6 := hide ((unhide HB5).trans (b56.mono (unhide HB5).size))
  have HK6 := hide ((unhide HK4).trans ((unhide HB6).mono (unhide HK4).size))
  clear b56 hx6 hw6 hD1
  obtain ⟨r0, r1⟩ := unhide HSB w6 (unhide HK6)
  have HC6 := hide (unhide HrD2 w6 (unhide HK6))
  go_upto_region 6 with (go_at_call 17; refine (unhide HC6).mono ?_; rintro e w7 ⟨ba, bc, rfl, o7, b7⟩; have HO7 := hide o7; have HB7 := hide b7; clear o7 b7)
  clear r0 r1
  have b78 : Below w7.heap.size w7 (w7.alloc (.cells #[.bool rf, sv rs, .slice ba NE bc] 45)) := (Below.refl _ _).alloc (Nat.le_refl _) _
  have hx8 : (w7.alloc (.cells #[.bool rf, sv rs, .slice ba NE bc] 45)).heap[w7.heap.size]? = some (.cells #[.bool rf, sv rs, .slice ba NE bc] 45 (0, 0)) := heap_alloc_new _ _
  obtain ⟨w8, hw8⟩ : ∃ w8, w8 = w7.alloc (.cells #[.bool rf, sv rs, .slice ba NE bc] 45) := ⟨_, rfl⟩
  rw [show w7.alloc (.cells #[Value.bool rf, .string ⟨rs.toArray⟩, .slice ba NE bc] 45) = w8 from hw8.symm]
  rw [← hw8] at b78 hx8
  obtain ⟨D2, hD2⟩ : ∃ D2, D2 = w7.heap.size := ⟨_, rfl⟩
  have HD2 := hide hD2
  rw [← hD2] at hx8 ⊢
  have HB68 := hide ((unhide HB7).trans (b78.mono (unhide HB7).size))
  have HX8 := hide hx8
  have HO8 := hide ((unhide HO7).below b78 (Nat.le_refl _))
  have HB58 := hide ((unhide HB56).trans ((unhide HB68).mono (unhide HB56).size))
  clear b78 hx8 hw8 hD2 HC4 HC6
  have hx68 := rowKept (unhide HX6) (unhide HB68) (Nat.le_refl _)
  obtain ⟨p0, p1, p2, -⟩ := cells3 hx68
  obtain ⟨q0, q1, q2, -⟩ := cells3 (unhide HX8)
  have HC8 := hide (SameEv_eq _ _ evs w8 ((unhide HO5).below (unhide HB58) (Nat.le_refl _)).rd (unhide HO8).rd)
  have HX68 := hide hx68
  clear hx68
  go_upto_region 7 with (go_at_call 18; refine (unhide HC8).mono ?_; rintro e w9 ⟨rfl, b9⟩; have HB9 := hide b9; clear b9)
  have HB59 := hide ((unhide HB58).trans ((unhide HB9).mono (unhide HB58).size))
  have HO9 := hide ((unhide HO8).below (unhide HB9) (Nat.le_refl _))
  have HX9 := hide (rowKept (unhide HX68) (unhide HB9) (Nat.le_refl _))
  have HY9 := hide (rowKept (unhide HX8) (unhide HB9) (Nat.le_refl _))
  have HPl := hide ((unhide HO5).pl (unhide HB59))
  have hNE := (unhide HO5).max
  have HB49 := hide ((unhide HB5).trans ((unhide HB59).mono (unhide HB5).size))
  have HK9 := hide ((unhide HK4).trans ((unhide HB49).mono (unhide HK4).size))
  clear p0 p1 p2 q0 q1 q2 HC8 HO8 HB58 HX68 HB68 HX8 HX6
  have HM0 : Hid (Mut w4.heap.size w5.heap.size w9 w9) := hide (Mut.refl _ _ _ (unhide HB49).size)
  have HV : Hid (∀ W, Mut w4.heap.size w5.heap.size w9 W → (W.cell? ⟨D1, 0, none⟩ = some (.bool rf) ∧ W.cell? ⟨D1, 1, none⟩ = some (sv rs) ∧ W.cell? ⟨D1, 2, none⟩ = some (.slice aa NE ac)) ∧ (W.cell? ⟨D2, 0, none⟩ = some (.bool rf) ∧ W.cell? ⟨D2, 1, none⟩ = some (sv rs) ∧ W.cell? ⟨D2, 2, none⟩ = some (.slice ba NE bc)) ∧ EvOwn W w6.heap.size (.slice ba NE bc) evs ∧ Below w4.heap.size w4 W) := hide (fun W hM => by
    have hs5 : w5.heap.size ≤ w6.heap.size := (unhide HB56).size
    have hs7 : w6.heap.size ≤ w7.heap.size := (unhide HB7).size
    have h1 := (hM.oth D1 (.inl (by have := unhide HD1; omega))).trans (unhide HX9)
    have h2 := (hM.oth D2 (.inl (by have := unhide HD2; omega))).trans (unhide HY9)
    obtain ⟨a0, a1, a2, -⟩ := cells3 h1
    obtain ⟨b0, b1, b2, -⟩ := cells3 h2
    exact ⟨⟨a0, a1, a2⟩, ⟨b0, b1, b2⟩, hM.own hs5 (unhide HO9), (unhide HB49).trans hM.bel⟩)
  clear HX9 HY9 HO9 HO7
  go_wp2_with fail
  go_loopw [19, 20] (fun i _ wr => ∃ (k : Nat), k ≤ NE ∧ i = .int .i64 k ∧ Hid (Mut w4.heap.size w5.heap.size w9 wr)) (fun i _ _ => NE - (intOf i).toNat)
  case atStart => exact ⟨0, by omega, rfl, HM0⟩
  case round =>
    clear HM0
    obtain ⟨k, hk, rfl, HF⟩ := hrel
    obtain ⟨⟨p0, p1, p2⟩, ⟨q0, q1, q2⟩, hob, hbw⟩ := unhide HV wr (unhide HF)
    by_cases hlt : k < NE
    · obtain ⟨ge, fa, fn, fc, rfl, hgl, hgt, hgc, ⟨hfn, hfc⟩, hfb⟩ := unhide HPl k hlt
      have hki : (k : Int) < (NE : Int) := by omega
      have hk0 : ¬ (k : Int) < 0 := by omega
      have HGc : Hid (∀ W, Mut w4.heap.size w5.heap.size w9 W → W.cell? ⟨ge, k * 3 + 2, none⟩ = some (.slice fa fn fc)) := hide (fun W hM => by
        have := hM.oth ge (.inr hgt)
        unfold World.cell? at hgc ⊢
        simp only at hgc ⊢
        rw [this]; exact hgc)
      have HFb := hide hfb
      clear hob hbw p0 p1 q0 q1 q2 hgc hgt hfb
      go_wp2_with fail
      go_loopw [20] (fun i wq => ∃ (j : Nat), j ≤ fn ∧ i = .int .i64 j ∧ Hid (Mut w4.heap.size w5.heap.size w9 wq)) (fun i _ => fn - (intOf i).toNat)
      case atStart => exact ⟨0, by omega, rfl, HF⟩
      case round =>
        clear HF p2
        obtain ⟨j, hj, rfl, HG⟩ := hrel
        rename World => W1
        obtain ⟨⟨-, -, p2⟩, -, -, -⟩ := unhide HV W1 (unhide HG)
        have gc := unhide HGc W1 (unhide HG)
        by_cases hlj : j < fn
        · rcases unhide HFb with h0 | ⟨g, cur, rfl, hg1, hg2, hg3, hg4⟩
          · omega
          · have hji : (j : Int) < (fn : Int) := by omega
            have hj0 : ¬ (j : Int) < 0 := by omega
            obtain ⟨cur', hc1, hc2⟩ := (unhide HG).shp g cur hg1 hg2 hg3
            have at' : ∀ i, i < 4 → ∃ u, W1.cell? ⟨g, j * 4 + i, none⟩ = some u := fun i hi => ⟨cur'[j * 4 + i]'(by omega), by simp only [World.cell?, hc1]; simp⟩
            obtain ⟨u0, y0⟩ := at' 0 (by omega)
            obtain ⟨u1, y1⟩ := at' 1 (by omega)
            obtain ⟨u2, y2⟩ := at' 2 (by omega)
            obtain ⟨u3, y3⟩ := at' 3 (by omega)
            rw [Nat.add_zero] at y0
            have yf : ∀ i, W1.frozen? ⟨g, i, none⟩ = false := fun i => by simp [World.frozen?, hc1]
            have HP := hide ((unhide HG).put hg1 hg2 hg3 j mineH)
            clear at' hc1 hc2 hg1 hg2 hg3 hg4
            go_wp2
            go_roundw
            case rel => exact ⟨j + 1, by omega, by go_num, hide (unhide HP)⟩
            case measure => simp [intOf]; omega
        · go_wp2_with fail
          go_roundw
          case rel => exact ⟨k + 1, by omega, by go_num, HG⟩
          case measure => simp [intOf]; omega
    · have HOB := hide hob
      have HK := hide ((unhide HK4).trans (hbw.mono (unhide HK4).size))
      have HB4 := hide hbw
      obtain ⟨r0, r1⟩ := unhide HSB wr (unhide HK)
      have HC := hide (unhide HDe2 wr sa sc ga gc (unhide HK) ((unhide HSf4).1.below hbw (Nat.le_refl _)) ((unhide HGf).1.below hbw (Nat.le_refl _)))
      have HP1 := hide (And.intro p0 p1)
      have HQ1 := hide (And.intro q0 (And.intro q1 q2))
      have HBx : Hid (∀ W, Below wr.heap.size wr W → (W.cell? ⟨D1, 0, none⟩ = some (.bool rf) ∧ W.cell? ⟨D1, 1, none⟩ = some (sv rs)) ∧ (W.cell? ⟨D2, 0, none⟩ = some (.bool rf) ∧ W.cell? ⟨D2, 1, none⟩ = some (sv rs) ∧ W.cell? ⟨D2, 2, none⟩ = some (.slice ba NE bc)) ∧ EvRd W (.slice ba NE bc) evs) := hide (fun W hW => ⟨⟨kept hW (unhide HP1).1, kept hW (unhide HP1).2⟩, ⟨kept hW (unhide HQ1).1, kept hW (unhide HQ1).2.1, kept hW (unhide HQ1).2.2⟩, ((unhide HOB).below hW (Nat.le_refl _)).rd⟩)
      clear hob hbw p0 p1 q0 q1 q2 HP1 HQ1
      go_upto_region 15 with (go_at_call 16; refine (unhide HC).mono ?_; rintro e w10 ⟨xa, xc, rfl, o10, b10⟩; have HO10 := hide o10; have HB10 := hide b10; clear o10 b10)
      clear r0 r1 p2
      have b1 : Below w10.heap.size w10 (w10.alloc (.cells #[.bool rf, sv rs, .slice xa NE xc] 45)) := (Below.refl _ _).alloc (Nat.le_refl _) _
      have hx11 : (w10.alloc (.cells #[.bool rf, sv rs, .slice xa NE xc] 45)).heap[w10.heap.size]? = some (.cells #[.bool rf, sv rs, .slice xa NE xc] 45 (0, 0)) := heap_alloc_new _ _
      obtain ⟨w11, hw11⟩ : ∃ w11, w11 = w10.alloc (.cells #[.bool rf, sv rs, .slice xa NE xc] 45) := ⟨_, rfl⟩
      rw [show w10.alloc (.cells #[Value.bool rf, .string ⟨rs.toArray⟩, .slice xa NE xc] 45) = w11 from hw11.symm]
      rw [← hw11] at b1 hx11
      obtain ⟨D3, hD3⟩ : ∃ D3, D3 = w10.heap.size := ⟨_, rfl⟩
      rw [← hD3] at hx11 ⊢
      have HB11 := hide ((unhide HB10).trans (b1.mono (unhide HB10).size))
      obtain ⟨v0, v1, v2, -⟩ := cells3 hx11
      obtain ⟨-, ⟨q0, q1, q2⟩, hrd⟩ := unhide HBx w11 (unhide HB11)
      have HC11 := hide (SameEv_eq _ _ evs w11 ((unhide HO10).below b1 (Nat.le_refl _)).rd hrd)
      clear b1 hx11 hw11 hD3 hrd HC
      have HS1 : Hid (∀ W, Below wr.heap.size wr W → Calls Tryz.prog 19 #[.slice sa l.length sc, .slice la l.length lc] W fun e w' => e = .returned (.bool true) ∧ Below W.heap.size W w') := hide (fun W hW => Same_eq _ _ l W ((unhide HSf4).1.below ((unhide HB4).trans (hW.mono (unhide HB4).size)) (Nat.le_refl _)) (unhide HLW W ((unhide HK).trans (hW.mono (unhide HK).size))).1)
      have HS2 : Hid (∀ W, Below wr.heap.size wr W → Calls Tryz.prog 19 #[.slice ga m.length gc, .slice ma m.length mc] W fun e w' => e = .returned (.bool true) ∧ Below W.heap.size W w') := hide (fun W hW => Same_eq _ _ m W ((unhide HGf).1.below ((unhide HB4).trans (hW.mono (unhide HB4).size)) (Nat.le_refl _)) (unhide HMW W ((unhide HK).trans (hW.mono (unhide HK).size))).1)
      go_upto_region 16 with (go_at_call 18; refine (unhide HC11).mono ?_; rintro e w12 ⟨rfl, b12⟩; have HB12 := hide ((unhide HB11).trans (b12.mono (unhide HB11).size)); clear b12)
      clear v0 v1 v2 q0 q1 q2 HC11
      go_upto_region 17 with (go_at_call 19; refine (unhide HS1 _ (unhide HB12)).mono ?_; rintro e w13 ⟨rfl, b13⟩; have HB13 := hide ((unhide HB12).trans (b13.mono (unhide HB12).size)); clear b13)
      go_upto_region 18 with (go_at_call 19; refine (unhide HS2 _ (unhide HB13)).mono ?_; rintro e w14 ⟨rfl, b14⟩; have HB14 := hide ((unhide HB13).trans (b14.mono (unhide HB13).size)); clear b14)
      obtain ⟨⟨p0, p1⟩, ⟨q0, q1, q2⟩, -⟩ := unhide HBx w14 (unhide HB14)
      have HE : Hid (Below w.heap.size w w14) := hide (unhide HBW _ ((unhide HK).trans ((unhide HB14).mono (unhide HK).size)))
      go_wp2_with fail
      go_ret
      exact ⟨rfl, unhide HE⟩

set_option maxRecDepth 100000 in
theorem RuDecides.lifted (os : Os) (started : os.Started) (H : Type) (enc : TypeId × Value → H) :
    ReturnsInHanded {} Tryz.checked os 6 .any (fun w args => (Rows.rulesDecidesSpec.pre enc Tryz.prog Tryz.f6 [] false w args ∧ laidMetH Tryz.prog seatLaid w) ∧ sizedMet enc Tryz.prog Tryz.f6 (OpenSpec.ofChange Rows.rulesDecidesSpec) false w args)
      (Rows.rulesDecidesSpec.post enc Tryz.prog Tryz.f6 false true false false) := by
  refine returnsInHanded_of_change_and (C := Tryz.checked) (X := fun w _ => laidMetH Tryz.prog seatLaid w) (fun _ _ _ hh h => h.of_heap hh) own_knob started (by kernel_rfl) Tryz.func6
    (ChangeSpec.witness_at (enc := enc) (C := Tryz.checked) (os := os) (X := fun w _ => laidMetH Tryz.prog seatLaid w) false (laidWorld os) #[.agg (rulV none 0 0 none 0 0), .string ⟨#[]⟩, .slice none 0 0, .string ⟨#[]⟩, .slice none 0 0] 8 rfl (by kernel_rfl) (by kernel_rfl) (by kernel_rfl) (by kernel_rfl) (by kernel_rfl) (laidWorld_met os _)) ?_
  intro W base args ds gs before hval0 hW _ hsz0 hL _
  have hval : ∀ (j : Nat) t v, Tryz.f6.params[j]? = some t → args[j]? = some v → Value.okWide Tryz.prog W .any base t v := hval0
  have hsz : (DataW.weightsEach Tryz.prog (Tryz.f6.params.toList ++ Rows.rulesDecidesSpec.plain.varTypes Tryz.prog) (ds ++ gs)).all (· ≤ reachBytes) = true := hsz0
  have hW' := hW
  obtain ⟨p, q, hA0, hV, rfl, hfz, hnd⟩ := hW
  have hA : DataW.TrodAll enc Tryz.prog W 0 (fun _ => true) true Tryz.f6.params.toList args.toList ds p := hA0
  rw [Tryz.params6] at hA hval hsz
  obtain ⟨v0, vs0, d0, ds0, p0, q0, e0, rfl, rfl, h0, hA⟩ := trodAll_cons hA
  obtain ⟨v1, vs1, d1, ds1, p1, q1, rfl, rfl, rfl, h1, hA⟩ := trodAll_cons hA
  obtain ⟨v2, vs2, d2, ds2, p2, q2, rfl, rfl, rfl, h2, hA⟩ := trodAll_cons hA
  obtain ⟨v3, vs3, d3, ds3, p3, q3, rfl, rfl, rfl, h3, hA⟩ := trodAll_cons hA
  obtain ⟨v4, vs4, d4, ds4, p4, q4, rfl, rfl, rfl, h4, hA⟩ := trodAll_cons hA
  obtain ⟨rfl, rfl, rfl⟩ := trodAll_nil hA
  obtain rfl : args = #[v0, v1, v2, v3, v4] := by cases args; simp_all
  obtain ⟨rfl, rfl⟩ := trodVars_none hV
  have k0 := h0
  have lt0 : ∀ x ∈ p0, x.block < W.heap.size := by obtain ⟨m, hm⟩ := k0; exact DataW.trod_lt m _ _ _ hm
  obtain ⟨a0, c0, l0, m0, r0, t0, rfl, g0, f0, b0, j0, o0, z0⟩ := open_ruA hsz (j := 0) rfl rfl (hval 0 26 v0 rfl rfl) h0
  obtain ⟨s1, rfl, rfl, rfl, hs1⟩ := open_string Tryz.underlying9 (hval 1 9 v1 rfl rfl) h1
  have ls1 : s1.data.toList.length ≤ 140737488351232 := by
    have := sized_string hsz (j := 1) (t := 9) rfl rfl
    simp only [reachBytes] at this
    omega
  have k2 := h2
  have lt2 : ∀ x ∈ p2, x.block < W.heap.size := by obtain ⟨m, hm⟩ := k2; exact DataW.trod_lt m _ _ _ hm
  obtain ⟨a2, c2, l2, rfl, g2, f2, b2⟩ := open_sfl hsz (j := 2) rfl rfl (okWide_slice Tryz.underlying35 (hval 2 35 v2 rfl rfl)) h2
  obtain ⟨s3, rfl, rfl, rfl, hs3⟩ := open_string Tryz.underlying9 (hval 3 9 v3 rfl rfl) h3
  have ls3 : s3.data.toList.length ≤ 140737488351232 := by
    have := sized_string hsz (j := 3) (t := 9) rfl rfl
    simp only [reachBytes] at this
    omega
  have k4 := h4
  have lt4 : ∀ x ∈ p4, x.block < W.heap.size := by obtain ⟨m, hm⟩ := k4; exact DataW.trod_lt m _ _ _ hm
  obtain ⟨a4, c4, l4, rfl, g4, f4, b4⟩ := open_sfl hsz (j := 4) rfl rfl (okWide_slice Tryz.underlying35 (hval 4 35 v4 rfl rfl)) h4
  clear hA0 hval0 hsz0
  refine (RuDecides.walk a0 c0 l0 m0 t0.length r0 s1 a2 c2 l2 s3 a4 c4 l4 W g0 f0 (by omega) g2 b2 (fun f hf => (f2 f hf).small) g4 b4 (fun f hf => (f4 f hf).small) (vars_of_laid hL)).mono fun e W' ⟨he, bel⟩ => ?_
  subst he
  exact ⟨_, rfl, _, _, _, [], _, [], hW', trodAll_mk1 (shut_bool Tryz.underlying4 _), (trodAll_cons_mk (Below.trod laid_out (by kernel_rfl) (of_decide_eq_true (by kernel_rfl)) k0 bel lt0) (trodAll_cons_mk (shut_string Tryz.underlying9 hs1) (trodAll_cons_mk (Below.trod laid_out (by kernel_rfl) (of_decide_eq_true (by kernel_rfl)) k2 bel lt2) (trodAll_cons_mk (shut_string Tryz.underlying9 hs3) (trodAll_cons_mk (Below.trod laid_out (by kernel_rfl) (of_decide_eq_true (by kernel_rfl)) k4 bel lt4) trodAll_mk0))))), rfl, bel.frame _, fun h => by cases h⟩

theorem rulesDecides_holds : Rows.RulesDecidesSaid :=
  OpenClaim.holds_of_wide 6 Tryz.f6 rfl rfl rfl rfl rfl rfl rfl ⟨rfl, rfl, rfl, rfl, rfl⟩ rfl rfl rfl rfl rfl (by kernel_rfl) Tryz.func6 (by kernel_rfl)
    (of_decide_eq_true (by kernel_rfl)) (by unfold Func.isWrapper; first | (rw [if_pos (by decide +kernel)]; kernel_rfl) | (rw [if_neg (by decide +kernel)]; exact ⟨rfl, rfl⟩))
    (fun os started H enc _ => RuDecides.lifted os started H enc)

theorem rulesDecidesCard_holds : Rows.RulesDecidesCardSaid :=
  Claim7.holds_tied_plain_at .later [] _ _ _ _
    rulesDecides_holds (fun _ h => by cases h) (by kernel_rfl) (fun _ h => by cases h) rulesDecides_row_tie rfl ⟨rfl, rfl⟩ (by kernel_rfl) rfl
    (fun f fn hf hfn => by
      obtain rfl : f = 6 := Option.some.inj ((show Tryz.prog.funcNamed "cartulary/cartularylaw13.RulesDecides" = some 6 by kernel_rfl).symm.trans hf) |>.symm
      obtain rfl : fn = Tryz.f6 := (Option.some.inj (Tryz.func6.symm.trans hfn)).symm
      exact ⟨by kernel_rfl, fun j t ht => by
        rw [Tryz.params6] at ht
        have h0 : ∀ (t : TypeId), t ∈ ([26, 9, 35, 9, 35] : List TypeId) → Tryz.prog.wantsStandIn t = false := by
          intro t ht
          simp only [List.mem_cons, List.not_mem_nil, or_false] at ht
          rcases ht with rfl | rfl | rfl | rfl | rfl <;> kernel_rfl
        exact h0 t (List.mem_of_getElem? (by simpa using ht))⟩)
    (by kernel_rfl)
#print axioms rulesDecidesCard_holds
end Go.Proofs.YtclllkbljaomoaaGreatDoor
