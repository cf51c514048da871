/-
  DERIVED. RulesFolds: any state behind any event is what the document says.
-/
import Derived.Test.YtclllkbljaomoaaGreatDoorRuEm
import Derived.Test.YtclllkbljaomoaaGreatDoorRuOd
import Derived.Test.YtclllkbljaomoaaGreatDoorRuTb
import Derived.Test.YtclllkbljaomoaaGreatDoorShpl
import Derived.Test.YtclllkbljaomoaaGreatDoorUpLaid
import Derived.Test.YtclllkbljaomoaaGreatDoorCards
import Derived.Test.YtclllkbljaomoaaGreatDoorTie
import Derived.SevenTiedAt
namespace Go.Proofs.YtclllkbljaomoaaGreatDoor
open Go.ChangeShapes Go.WideShapes Go.ChangeAt Go.RowKit
open Go.ChangeMaps (open_string shut_string)
set_option linter.unusedVariables false

def mineG : Fld := ⟨[109, 105, 110, 101], false, 0, []⟩
def roomG : Fld := ⟨[114, 111, 111, 109], false, 0, []⟩
theorem one_fdnG (w : World) (f : Fld) : FdN (w.alloc (.cells (fv f) 37)) (some ⟨w.heap.size, 0, none⟩) 1 [f] := row_one _ _ f (heap_alloc_new _ _)
theorem fdn_take {w : World} {a : Option Addr} {c : Nat} {l m : List Fld} (h : FdN w a c (l ++ m)) : FdN w a c l := by
  obtain ⟨⟨ao, cap, e, h1, h2, h4⟩, h5⟩ := h
  cases e
  rw [List.length_append] at h1
  refine ⟨⟨a, c, rfl, by omega, h2, fun hz => ?_⟩, h5⟩
  obtain ⟨b, off, e, hlt, hc⟩ := h4 (by rw [List.length_append]; omega)
  refine ⟨b, off, e, hlt, fun i hi => ?_⟩
  have := hc i (by rw [List.length_append]; omega)
  rwa [List.getElem_append_left hi] at this

set_option maxRecDepth 20000 in
set_option maxHeartbeats 16000000 in
theorem RuFolds.walk (ha : Option Addr) (hn hc : Nat) (va : Option Addr) (vn vc : Nat) (vs : List Evo) (s : ByteArray) (la : Option Addr) (lc : Nat) (l : List Fld) (t : List UInt8) (ver : Int) (ma : Option Addr) (mc : Nat) (m : List Fld) (w : World)
    (hv : SlOf 3 EvoAt w (.slice va vn vc) vs) (hvl : vs.length < 100000000000000000) (hl : FdN w la lc l) (hl16 : (l.length + 2) * 48 ≤ 140737488355328) (hm : FdL w (.slice ma m.length mc) m) (hst : s.data.toList.length ≤ 140737488355328) (hfs : ∀ f ∈ l, small f) (hfg : ∀ f ∈ m, small f) (hva : Vars w) :
    Calls Tryz.prog 7 #[.agg (rulV ha hn hc va vn vc), .string s, .slice la l.length lc, .agg (evtV t ver ma m.length mc)] w fun e w' => e = .returned (.bool true) ∧ Below w.heap.size w w' := by
  rw [str_list s]
  obtain ⟨st, hste⟩ : ∃ st, st = s.data.toList := ⟨_, rfl⟩
  rw [← hste] at hst ⊢
  clear hste
  have hb1 : Below w.heap.size w (w.alloc (.cells (rulV ha hn hc va vn vc) 26)) := (Below.refl _ _).alloc (Nat.le_refl _) _
  have hb2 : Below w.heap.size w ((w.alloc (.cells (rulV ha hn hc va vn vc) 26)).alloc (.cells (evtV t ver ma m.length mc) 50)) := hb1.alloc hb1.size _
  have hR2 : ((w.alloc (.cells (rulV ha hn hc va vn vc) 26)).alloc (.cells (evtV t ver ma m.length mc) 50)).heap[w.heap.size]? = some (.cells (rulV ha hn hc va vn vc) 26 (0, 0)) := by
    have h1 : (w.alloc (.cells (rulV ha hn hc va vn vc) 26)).heap[w.heap.size]? = some (.cells (rulV ha hn hc va vn vc) 26 (0, 0)) := heap_alloc_new _ _
    have h2 : Below (w.alloc (.cells (rulV ha hn hc va vn vc) 26)).heap.size (w.alloc (.cells (rulV ha hn hc va vn vc) 26)) ((w.alloc (.cells (rulV ha hn hc va vn vc) 26)).alloc (.cells (evtV t ver ma m.length mc) 50)) := (Below.refl _ _).alloc (Nat.le_refl _) _
    exact (h2.block _ (lt_of_block h1)).trans h1
  have hE2 : ((w.alloc (.cells (rulV ha hn hc va vn vc) 26)).alloc (.cells (evtV t ver ma m.length mc) 50)).heap[w.heap.size + 1]? = some (.cells (evtV t ver ma m.length mc) 50 (0, 0)) := by
    have := heap_alloc_new (w.alloc (.cells (rulV ha hn hc va vn vc) 26)) (.cells (evtV t ver ma m.length mc) 50 (0, 0))
    rw [show (w.alloc (.cells (rulV ha hn hc va vn vc) 26)).heap.size = w.heap.size + 1 by simp] at this
    exact this
  obtain ⟨w1, hw1⟩ : ∃ w1, w1 = (w.alloc (.cells (rulV ha hn hc va vn vc) 26)).alloc (.cells (evtV t ver ma m.length mc) 50) := ⟨_, rfl⟩
  rw [← hw1] at hb2 hR2 hE2
  have HW := hide hw1
  obtain ⟨B, hB⟩ : ∃ B, B = w.heap.size := ⟨_, rfl⟩
  rw [← hB] at hR2 hE2
  have HBe := hide hB
  obtain ⟨X, hX⟩ : ∃ X, X = foldR vs st l t m := ⟨_, rfl⟩
  have HSB : Hid (∀ W, Below w1.heap.size w1 W → (W.cell? ⟨B, 0, none⟩ = some (.slice ha hn hc) ∧ W.cell? ⟨B, 1, none⟩ = some (.slice va vn vc) ∧ W.cell? ⟨B + 1, 0, none⟩ = some (sv t) ∧ W.cell? ⟨B + 1, 1, none⟩ = some (.int .i64 ver) ∧ W.cell? ⟨B + 1, 2, none⟩ = some (.slice ma m.length mc))) := hide (fun W hW => ⟨kept hW ((cell_of_row _ _ _ _ _ _ hR2).trans rfl), kept hW ((cell_of_row _ _ _ _ _ _ hR2).trans rfl), kept hW ((cell_of_row _ _ _ _ _ _ hE2).trans rfl), kept hW ((cell_of_row _ _ _ _ _ _ hE2).trans rfl), kept hW ((cell_of_row _ _ _ _ _ _ hE2).trans rfl)⟩)
  have HBW : Hid (∀ W, Below w1.heap.size w1 W → Below w.heap.size w W) := hide (fun W hW => hb2.trans (hW.mono hb2.size))
  have HSt : Hid (∀ W, Below w1.heap.size w1 W → FdN W la lc l) := hide (fun W hW => hl.below (hb2.trans (hW.mono hb2.size)) (Nat.le_refl _))
  have HFo : Hid (∀ (W : World) (b o rc : Nat), Below w1.heap.size w1 W → FdN W (some ⟨b, o, none⟩) rc l → Calls Tryz.prog 20 #[.agg #[.slice ha hn hc, .slice va vn vc], sv st, .slice (some ⟨b, o, none⟩) l.length rc, .agg #[sv t, .int .i64 ver, .slice ma m.length mc]] W fun e w' => ∃ v, e = .returned v ∧ FOwn w' W.heap.size v X ∧ Below W.heap.size W w') := hide (fun W b o rc hW hr => by
    have h := hb2.trans (hW.mono hb2.size)
    rw [hX]
    exact Fold_any ha hn hc va vn vc vs st (some ⟨b, o, none⟩) rc l t ver ma mc m W (hv.grown (fun _ _ _ _ _ => EvoAt.grown) h) hvl hr (by omega) (hm.below h (Nat.le_refl _)) hst hfs hfg (hva.below h (Nat.le_refl _)))
  have HrF : Hid (∀ (W : World), Below w1.heap.size w1 W → Calls Tryz.prog 21 #[.agg #[.slice ha hn hc, .slice va vn vc], sv st, .slice la l.length lc, .agg #[sv t, .int .i64 ver, .slice ma m.length mc]] W fun e w' => ∃ v, e = .returned v ∧ FOwn w' W.heap.size v X ∧ Below W.heap.size W w') := hide (fun W hW => by
    have h := hb2.trans (hW.mono hb2.size)
    rw [hX]
    exact rFold_any ha hn hc va vn vc vs st la lc l t ver ma mc m W (hv.grown (fun _ _ _ _ _ => EvoAt.grown) h) (hl.below h (Nat.le_refl _)) (by omega) (hm.below h (Nat.le_refl _)) hst hfs hfg (hva.below h (Nat.le_refl _)))
  have HA := hide (uawake_go w1 (hva.below hb2 (Nat.le_refl _)))
  obtain ⟨NM, hNM⟩ : ∃ NM, NM = m.length := ⟨_, rfl⟩
  rw [← hNM] at HW HSB HFo HrF ⊢
  clear hw1 hb1 hb2 hR2 hE2 hB hv hvl hl hm hst hfs hfg hva hX hNM
  go_enter Tryz.func7, Tryz.ntmps7
  go_upto_region 1 with fail
  rw [show (w.alloc (.cells #[Value.slice ha hn hc, .slice va vn vc] 26)).alloc (.cells #[Value.string ⟨t.toArray⟩, .int .i64 ver, .slice ma NM mc] 50) = w1 from (unhide HW).symm]
  rw [← unhide HBe]
  go_upto_region 2 with (go_at_call 9; refine (unhide HA).mono ?_; rintro e w2 ⟨rfl, b2⟩; have HK2 := hide b2; clear b2)
  have hb0 : Below w2.heap.size w2 (w2.alloc (.cells #[] 37)) := (Below.refl _ _).alloc (Nat.le_refl _) _
  have HB0 := hide hb0
  have HV0 := hide ((unhide HSt w2 (unhide HK2)).below hb0 (Nat.le_refl _))
  have HO0 := hide (fown_empty w2)
  clear hb0 HA
  go_upto_region 3 with (at_builtin; refine wpList_append_flds rfl (.tmp 18) (.tmp 19) rfl w2.heap.size _ [] rfl (unhide HO0) la lc l rfl (unhide HV0) (by simp; omega) (unhide HB0).size ?_; intro v3 w3 own3 b3; have HO3 : Hid (FOwn w3 w2.heap.size v3 l) := hide (by simpa using own3); have HB3 := hide ((unhide HB0).trans b3); clear own3 b3)
  obtain ⟨sa, sc, rfl, -⟩ := (unhide HO3).fdn
  go_upto_region 4 with (at_builtin; refine wpList_append_flds rfl (.tmp 21) (.tmp 23) rfl w2.heap.size _ l rfl ((unhide HO3).below ((Below.refl _ _).alloc (Nat.le_refl _) _) (Nat.le_refl _)) (some ⟨w3.heap.size, 0, none⟩) 1 [roomG] rfl (one_fdnG w3 roomG) (by simp; omega) (by have := (unhide HB3).size; simp; omega) ?_; intro v4 w4 own4 b4; obtain ⟨xa, rc, rfl, hfd⟩ := own4.fdn; have HR4 := hide hfd; have HK4 := hide ((unhide HK2).trans ((((unhide HB3).alloc (unhide HB3).size _).trans b4).mono (unhide HK2).size)); clear own4 b4 hfd)
  have hrl : (l ++ [roomG]).length = l.length + 1 := by simp
  have hrc := fdn_len (unhide HR4)
  obtain ⟨rb, ro, rfl⟩ := (unhide HR4).2 (by omega)
  rw [hrl] at hrc
  clear HO3 HB3 HO0 HB0 HV0 hrl
  have HL : Hid (∀ W, Below w4.heap.size w4 W → FdN W (some ⟨rb, ro, none⟩) rc l) := hide (fun W hW => fdn_take ((unhide HR4).below hW (Nat.le_refl _)))
  obtain ⟨N, hN⟩ : ∃ N, N = l.length := ⟨_, rfl⟩
  have HN := hide hN
  rw [← hN] at HFo HrF hrc ⊢
  have i1 : (0 : Int) ≤ (N : Int) := by omega
  have i2 : (N : Int) ≤ (rc : Int) := by omega
  have i3 : N ≤ rc := by omega
  have HSV : Hid (∀ V, Below w4.heap.size w4 V → V.cell? ⟨B, 0, none⟩ = some (.slice ha hn hc) ∧ V.cell? ⟨B, 1, none⟩ = some (.slice va vn vc) ∧ V.cell? ⟨B + 1, 0, none⟩ = some (sv t) ∧ V.cell? ⟨B + 1, 1, none⟩ = some (.int .i64 ver) ∧ V.cell? ⟨B + 1, 2, none⟩ = some (.slice ma NM mc)) := hide (fun V hV => unhide HSB V ((unhide HK4).trans (hV.mono (unhide HK4).size)))
  have bD : Below w4.heap.size w4 w4.drew := (Below.refl _ _).drew
  have S0 := hide (unhide HSV _ (Below.refl _ _))
  have SD := hide (unhide HSV _ bD)
  have HC4 := hide (unhide HFo w4.drew rb ro rc ((unhide HK4).trans (bD.mono (unhide HK4).size)) (unhide HL _ bD))
  have BD := hide bD
  clear hN bD
  go_region_held3 (fun V => V.cell? ⟨B, 0, none⟩ = some (.slice ha hn hc) ∧ V.cell? ⟨B, 1, none⟩ = some (.slice va vn vc) ∧ V.cell? ⟨B + 1, 0, none⟩ = some (sv t) ∧ V.cell? ⟨B + 1, 1, none⟩ = some (.int .i64 ver) ∧ V.cell? ⟨B + 1, 2, none⟩ = some (.slice ma NM mc))
    (first | with_reducible exact unhide S0 | with_reducible exact unhide SD | with_reducible exact unhide S5)
    ((go_at_call 20; refine (unhide HC4).mono ?_; rintro e w5 ⟨v5, rfl, own5, b5⟩; have HB5 := hide ((unhide BD).trans (b5.mono (unhide BD).size)); have S5 := hide (unhide HSV _ (unhide HB5)); have HO5 : Hid (FOwn w5 w4.heap.size v5 X) := hide own5; clear own5 b5))
  obtain ⟨z0, z1, z2, z3, z4⟩ := unhide S5
  have HC5 := hide (unhide HrF w5 ((unhide HK4).trans ((unhide HB5).mono (unhide HK4).size)))
  go_upto_region 6 with (go_at_call 21; refine (unhide HC5).mono ?_; rintro e w6 ⟨v6, rfl, own6, b6⟩; have HB6 := hide ((unhide HB5).trans (b6.mono (unhide HB5).size)); have HO6 := hide ((unhide HO5).below b6 (Nat.le_refl _)); have HU6 := hide own6.fdl; clear own6 b6)
  clear z0 z1 z2 z3 z4 S0 SD S5 HC4 HC5 HO5
  have HC6 := hide (Same_eq _ _ X w6 (unhide HO6).fdl (unhide HU6))
  go_upto_region 7 with (go_at_call 19; refine (unhide HC6).mono ?_; rintro e w7 ⟨rfl, b7⟩; have HB7 := hide ((unhide HB6).trans (b7.mono (unhide HB6).size)); have HO7 := hide ((unhide HO6).below b7 (Nat.le_refl _)); clear b7)
  obtain ⟨xa, xc, rfl, hfa⟩ := (unhide HO7).fdn
  have hva := fdn_len hfa
  clear hfa
  obtain ⟨L, hL⟩ : ∃ L, L = X.length := ⟨_, rfl⟩
  have HL7 : Hid (∃ R : List Fld, R.length = L ∧ FOwn w7 w4.heap.size (.slice xa L xc) R) := hide ⟨X, hL.symm, by rw [hL]; exact unhide HO7⟩
  rw [← hL] at hva ⊢
  clear hL HO7 HO6 HC6 HU6
  go_wp2_with fail
  go_loopw [15] (fun i wr => ∃ (k : Nat), k ≤ L ∧ i = .int .i64 k ∧ Hid (∃ R : List Fld, R.length = L ∧ FOwn wr w4.heap.size (.slice xa L xc) R) ∧ Hid (Below w4.heap.size w4 wr)) (fun i _ => L - (intOf i).toNat)
  case atStart => exact ⟨0, by omega, rfl, HL7, HB7⟩
  case round =>
    clear HL7 HB7
    obtain ⟨k, hk, rfl, HRr, HBr⟩ := hrel
    by_cases hlt : k < L
    · obtain ⟨R, hRL, hown⟩ := unhide HRr
      subst hRL
      have hlt1 : decide ((k : Int) < (R.length : Int)) = true := decide_eq_true (by omega)
      have hlt2 : decide (k < R.length) = true := decide_eq_true hlt
      have hkL : (k : Int) < (R.length : Int) := by omega
      have hk0 : (0 : Int) ≤ (k : Int) := by omega
      rcases hown.2 with ⟨_, h0⟩ | ⟨g, cap, cur, e, hgb, hg, hn, hm, hs, hta⟩
      · omega
      · cases e
        obtain ⟨⟨y0, y1, y2, y3⟩, yf⟩ := hown.slots k hlt
        have HP := hide (hown.put k hlt mineG)
        have HBP := hide (below_fput (unhide HBr) hgb k mineG)
        clear hg hn hm hs hta hown
        go_wp2
        go_roundw
        case rel => exact ⟨k + 1, by omega, by go_num, hide ⟨R.set k mineG, List.length_set .., unhide HP⟩, HBP⟩
        case measure => simp [intOf]; omega
    · have hkL : k = L := by omega
      have hlt1 : decide ((k : Int) < (L : Int)) = false := decide_eq_false (by omega)
      have hlt2 : decide (k < L) = false := decide_eq_false (by omega)
      have HS : Hid (∀ W, Below w4.heap.size w4 W → Calls Tryz.prog 19 #[.slice (some ⟨rb, ro, none⟩) N rc, .slice la N lc] W fun e w' => e = .returned (.bool true) ∧ Below W.heap.size W w') := hide (fun W hW => by
        rw [unhide HN]
        exact Same_eq _ _ l W (unhide HL W hW).1 (unhide HSt W ((unhide HK4).trans (hW.mono (unhide HK4).size))).1)
      clear hlt hkL HRr
      go_upto_region 12 with (go_at_call 19; refine (unhide HS _ (unhide HBr)).mono ?_; rintro e w8 ⟨rfl, b8⟩; have HB8 := hide ((unhide HBr).trans (b8.mono (unhide HBr).size)); clear b8)
      have hR8 := (unhide HR4).below (unhide HB8) (Nat.le_refl _)
      obtain ⟨_, _, e8, _, _, hc8⟩ := hR8.1
      cases e8
      obtain ⟨b8, o8, e8, _, hcell⟩ := hc8 (by simp)
      cases e8
      have z0 : w8.cell? ⟨rb, ro + N * 4, none⟩ = some (.string ⟨#[114, 111, 111, 109]⟩) := by
        have := (hcell N (by rw [unhide HN]; simp)).1
        have e : (l ++ [roomG])[N]'(by rw [unhide HN]; simp) = roomG := by simp [unhide HN]
        rw [e] at this
        exact this
      have hn1 : (N : Int) < ((N + 1 : Nat) : Int) := by omega
      have hn2 : N < N + 1 := by omega
      have HE : Hid (Below w.heap.size w w8) := hide (unhide HBW _ ((unhide HK4).trans ((unhide HB8).mono (unhide HK4).size)))
      clear hcell hR8 hc8 HS HBr
      go_wp2
      go_ret
      exact ⟨by simp, unhide HE⟩

set_option maxRecDepth 100000 in
theorem RuFolds.lifted (os : Os) (started : os.Started) (H : Type) (enc : TypeId × Value → H) :
    ReturnsInHanded {} Tryz.checked os 7 .any (fun w args => (Rows.rulesFoldsSpec.pre enc Tryz.prog Tryz.f7 [] false w args ∧ laidMetH Tryz.prog seatLaid w) ∧ sizedMet enc Tryz.prog Tryz.f7 (OpenSpec.ofChange Rows.rulesFoldsSpec) false w args)
      (Rows.rulesFoldsSpec.post enc Tryz.prog Tryz.f7 false true false false) := by
  refine returnsInHanded_of_change_and (C := Tryz.checked) (X := fun w _ => laidMetH Tryz.prog seatLaid w) (fun _ _ _ hh h => h.of_heap hh) own_knob started (by kernel_rfl) Tryz.func7
    (ChangeSpec.witness_at (enc := enc) (C := Tryz.checked) (os := os) (X := fun w _ => laidMetH Tryz.prog seatLaid w) false (laidWorld os) #[.agg (rulV none 0 0 none 0 0), .string ⟨#[]⟩, .slice none 0 0, .agg (evtV [] 0 none 0 0)] 8 rfl (by kernel_rfl) (by kernel_rfl) (by kernel_rfl) (by kernel_rfl) (by kernel_rfl) (laidWorld_met os _)) ?_
  intro W base args ds gs before hval0 hW _ hsz0 hL _
  have hval : ∀ (j : Nat) t v, Tryz.f7.params[j]? = some t → args[j]? = some v → Value.okWide Tryz.prog W .any base t v := hval0
  have hsz : (DataW.weightsEach Tryz.prog (Tryz.f7.params.toList ++ Rows.rulesFoldsSpec.plain.varTypes Tryz.prog) (ds ++ gs)).all (· ≤ reachBytes) = true := hsz0
  have hW' := hW
  obtain ⟨p, q, hA0, hV, rfl, hfz, hnd⟩ := hW
  have hA : DataW.TrodAll enc Tryz.prog W 0 (fun _ => true) true Tryz.f7.params.toList args.toList ds p := hA0
  rw [Tryz.params7] at hA hval hsz
  obtain ⟨v0, vs0, d0, ds0, p0, q0, e0, rfl, rfl, h0, hA⟩ := trodAll_cons hA
  obtain ⟨v1, vs1, d1, ds1, p1, q1, rfl, rfl, rfl, h1, hA⟩ := trodAll_cons hA
  obtain ⟨v2, vs2, d2, ds2, p2, q2, rfl, rfl, rfl, h2, hA⟩ := trodAll_cons hA
  obtain ⟨v3, vs3, d3, ds3, p3, q3, rfl, rfl, rfl, h3, hA⟩ := trodAll_cons hA
  obtain ⟨rfl, rfl, rfl⟩ := trodAll_nil hA
  obtain rfl : args = #[v0, v1, v2, v3] := by cases args; simp_all
  obtain ⟨rfl, rfl⟩ := trodVars_none hV
  have k0 := h0
  have lt0 : ∀ x ∈ p0, x.block < W.heap.size := by obtain ⟨m, hm⟩ := k0; exact DataW.trod_lt m _ _ _ hm
  obtain ⟨a0, c0, l0, m0, r0, t0, rfl, g0, f0, b0, j0, o0, z0⟩ := open_ruA hsz (j := 0) rfl rfl (hval 0 26 v0 rfl rfl) h0
  obtain ⟨s1, rfl, rfl, rfl, hs1⟩ := open_string Tryz.underlying9 (hval 1 9 v1 rfl rfl) h1
  have ls1 : s1.data.toList.length ≤ 140737488351232 := by
    have := sized_string hsz (j := 1) (t := 9) rfl rfl
    simp only [reachBytes] at this
    omega
  have k2 := h2
  have lt2 : ∀ x ∈ p2, x.block < W.heap.size := by obtain ⟨m, hm⟩ := k2; exact DataW.trod_lt m _ _ _ hm
  obtain ⟨a2, c2, l2, rfl, g2, f2, b2⟩ := open_sfl hsz (j := 2) rfl rfl (okWide_slice Tryz.underlying35 (hval 2 35 v2 rfl rfl)) h2
  have k3 := h3
  have lt3 : ∀ x ∈ p3, x.block < W.heap.size := by obtain ⟨m, hm⟩ := k3; exact DataW.trod_lt m _ _ _ hm
  obtain ⟨tp3, vr3, a3, c3, l3, rfl, g3, f3, b3, t3, j3⟩ := open_evA hsz (j := 3) rfl rfl (hval 3 50 v3 rfl rfl) h3
  clear hA0 hval0 hsz0
  refine (RuFolds.walk a0 l0.length c0 m0 t0.length r0 t0 s1 a2 c2 l2 tp3 vr3 a3 c3 l3 W j0 (by omega) g2 (by omega) g3.1 (by omega) (fun f hf => (f2 f hf).small) (fun f hf => (f3 f hf).small) (vars_of_laid hL)).mono fun e W' ⟨he, bel⟩ => ?_
  subst he
  exact ⟨_, rfl, _, _, _, [], _, [], hW', trodAll_mk1 (shut_bool Tryz.underlying4 _), (trodAll_cons_mk (Below.trod laid_out (by kernel_rfl) (of_decide_eq_true (by kernel_rfl)) k0 bel lt0) (trodAll_cons_mk (shut_string Tryz.underlying9 hs1) (trodAll_cons_mk (Below.trod laid_out (by kernel_rfl) (of_decide_eq_true (by kernel_rfl)) k2 bel lt2) (trodAll_cons_mk (Below.trod laid_out (by kernel_rfl) (of_decide_eq_true (by kernel_rfl)) k3 bel lt3) trodAll_mk0)))), rfl, bel.frame _, fun h => by cases h⟩

theorem rulesFolds_holds : Rows.RulesFoldsSaid :=
  OpenClaim.holds_of_wide 7 Tryz.f7 rfl rfl rfl rfl rfl rfl rfl ⟨rfl, rfl, rfl, rfl, rfl⟩ rfl rfl rfl rfl rfl (by kernel_rfl) Tryz.func7 (by kernel_rfl)
    (of_decide_eq_true (by kernel_rfl)) (by unfold Func.isWrapper; first | (rw [if_pos (by decide +kernel)]; kernel_rfl) | (rw [if_neg (by decide +kernel)]; exact ⟨rfl, rfl⟩))
    (fun os started H enc _ => RuFolds.lifted os started H enc)

theorem rulesFoldsCard_holds : Rows.RulesFoldsCardSaid :=
  Claim7.holds_tied_plain_at .later [] _ _ _ _
    rulesFolds_holds (fun _ h => by cases h) (by kernel_rfl) (fun _ h => by cases h) rulesFolds_row_tie rfl ⟨rfl, rfl⟩ (by kernel_rfl) rfl
    (fun f fn hf hfn => by
      obtain rfl : f = 7 := Option.some.inj ((show Tryz.prog.funcNamed "cartulary/cartularylaw13.RulesFolds" = some 7 by kernel_rfl).symm.trans hf) |>.symm
      obtain rfl : fn = Tryz.f7 := (Option.some.inj (Tryz.func7.symm.trans hfn)).symm
      exact ⟨by kernel_rfl, fun j t ht => by
        rw [Tryz.params7] at ht
        have h0 : ∀ (t : TypeId), t ∈ ([26, 9, 35, 50] : List TypeId) → Tryz.prog.wantsStandIn t = false := by
          intro t ht
          simp only [List.mem_cons, List.not_mem_nil, or_false] at ht
          rcases ht with rfl | rfl | rfl | rfl <;> kernel_rfl
        exact h0 t (List.mem_of_getElem? (by simpa using ht))⟩)
    (by kernel_rfl)
#print axioms rulesFoldsCard_holds
end Go.Proofs.YtclllkbljaomoaaGreatDoor
