/-
  DERIVED. FormSets: Get, Set, Drop are the document's, leave what they are given, and answer with memory of their own.
-/
import Derived.Test.YtkgepklmhdjjnaaGreatDoorShaw
import Derived.Test.YtkgepklmhdjjnaaGreatDoorShR9
import Derived.Test.YtkgepklmhdjjnaaGreatDoorShkm
import Derived.Test.YtkgepklmhdjjnaaGreatDoorShopen3
import Derived.Test.YtkgepklmhdjjnaaGreatDoorShlaid
import Derived.Test.YtkgepklmhdjjnaaGreatDoorCards
import Derived.Test.YtkgepklmhdjjnaaGreatDoorTie
import Derived.SevenTiedAt
namespace Go.Proofs.YtkgepklmhdjjnaaGreatDoor
open Go.ChangeShapes Go.WideShapes Go.ChangeAt Go.RowKit
open Go.ChangeMaps (open_string shut_string)
set_option linter.unusedVariables false

/-- Where the law stands: its box of f, its list r, its room. -/
structure SSt (w0 W : World) (B : Nat) (f : Fld) (a : Option Addr) (c : Nat) (fs : List Fld) : Prop where
  bel : Below w0.heap.size w0 W
  box : FBox W B f
  arg : FdN W a c fs
  var : Vars W
theorem SSt.grown {w0 W W' : World} {B : Nat} {f : Fld} {a : Option Addr} {c : Nat} {fs : List Fld} (h : SSt w0 W B f a c fs) (b : Below W.heap.size W W') : SSt w0 W' B f a c fs :=
  ⟨h.bel.trans (b.mono h.bel.size), h.box.below b (Nat.le_refl _), h.arg.below b (Nat.le_refl _), h.var.below b (Nat.le_refl _)⟩
theorem SSt.alloc {w0 W : World} {B : Nat} {f : Fld} {a : Option Addr} {c : Nat} {fs : List Fld} (h : SSt w0 W B f a c fs) (o : Obj) : SSt w0 (W.alloc o) B f a c fs := h.grown ((Below.refl _ _).alloc (Nat.le_refl _) o)

/-- Another's block is written: one's own row stays. -/
theorem FOwn.other {w : World} {base g : Nat} {v : Value} {R : List Fld} (h : FOwn w base v R) (hg : g < base) (p : Nat) (x : Value) : FOwn (w.setCell ⟨g, p, none⟩ x) base v R := by
  obtain ⟨h1, h2⟩ := h
  rcases h2 with ⟨e, h0⟩ | ⟨g', cap', cur, e, hb, hg', hn, hm, hs, ht⟩
  · exact ⟨h1, .inl ⟨e, h0⟩⟩
  · exact ⟨h1, .inr ⟨g', cap', cur, e, hb, (heap_setCell_other _ _ _ _ (by simp; omega)).trans hg', hn, hm, hs, ht⟩⟩

def mineF : Fld := ⟨[109, 105, 110, 101], false, 0, []⟩
def roomF : Fld := ⟨[114, 111, 111, 109], false, 0, []⟩

set_option maxHeartbeats 16000000 in
theorem ShSets.walk (a : Option Addr) (c : Nat) (fs : List Fld) (f : Fld) (w : World) (hv : FdN w a c fs) (hlen : (fs.length + 2) * 48 ≤ 140737488355328) (hva : Vars w) :
    Calls Tryz.prog 4 #[.slice a fs.length c, .agg (fv f)] w fun e w' => e = .returned (.bool true) ∧ Below w.heap.size w w' := by
  have hcl := fdn_len hv
  have hb1 : Below w.heap.size w (w.alloc (.cells (fv f) 33)) := (Below.refl _ _).alloc (Nat.le_refl _) _
  have HK1 : Hid (SSt w (w.alloc (.cells (fv f) 33)) w.heap.size f a c fs) := hide ⟨hb1, FBox.new w f, hv.below hb1 (Nat.le_refl _), hva.below hb1 (Nat.le_refl _)⟩
  obtain ⟨w1, hw1⟩ : ∃ w1, w1 = w.alloc (.cells (fv f) 33) := ⟨_, rfl⟩
  have HW1 := hide hw1
  rw [← hw1] at HK1
  obtain ⟨fn, ft, fi, fss⟩ := f
  clear hb1 hv hva hw1
  go_enter Tryz.func4, Tryz.ntmps4
  go_upto_region 1 with fail
  rw [← unhide HW1]
  obtain ⟨B, hB⟩ : ∃ B, B = w.heap.size := ⟨_, rfl⟩
  rw [← hB] at HK1 ⊢
  clear HW1 hB
  have HA := hide (awake_go w1 (unhide HK1).var)
  go_upto_region 2 with (go_at_call 9; refine (unhide HA).mono ?_; rintro e w2 ⟨rfl, b2⟩; have HK2 := hide ((unhide HK1).grown b2); clear b2)
  clear HA HK1
  have hb0 : Below w2.heap.size w2 (w2.alloc (.cells #[] 33)) := (Below.refl _ _).alloc (Nat.le_refl _) _
  have HB0 := hide hb0
  have HV0 := hide ((unhide HK2).arg.below hb0 (Nat.le_refl _))
  have HO0 := hide (fown_empty w2)
  clear hb0
  go_upto_region 3 with (at_builtin; first | (refine wpList_append_flds rfl (.tmp 20) (.tmp 21) rfl w2.heap.size _ [] rfl (unhide HO0) a c fs rfl (unhide HV0) (by simp; omega) (unhide HB0).size ?_; intro v3 w3 own3 b3; have HO3 : Hid (FOwn w3 w2.heap.size v3 fs) := hide (by simpa using own3); have HB3 := hide ((unhide HB0).trans b3); clear own3 b3) | (refine wpList_append_flds rfl (.tmp 22) (.tmp 24) rfl w2.heap.size _ fs rfl ((unhide HO3).below ((Below.refl _ _).alloc (Nat.le_refl _) _) (Nat.le_refl _)) (some ⟨w3.heap.size, 0, none⟩) 1 [roomF] rfl (one_fdn w3 roomF) (by simp; omega) (by have := (unhide HB3).size; simp; omega) ?_; intro v4 w4 own4 b4; obtain ⟨va, rc, rfl, hfd⟩ := own4.fdn; have HR4 := hide hfd; have HK4 := hide ((unhide HK2).grown (((unhide HB3).alloc (unhide HB3).size _).trans b4)); clear own4 b4 hfd))
  have hrl : (fs ++ [roomF]).length = fs.length + 1 := by simp
  have hrc := fdn_len (unhide HR4)
  obtain ⟨rb, ro, rfl⟩ := (unhide HR4).2 (by omega)
  rw [hrl] at hrc
  clear HO3 HB3 HO0 HB0 HV0 hrl
  have HL4 : Hid (FdN w4 (some ⟨rb, ro, none⟩) rc fs) := hide (by have := (unhide HR4).take fs.length (by simp); rwa [List.take_left] at this)
  have HGet : Hid (∀ W, FdN W (some ⟨rb, ro, none⟩) rc fs → Calls Tryz.prog 19 #[.slice (some ⟨rb, ro, none⟩) fs.length rc, sv fn] W fun e w' => e = .returned (.tuple #[.agg (fv (getA fs fn)), .bool (hasF fs fn)]) ∧ Below W.heap.size W w') := hide (fun W hW => Get_any _ _ _ fs fn W hW.1)
  have HrGet : Hid (∀ W, FdN W a c fs → Calls Tryz.prog 20 #[.slice a fs.length c, sv fn] W fun e w' => e = .returned (.tuple #[.agg (fv (getA fs fn)), .bool (hasF fs fn)]) ∧ Below W.heap.size W w') := hide (fun W hW => rGet_any _ _ _ fs fn W hW.1)
  obtain ⟨H, hH⟩ : ∃ H, H = hasF fs fn := ⟨_, rfl⟩
  obtain ⟨⟨gn, gt, gi, gs⟩, hG⟩ : ∃ G, G = getA fs fn := ⟨_, rfl⟩
  rw [← hG, ← hH] at HGet HrGet
  have HSetP : Hid (∀ W, FdN W (some ⟨rb, ro, none⟩) rc fs → Calls Tryz.prog 21 #[.slice (some ⟨rb, ro, none⟩) fs.length rc, .agg (fv ⟨fn, ft, fi, fss⟩)] W fun e w' => ∃ v, e = .returned v ∧ FOwn w' W.heap.size v (setF fs ⟨fn, ft, fi, fss⟩) ∧ Below W.heap.size W w') := hide (fun W hW => Set_any _ _ fs _ W hW (by omega))
  have HSetR : Hid (∀ W, FdN W a c fs → Calls Tryz.prog 23 #[.slice a fs.length c, .agg (fv ⟨fn, ft, fi, fss⟩)] W fun e w' => ∃ v, e = .returned v ∧ FOwn w' W.heap.size v (setF fs ⟨fn, ft, fi, fss⟩) ∧ Below W.heap.size W w') := hide (fun W hW => rSet_any _ _ fs _ W hW (by omega))
  have HDropP : Hid (∀ W, FdN W (some ⟨rb, ro, none⟩) rc fs → Calls Tryz.prog 22 #[.slice (some ⟨rb, ro, none⟩) fs.length rc, sv fn] W fun e w' => ∃ v, e = .returned v ∧ FOwn w' W.heap.size v (dropF fs fn) ∧ Below W.heap.size W w') := hide (fun W hW => Drop_any _ _ fs fn W hW (by omega))
  have HDropR : Hid (∀ W, FdN W a c fs → Calls Tryz.prog 24 #[.slice a fs.length c, sv fn] W fun e w' => ∃ v, e = .returned v ∧ FOwn w' W.heap.size v (dropF fs fn) ∧ Below W.heap.size W w') := hide (fun W hW => rDrop_any _ _ fs fn W hW (by omega))
  obtain ⟨A, hA⟩ : ∃ A, A = setF fs ⟨fn, ft, fi, fss⟩ := ⟨_, rfl⟩
  obtain ⟨D, hD⟩ : ∃ D, D = dropF fs fn := ⟨_, rfl⟩
  rw [← hA] at HSetP HSetR
  rw [← hD] at HDropP HDropR
  obtain ⟨N, hN⟩ : ∃ N, N = fs.length := ⟨_, rfl⟩
  have HN := hide hN
  rw [← hN] at HGet HrGet HSetP HSetR HDropP HDropR hcl hrc ⊢
  clear hG hH hA hD hN
  have i1 : (0 : Int) ≤ (N : Int) := by omega
  have i2 : (N : Int) ≤ (rc : Int) := by omega
  have i3 : N ≤ rc := by omega
  obtain ⟨x0, x1, x2, x3, xf⟩ := (unhide HK4).box.cells
  simp only at x0 x1 x2 x3
  go_upto_region 5 with (go_at_call 19; refine (unhide HGet w4 (unhide HL4)).mono ?_; rintro e w5 ⟨rfl, b5⟩; have HK5 := hide (((unhide HK4).grown b5).alloc (.cells (fv ⟨gn, gt, gi, gs⟩) 33)); have HR5 := hide (((unhide HR4).below b5 (Nat.le_refl _)).below ((Below.refl _ _).alloc (Nat.le_refl _) (.cells (fv ⟨gn, gt, gi, gs⟩) 33)) (Nat.le_refl _)); have HX5 := hide (FBox.new w5 ⟨gn, gt, gi, gs⟩); clear b5)
  obtain ⟨w6, hw6⟩ : ∃ w6, w6 = w5.alloc (.cells (fv ⟨gn, gt, gi, gs⟩) 33) := ⟨_, rfl⟩
  rw [show w5.alloc (.cells #[Value.string ⟨gn.toArray⟩, .bool gt, .int .i64 gi, Value.string ⟨gs.toArray⟩] 33) = w6 from hw6.symm]
  rw [← hw6] at HK5 HR5 HX5
  obtain ⟨P, hP⟩ : ∃ P, P = w5.heap.size := ⟨_, rfl⟩
  rw [← hP] at HX5 ⊢
  clear x0 x1 x2 x3 xf hw6 hP HK4 HR4 HL4 HGet
  obtain ⟨x0, x1, x2, x3, xf⟩ := (unhide HK5).box.cells
  simp only at x0 x1 x2 x3
  go_upto_region 6 with (go_at_call 20; refine (unhide HrGet w6 (unhide HK5).arg).mono ?_; rintro e w7 ⟨rfl, b7⟩; have HB78 := hide (b7.trans ((Below.refl w6.heap.size w7).alloc b7.size (.cells (fv ⟨gn, gt, gi, gs⟩) 33))); have HY8 := hide (FBox.new w7 ⟨gn, gt, gi, gs⟩); clear b7)
  obtain ⟨w8, hw8⟩ : ∃ w8, w8 = w7.alloc (.cells (fv ⟨gn, gt, gi, gs⟩) 33) := ⟨_, rfl⟩
  rw [show w7.alloc (.cells #[Value.string ⟨gn.toArray⟩, .bool gt, .int .i64 gi, Value.string ⟨gs.toArray⟩] 33) = w8 from hw8.symm]
  rw [← hw8] at HB78 HY8
  obtain ⟨Q, hQ⟩ : ∃ Q, Q = w7.heap.size := ⟨_, rfl⟩
  rw [← hQ] at HY8 ⊢
  have HK8 := hide ((unhide HK5).grown (unhide HB78))
  have HR8 := hide ((unhide HR5).below (unhide HB78) (Nat.le_refl _))
  have HX8 := hide ((unhide HX5).below (unhide HB78) (Nat.le_refl _))
  clear x0 x1 x2 x3 xf hw8 hQ HK5 HR5 HX5 HB78 HrGet
  have HL : Hid (∀ W, Below w8.heap.size w8 W → FdN W (some ⟨rb, ro, none⟩) rc fs) := hide (fun W hW => by have := ((unhide HR8).below hW (Nat.le_refl _)).take fs.length (by simp); rwa [List.take_left] at this)
  have HKW : Hid (∀ W, Below w8.heap.size w8 W → SSt w W B ⟨fn, ft, fi, fss⟩ a c fs) := hide (fun W hW => (unhide HK8).grown hW)
  obtain ⟨x0, x1, x2, x3, xf⟩ := (unhide HK8).box.cells
  simp only at x0 x1 x2 x3
  go_upto_region 7 with (go_at_call 21; refine (unhide HSetP w8 (unhide HL _ (Below.refl _ _))).mono ?_; rintro e w9 ⟨v9, rfl, own9, b9⟩; have HO9 := hide own9; have HB9 := hide b9; clear own9 b9)
  clear x0 x1 x2 x3 xf
  obtain ⟨x0, x1, x2, x3, xf⟩ := (unhide HKW _ (unhide HB9)).box.cells
  simp only at x0 x1 x2 x3
  go_upto_region 8 with (go_at_call 22; refine (unhide HDropP w9 (unhide HL _ (unhide HB9))).mono ?_; rintro e w10 ⟨v10, rfl, own10, b10⟩; have HD10 := hide own10; have HA10 := hide ((unhide HO9).below b10 (Nat.le_refl _)); have HB10 := hide ((unhide HB9).trans (b10.mono (unhide HB9).size)); have hs9 := b10.size; clear own10 b10)
  clear x0 x1 x2 x3 xf
  obtain ⟨x0, x1, x2, x3, xf⟩ := (unhide HKW _ (unhide HB10)).box.cells
  simp only at x0 x1 x2 x3
  go_upto_region 9 with (first | (go_at_call 23; refine (unhide HSetR w10 (unhide HKW _ (unhide HB10)).arg).mono ?_; rintro e w11 ⟨v11, rfl, own11, b11⟩; have HU11 := hide own11.fdl; have HD11 := hide ((unhide HD10).below b11 (Nat.le_refl _)); have HA11 := hide ((unhide HA10).below b11 (Nat.le_refl _)); have HB11 := hide ((unhide HB10).trans (b11.mono (unhide HB10).size)); clear own11 b11) | (go_at_call 12; refine (Same_eq _ _ A w11 (unhide HA11).fdl (unhide HU11)).mono ?_; rintro e w12 ⟨rfl, b12⟩; have HD12 := hide ((unhide HD11).below b12 (Nat.le_refl _)); have HA12 := hide ((unhide HA11).below b12 (Nat.le_refl _)); have HB12 := hide ((unhide HB11).trans (b12.mono (unhide HB11).size)); clear b12))
  clear x0 x1 x2 x3 xf HU11 HD11 HA11 HB11 HD10 HA10 HB10
  obtain ⟨x0, x1, x2, x3, xf⟩ := (unhide HKW _ (unhide HB12)).box.cells
  simp only at x0 x1 x2 x3
  go_upto_region 10 with (first | (go_at_call 24; refine (unhide HDropR w12 (unhide HKW _ (unhide HB12)).arg).mono ?_; rintro e w13 ⟨v13, rfl, own13, b13⟩; have HU13 := hide own13.fdl; have HD13 := hide ((unhide HD12).below b13 (Nat.le_refl _)); have HA13 := hide ((unhide HA12).below b13 (Nat.le_refl _)); have HB13 := hide ((unhide HB12).trans (b13.mono (unhide HB12).size)); clear own13 b13) | (go_at_call 12; refine (Same_eq _ _ D w13 (unhide HD13).fdl (unhide HU13)).mono ?_; rintro e w14 ⟨rfl, b14⟩; have HD14 := hide ((unhide HD13).below b14 (Nat.le_refl _)); have HA14 := hide ((unhide HA13).below b14 (Nat.le_refl _)); have HB14 := hide ((unhide HB13).trans (b14.mono (unhide HB13).size)); clear b14))
  clear x0 x1 x2 x3 xf HU13 HD13 HA13 HB13 HD12 HA12 HB12
  go_wp2_with fail
  have hg9 : ∀ g : Nat, v9.ownBlock = some g → g < w9.heap.size := fun g e => by
    rcases (unhide HO9).2 with ⟨e', _⟩ | ⟨g', cap', cur, e', hb, hg', _⟩
    · rw [e'] at e; cases e
    · rw [e'] at e; simp only [Value.ownBlock, Option.some.injEq] at e; subst e; exact lt_of_block hg'
  obtain ⟨va, vc, rfl, hfa⟩ := (unhide HA14).fdn
  have hva := fdn_len hfa
  clear hfa
  obtain ⟨L, hL⟩ : ∃ L, L = A.length := ⟨_, rfl⟩
  have HL14 : Hid (∃ R : List Fld, R.length = L ∧ FOwn w14 w8.heap.size (.slice va L vc) R) := hide ⟨A, hL.symm, by rw [hL]; exact unhide HA14⟩
  have HG9 := hide hg9
  rw [← hL] at hva HG9 ⊢
  clear hL HA14 HO9 hg9
  go_loopw [16] (fun i wr => ∃ (k : Nat), k ≤ L ∧ i = .int .i64 k ∧ Hid (∃ R : List Fld, R.length = L ∧ FOwn wr w8.heap.size (.slice va L vc) R) ∧ Hid (Below w8.heap.size w8 wr) ∧ Hid (FOwn wr w9.heap.size v10 D)) (fun i _ => L - (intOf i).toNat)
  case atStart => exact ⟨0, by omega, rfl, HL14, HB14, HD14⟩
  case round =>
    obtain ⟨k, hk, rfl, HRr, HBr, HDr⟩ := hrel
    by_cases hlt : k < L
    · obtain ⟨R, hRL, hown⟩ := unhide HRr
      subst hRL
      have hlt1 : decide ((k : Int) < (R.length : Int)) = true := decide_eq_true (by omega)
      have hlt2 : decide (k < R.length) = true := decide_eq_true hlt
      have hkL : (k : Int) < (R.length : Int) := by omega
      have hk0 : (0 : Int) ≤ (k : Int) := by omega
      rcases hown.2 with ⟨_, h0⟩ | ⟨g, cap, cur, e, hgb, hg, hn, hm, hs, hta⟩
      · omega
      · cases e
        obtain ⟨⟨y0, y1, y2, y3⟩, yf⟩ := hown.slots k hlt
        have hg9 := unhide HG9 g rfl
        have HP := hide (hown.put k hlt mineF)
        have HBP := hide (below_fput (unhide HBr) hgb k mineF)
        have HDP : Hid (∀ p0 p1 p2 p3 z0 z1 z2 z3, FOwn ((((wr.setCell ⟨g, p0, none⟩ z0).setCell ⟨g, p1, none⟩ z1).setCell ⟨g, p2, none⟩ z2).setCell ⟨g, p3, none⟩ z3) w9.heap.size v10 D) := hide (fun _ _ _ _ _ _ _ _ => ((((unhide HDr).other hg9 _ _).other hg9 _ _).other hg9 _ _).other hg9 _ _)
        clear hg hn hm hs hta hown
        go_wp2
        go_roundw
        case rel => exact ⟨k + 1, by omega, by go_num, hide ⟨R.set k mineF, List.length_set .., unhide HP⟩, HBP, hide (unhide HDP _ _ _ _ _ _ _ _)⟩
        case measure => simp [intOf]; omega
    · have hkL : k = L := by omega
      have hlt1 : decide ((k : Int) < (L : Int)) = false := decide_eq_false (by omega)
      have hlt2 : decide (k < L) = false := decide_eq_false (by omega)
      clear HL14 HB14 HD14 hlt hkL HRr
      have hw89 := (unhide HB9).size
      obtain ⟨ua, uc, rfl, hfd⟩ := (unhide HDr).fdn
      have hua := fdn_len hfd
      clear hfd
      obtain ⟨M, hM⟩ : ∃ M, M = D.length := ⟨_, rfl⟩
      have HM : Hid (∃ R : List Fld, R.length = M ∧ FOwn wr w9.heap.size (.slice ua M uc) R) := hide ⟨D, hM.symm, by rw [hM]; exact unhide HDr⟩
      rw [← hM] at hua ⊢
      clear hM HDr
      go_wp2_with fail
      rename World => W1
      go_loopw [17] (fun i wr => ∃ (k : Nat), k ≤ M ∧ i = .int .i64 k ∧ Hid (∃ R : List Fld, R.length = M ∧ FOwn wr w9.heap.size (.slice ua M uc) R) ∧ Hid (Below w8.heap.size w8 wr)) (fun i _ => M - (intOf i).toNat)
      case atStart => exact ⟨0, by omega, rfl, HM, HBr⟩
      case round =>
        clear HBr HM
        obtain ⟨k2, hk2, rfl, HRr, HBr⟩ := hrel
        by_cases hlt : k2 < M
        · obtain ⟨R, hRL, hown⟩ := unhide HRr
          subst hRL
          have hlt1 : decide ((k2 : Int) < (R.length : Int)) = true := decide_eq_true (by omega)
          have hlt2 : decide (k2 < R.length) = true := decide_eq_true hlt
          have hkL : (k2 : Int) < (R.length : Int) := by omega
          have hk0 : (0 : Int) ≤ (k2 : Int) := by omega
          rcases hown.2 with ⟨_, h0⟩ | ⟨g, cap, cur, e, hgb, hg, hn, hm, hs, hta⟩
          · omega
          · cases e
            obtain ⟨⟨y0, y1, y2, y3⟩, yf⟩ := hown.slots k2 hlt
            have HP := hide (hown.put k2 hlt mineF)
            have HBP := hide (below_fput (unhide HBr) (Nat.le_trans hw89 hgb) k2 mineF)
            clear hg hn hm hs hta hown
            go_wp2
            go_roundw
            case rel => exact ⟨k2 + 1, by omega, by go_num, hide ⟨R.set k2 mineF, List.length_set .., unhide HP⟩, HBP⟩
            case measure => simp [intOf]; omega
        · have hlt1 : decide ((k2 : Int) < (M : Int)) = false := decide_eq_false (by omega)
          have hlt2 : decide (k2 < M) = false := decide_eq_false (by omega)
          have HS : Hid (∀ W, Below w8.heap.size w8 W → Calls Tryz.prog 12 #[.slice (some ⟨rb, ro, none⟩) N rc, .slice a N c] W fun e w' => e = .returned (.bool true) ∧ Below W.heap.size W w') := hide (fun W hW => by
            rw [unhide HN]
            exact Same_eq _ _ fs W (unhide HL W hW).1 (unhide HKW W hW).arg.1)
          clear HRr
          go_upto_region 19 with (go_at_call 12; refine (unhide HS _ (unhide HBr)).mono ?_; rintro e w15 ⟨rfl, b15⟩; have HB15 := hide ((unhide HBr).trans (b15.mono (unhide HBr).size)); clear b15)
          have hR15 := (unhide HR8).below (unhide HB15) (Nat.le_refl _)
          obtain ⟨_, _, e15, _, _, hc15⟩ := hR15.1
          cases e15
          obtain ⟨b15, o15, e15, _, hcell⟩ := hc15 (by simp)
          cases e15
          have z0 : w15.cell? ⟨rb, ro + N * 4, none⟩ = some (.string ⟨#[114, 111, 111, 109]⟩) := by
            have := (hcell N (by rw [unhide HN]; simp)).1
            have e : (fs ++ [roomF])[N]'(by rw [unhide HN]; simp) = roomF := by simp [unhide HN]
            rw [e] at this
            exact this
          obtain ⟨x0, x1, x2, x3, xf⟩ := ((unhide HX8).below (unhide HB15) (Nat.le_refl _)).cells
          obtain ⟨y0, y1, y2, y3, yf⟩ := ((unhide HY8).below (unhide HB15) (Nat.le_refl _)).cells
          simp only at x0 x1 x2 x3 y0 y1 y2 y3
          have hn1 : (N : Int) < ((N + 1 : Nat) : Int) := by omega
          have hn2 : N < N + 1 := by omega
          have HE : Hid (Below w.heap.size w w15) := hide (unhide HKW _ (unhide HB15)).bel
          clear hcell hR15 hc15 HS HBr hlt
          go_wp2
          go_ret
          exact ⟨by simp, unhide HE⟩

set_option maxRecDepth 100000 in
theorem ShSets.lifted (os : Os) (started : os.Started) (H : Type) (enc : TypeId × Value → H) :
    ReturnsInHanded {} Tryz.checked os 4 .any (fun w args => (Rows.formSetsSpec.pre enc Tryz.prog Tryz.f4 [] false w args ∧ laidMetH Tryz.prog seatLaid w) ∧ sizedMet enc Tryz.prog Tryz.f4 (OpenSpec.ofChange Rows.formSetsSpec) false w args)
      (Rows.formSetsSpec.post enc Tryz.prog Tryz.f4 false true false false) := by
  refine returnsInHanded_of_change_and (C := Tryz.checked) (X := fun w _ => laidMetH Tryz.prog seatLaid w) (fun _ _ _ hh h => h.of_heap hh) own_knob started (by kernel_rfl) Tryz.func4
    (ChangeSpec.witness_at (enc := enc) (C := Tryz.checked) (os := os) (X := fun w _ => laidMetH Tryz.prog seatLaid w) false (laidWorld os) #[.slice none 0 0, .agg (fv fld0)] 8 rfl (by kernel_rfl) (by kernel_rfl) (by kernel_rfl) (by kernel_rfl) (by kernel_rfl) (laidWorld_met os _)) ?_
  intro W base args ds gs before hval0 hW _ hsz0 hL _
  have hval : ∀ (j : Nat) t v, Tryz.f4.params[j]? = some t → args[j]? = some v → Value.okWide Tryz.prog W .any base t v := hval0
  have hsz : (DataW.weightsEach Tryz.prog (Tryz.f4.params.toList ++ Rows.formSetsSpec.plain.varTypes Tryz.prog) (ds ++ gs)).all (· ≤ reachBytes) = true := hsz0
  have hW' := hW
  obtain ⟨p, q, hA0, hV, rfl, hfz, hnd⟩ := hW
  have hA : DataW.TrodAll enc Tryz.prog W 0 (fun _ => true) true Tryz.f4.params.toList args.toList ds p := hA0
  rw [Tryz.params4] at hA hval hsz
  obtain ⟨v0, vs0, d0, ds0, p0, q0, e0, rfl, rfl, h0, hA⟩ := trodAll_cons hA
  obtain ⟨v1, vs1, d1, ds1, p1, q1, rfl, rfl, rfl, h1, hA⟩ := trodAll_cons hA
  obtain ⟨rfl, rfl, rfl⟩ := trodAll_nil hA
  obtain rfl : args = #[v0, v1] := by cases args; simp_all
  obtain ⟨rfl, rfl⟩ := trodVars_none hV
  obtain ⟨a0, n0, c0, rfl⟩ := okWide_slice Tryz.underlying23 (hval 0 23 v0 rfl rfl)
  have k0 := h0
  have lt0 : ∀ x ∈ p0, x.block < W.heap.size := by obtain ⟨m, hm⟩ := k0; exact DataW.trod_lt m _ _ _ hm
  have nb0 := fields_bound hsz (j := 0) rfl h0 rfl
  obtain ⟨l0, rfl, g0, f0⟩ := open_fdn hsz (j := 0) rfl h0 rfl
  have k1 := h1
  have lt1 : ∀ x ∈ p1, x.block < W.heap.size := by obtain ⟨m, hm⟩ := k1; exact DataW.trod_lt m _ _ _ hm
  obtain ⟨l1, rfl, f1⟩ := open_fld (hval 1 33 v1 rfl rfl) h1
  clear hA0 hval0 hsz0
  refine (ShSets.walk a0 c0 l0 l1 W g0 (by omega) (vars_of_laid hL)).mono fun e W' ⟨he, bel⟩ => ?_
  subst he
  exact ⟨_, rfl, _, _, _, [], _, [], hW', trodAll_mk1 (shut_bool Tryz.underlying4 _), (trodAll_cons_mk (Below.trod laid_out (by kernel_rfl) (of_decide_eq_true (by kernel_rfl)) k0 bel lt0) (trodAll_cons_mk (Below.trod laid_out (by kernel_rfl) (of_decide_eq_true (by kernel_rfl)) k1 bel lt1) trodAll_mk0)), rfl, bel.frame _, fun h => by cases h⟩

theorem formSets_holds : Rows.FormSetsSaid :=
  OpenClaim.holds_of_wide 4 Tryz.f4 rfl rfl rfl rfl rfl rfl rfl ⟨rfl, rfl, rfl, rfl, rfl⟩ rfl rfl rfl rfl rfl (by kernel_rfl) Tryz.func4 (by kernel_rfl)
    (of_decide_eq_true (by kernel_rfl)) (by unfold Func.isWrapper; first | (rw [if_pos (by decide +kernel)]; kernel_rfl) | (rw [if_neg (by decide +kernel)]; exact ⟨rfl, rfl⟩))
    (fun os started H enc _ => ShSets.lifted os started H enc)

theorem formSetsCard_holds : Rows.FormSetsCardSaid :=
  Claim7.holds_tied_plain_at .later [] _ _ _ _
    formSets_holds (fun _ h => by cases h) (by kernel_rfl) (fun _ h => by cases h) formSets_row_tie rfl ⟨rfl, rfl⟩ (by kernel_rfl) rfl
    (fun f fn hf hfn => by
      obtain rfl : f = 4 := Option.some.inj ((show Tryz.prog.funcNamed "cartulary/cartularylaw12.FormSets" = some 4 by kernel_rfl).symm.trans hf) |>.symm
      obtain rfl : fn = Tryz.f4 := (Option.some.inj (Tryz.func4.symm.trans hfn)).symm
      exact ⟨by kernel_rfl, fun j t ht => by
        rw [Tryz.params4] at ht
        have h0 : ∀ (t : TypeId), t ∈ ([23, 33] : List TypeId) → Tryz.prog.wantsStandIn t = false := by
          intro t ht
          simp only [List.mem_cons, List.not_mem_nil, or_false] at ht
          rcases ht with rfl | rfl <;> kernel_rfl
        exact h0 t (List.mem_of_getElem? (by simpa using ht))⟩)
    (by kernel_rfl)
#print axioms formSetsCard_holds
end Go.Proofs.YtkgepklmhdjjnaaGreatDoor
