/-
  DERIVED. FormKeeps: what is set is there then, in its place; all else stays; what is dropped is not there any more.
-/
import Derived.Test.YtihkbbhckdpaiaaGreatDoorShaw
import Derived.Test.YtihkbbhckdpaiaaGreatDoorShkm
import Derived.Test.YtihkbbhckdpaiaaGreatDoorShopen2
import Derived.Test.YtihkbbhckdpaiaaGreatDoorShlaid
import Derived.Test.YtihkbbhckdpaiaaGreatDoorCards
import Derived.Test.YtihkbbhckdpaiaaGreatDoorTie
import Derived.SevenTiedAt
namespace Go.Proofs.YtihkbbhckdpaiaaGreatDoor
open Go.ChangeShapes Go.WideShapes Go.ChangeAt Go.RowKit
open Go.ChangeMaps (open_string shut_string)
set_option linter.unusedVariables false

/-- Where the law stands: its box of f, its list r. -/
structure KSt (w0 W : World) (B : Nat) (f : Fld) (a : Option Addr) (c : Nat) (fs : List Fld) : Prop where
  bel : Below w0.heap.size w0 W
  box : FBox W B f
  arg : FdN W a c fs
  var : Vars W
theorem KSt.grown {w0 W W' : World} {B : Nat} {f : Fld} {a : Option Addr} {c : Nat} {fs : List Fld} (h : KSt w0 W B f a c fs) (b : Below W.heap.size W W') : KSt w0 W' B f a c fs :=
  ⟨h.bel.trans (b.mono h.bel.size), h.box.below b (Nat.le_refl _), h.arg.below b (Nat.le_refl _), h.var.below b (Nat.le_refl _)⟩
theorem KSt.alloc {w0 W : World} {B : Nat} {f : Fld} {a : Option Addr} {c : Nat} {fs : List Fld} (h : KSt w0 W B f a c fs) (o : Obj) : KSt w0 (W.alloc o) B f a c fs := h.grown ((Below.refl _ _).alloc (Nat.le_refl _) o)
theorem KSt.drewN {w0 W : World} {B : Nat} {f : Fld} {a : Option Addr} {c : Nat} {fs : List Fld} (h : KSt w0 W B f a c fs) (n : Nat) : KSt w0 (W.drewN n) B f a c fs := h.grown (below_drewN (Below.refl _ _) n)

theorem one_fdn (W : World) (f : Fld) : FdN (W.alloc (.cells (fv f) 37)) (some ⟨W.heap.size, 0, none⟩) 1 [f] := by
  have fb := FBox.new W f
  obtain ⟨x0, x1, x2, x3, _⟩ := fb.cells
  refine ⟨⟨_, _, rfl, by simp, by omega, fun _ => ⟨W.heap.size, 0, rfl, fb.lt, fun i hi => ?_⟩⟩, fun _ => ⟨_, _, rfl⟩⟩
  have : i = 0 := by simp at hi; omega
  subst this
  simp only [Nat.zero_mul, Nat.add_zero, Nat.zero_add, List.getElem_cons_zero]
  exact ⟨x0, x1, x2, x3⟩

theorem check_one {f : Fld} (h : checkF [f] = 0) : mayF f = 0 := (check_ok h).2.1 f (by simp)

set_option maxHeartbeats 16000000 in
theorem ShKeeps.walk (a : Option Addr) (c : Nat) (fs : List Fld) (f : Fld) (nm : List UInt8) (w : World) (hv : FdN w a c fs) (hfit : ∀ g ∈ fs, fits g) (hff : fits f) (hva : Vars w) :
    Calls Tryz.prog 6 #[.slice a fs.length c, .agg (fv f), sv nm] w fun e w' => e = .returned (.bool true) ∧ Below w.heap.size w w' := by
  have hcl : fs.length ≤ c ∧ c ≤ 9223372036854775807 := by obtain ⟨_, _, e, h1, h2, _⟩ := hv.1; cases e; exact ⟨h1, h2⟩
  have hb1 : Below w.heap.size w (w.alloc (.cells (fv f) 37)) := (Below.refl _ _).alloc (Nat.le_refl _) _
  have HK1 : Hid (KSt w (w.alloc (.cells (fv f) 37)) w.heap.size f a c fs) := hide ⟨hb1, FBox.new w f, hv.below hb1 (Nat.le_refl _), hva.below hb1 (Nat.le_refl _)⟩
  obtain ⟨w1, hw1⟩ : ∃ w1, w1 = w.alloc (.cells (fv f) 37) := ⟨_, rfl⟩
  have HW1 := hide hw1
  rw [← hw1] at HK1
  obtain ⟨fn, ft, fi, fss⟩ := f
  have HFit := hide hfit
  have HFf := hide hff
  clear hb1 hv hva hfit hff hw1
  go_enter Tryz.func6, Tryz.ntmps6
  go_upto_region 1 with fail
  rw [← unhide HW1]
  obtain ⟨B, hB⟩ : ∃ B, B = w.heap.size := ⟨_, rfl⟩
  rw [← hB] at HK1 ⊢
  clear HW1 hB
  have HA := hide (awake_go w1 (unhide HK1).var)
  go_upto_region 2 with (go_at_call 7; refine (unhide HA).mono ?_; rintro e w2 ⟨rfl, b2⟩; have HK2 := hide ((unhide HK1).grown b2); clear b2)
  clear HA HK1
  have HC1 := hide (Check_any a fs.length c fs w2 (unhide HK2).arg.1 (unhide HFit))
  by_cases hM1 : checkF fs = 0
  · obtain ⟨hr16, hrm, hri⟩ := check_ok hM1
    have HChk := hide hM1
    rw [hM1] at HC1
    clear hM1
    have HC2 : Hid (∀ W, KSt w W B ⟨fn, ft, fi, fss⟩ a c fs → Calls Tryz.prog 10 #[.slice (some ⟨W.heap.size, 0, none⟩) 1 1] (W.alloc (.cells (fv ⟨fn, ft, fi, fss⟩) 37)) fun e w' => e = .returned (.int .i64 (checkF [⟨fn, ft, fi, fss⟩])) ∧ Below (W.alloc (.cells (fv ⟨fn, ft, fi, fss⟩) 37)).heap.size (W.alloc (.cells (fv ⟨fn, ft, fi, fss⟩) 37)) w') := hide (fun W _ => Check_any _ _ _ [⟨fn, ft, fi, fss⟩] _ (one_fdn W _).1 (fun g hg => by rw [List.mem_singleton.1 hg]; exact unhide HFf))
    by_cases hM2 : checkF [(⟨fn, ft, fi, fss⟩ : Fld)] = 0
    · have HMay := hide (check_one hM2)
      rw [hM2] at HC2
      have HRm := hide hrm
      have HRi := hide hri
      clear hM2 hrm hri
      go_upto_region 4 with (go_at_call 10; first | (refine (unhide HC1).mono ?_; rintro e w3 ⟨rfl, b3⟩; have HK3 := hide ((unhide HK2).grown b3); obtain ⟨x0, x1, x2, x3, xf⟩ := (unhide HK3).box.cells; clear b3 HC1) | (refine (unhide HC2 _ (unhide HK3)).mono ?_; rintro e w4 ⟨rfl, b4⟩; have HK4 := hide (((unhide HK3).alloc _).grown b4); clear b4))
      clear x0 x1 x2 x3 xf
      obtain ⟨x0, x1, x2, x3, xf⟩ := (unhide HK4).box.cells
      simp only at x0 x1 x2 x3
      have HSet := hide (Set_any a c fs ⟨fn, ft, fi, fss⟩ w4 (unhide HK4).arg (by omega))
      obtain ⟨A, hA⟩ : ∃ A, A = setF fs ⟨fn, ft, fi, fss⟩ := ⟨_, rfl⟩
      have hAl : A.length ≤ 17 := by have := set_len fs (⟨fn, ft, fi, fss⟩ : Fld); rw [hA]; omega
      have HAr : Hid (Rising A) := hide (by rw [hA]; exact set_rising (unhide HRi) _)
      have HAf : Hid ((⟨fn, ft, fi, fss⟩ : Fld) ∈ A) := hide (by rw [hA]; exact set_self _ _)
      have HAm : Hid (∀ g ∈ fs, g.name ≠ fn → g ∈ A) := hide (fun g hg hne => by rw [hA]; exact set_mem (unhide HRi) _ hg hne)
      have HAfit : Hid (∀ g ∈ A, fits g) := hide (fun g hg => by
        rw [hA] at hg
        rcases set_sub hg with h | rfl
        · exact unhide HFit g h
        · exact unhide HFf)
      have HAc : Hid (A.length ≤ 16 → checkF A = 0) := hide (fun hl => by rw [hA] at hl ⊢; exact set_check (unhide HChk) (unhide HMay) hl)
      rw [← hA] at HSet
      clear hA
      go_upto_region 5 with (go_at_call 23; refine (unhide HSet).mono ?_; rintro e w5 ⟨v, rfl, own5, b5⟩; have HK5 := hide ((unhide HK4).grown b5); obtain ⟨va, vc, rfl, hfd⟩ := own5.fdn; have HFd5 := hide hfd; clear own5 b5 hfd)
      clear x0 x1 x2 x3 xf HSet
      have hvc : A.length ≤ vc ∧ vc ≤ 9223372036854775807 := by obtain ⟨_, _, e, h1, h2, _⟩ := (unhide HFd5).1; cases e; exact ⟨h1, h2⟩
      have HGet : Hid (∀ W k, FdN W va vc A → Calls Tryz.prog 21 #[.slice va A.length vc, sv k] W fun e w' => e = .returned (.tuple #[.agg (fv (getA A k)), .bool (hasF A k)]) ∧ Below W.heap.size W w') := hide (fun W k hW => Get_any va A.length vc A k W hW.1)
      obtain ⟨x0, x1, x2, x3, xf⟩ := (unhide HK5).box.cells
      simp only at x0 x1 x2 x3
      have HG1 := hide (unhide HGet w5 fn (unhide HFd5))
      rw [show getA A fn = ⟨fn, ft, fi, fss⟩ from (get_mem (unhide HAr) (unhide HAf)).1, show hasF A fn = true from (get_mem (unhide HAr) (unhide HAf)).2] at HG1
      go_upto_region 6 with (go_at_call 21; refine (unhide HG1).mono ?_; rintro e w6 ⟨rfl, b6⟩; have HK6 := hide (((unhide HK5).grown b6).alloc (.cells (fv ⟨fn, ft, fi, fss⟩) 37)); have HFd6 := hide (((unhide HFd5).below b6 (Nat.le_refl _)).below ((Below.refl _ _).alloc (Nat.le_refl _) (.cells (fv ⟨fn, ft, fi, fss⟩) 37)) (Nat.le_refl _)); have HX6 := hide (FBox.new w6 ⟨fn, ft, fi, fss⟩); clear b6)
      obtain ⟨w7, hw7⟩ : ∃ w7, w7 = w6.alloc (.cells (fv ⟨fn, ft, fi, fss⟩) 37) := ⟨_, rfl⟩
      rw [show w6.alloc (.cells #[Value.string ⟨fn.toArray⟩, .bool ft, .int .i64 fi, Value.string ⟨fss.toArray⟩] 37) = w7 from hw7.symm]
      rw [← hw7] at HK6 HFd6 HX6
      clear x0 x1 x2 x3 xf HG1 hw7
      obtain ⟨x0, x1, x2, x3, xf⟩ := (unhide HK6).box.cells
      obtain ⟨y0, y1, y2, y3, yf⟩ := (unhide HX6).cells
      simp only at x0 x1 x2 x3 y0 y1 y2 y3
      have HC3 := hide (Check_any va A.length vc A w7 (unhide HFd6).1 (unhide HAfit))
      have key : ∃ M, checkF A = M ∧ ((M != 0) = false ∨ ((M != 0) = true ∧ ¬ (A.length : Int) ≤ 16)) := by
        by_cases hl : A.length ≤ 16
        · exact ⟨0, unhide HAc hl, .inl rfl⟩
        · refine ⟨120, by simp [checkF]; omega, .inr ⟨rfl, by omega⟩⟩
      obtain ⟨M, hM, hM2⟩ := key
      rw [hM] at HC3
      clear hM
      obtain ⟨N, hN⟩ : ∃ N, N = fs.length := ⟨_, rfl⟩
      have HN := hide hN
      have hN16 : N ≤ 16 := by omega
      have HDrop : Hid (∀ W, FdN W va vc A → Calls Tryz.prog 24 #[.slice va A.length vc, sv nm] W fun e w' => ∃ v, e = .returned v ∧ FOwn w' W.heap.size v (dropF A nm) ∧ Below W.heap.size W w') := hide (fun W hW => Drop_any va vc A nm W hW (by omega))
      have HDno := hide (drop_no (unhide HAr) nm)
      have HDl := hide (drop_len A nm)
      obtain ⟨D, hD⟩ : ∃ D, D = dropF A nm := ⟨_, rfl⟩
      rw [← hD] at HDrop HDno HDl
      clear hD
      rw [← hN]
      clear hN
      rcases hM2 with hM2 | ⟨hM2, hM3⟩
      all_goals
        go_upto_region 8 with (go_at_call 10; refine (unhide HC3).mono ?_; rintro e w8 ⟨rfl, b8⟩; have HK8 := hide ((unhide HK6).grown b8); have HFd8 := hide ((unhide HFd6).below b8 (Nat.le_refl _)); clear b8)
        clear x0 x1 x2 x3 xf y0 y1 y2 y3 yf HC3
        go_wp2_with fail
        go_loopw [11, 12, 13] (fun i _ _ wr => ∃ (k : Nat), k ≤ N ∧ i = .int .i64 k ∧ Hid (KSt w wr B ⟨fn, ft, fi, fss⟩ a c fs) ∧ Hid (FdN wr va vc A)) (fun i _ _ _ => N - (intOf i).toNat)
        case atStart => exact ⟨0, by omega, rfl, HK8, HFd8⟩
        case round =>
          obtain ⟨k, hk, rfl, HKr, HFr⟩ := hrel
          clear HK8 HFd8
          by_cases hlt : k < N
          · obtain ⟨⟨gn, gt, gi, gs⟩, hgk⟩ : ∃ g, fs[k]? = some g := ⟨_, List.getElem?_eq_getElem (by have := unhide HN; omega)⟩
            have hgm := List.mem_of_getElem? hgk
            obtain ⟨a', c', e, _, _, hcells⟩ := fdl_cells (unhide HKr).arg.1
            cases e
            obtain ⟨b, off, rfl, hbl, z0, z1, z2, z3⟩ := hcells k _ hgk
            simp only at z0 z1 z2 z3
            have hbase := (unhide HKr).bel.size
            have HCell : Hid (∀ W, Below wr.heap.size wr W → W.cell? ⟨b, off + k * 4, none⟩ = some (sv gn) ∧ W.cell? ⟨b, off + k * 4 + 1, none⟩ = some (.bool gt) ∧ W.cell? ⟨b, off + k * 4 + 2, none⟩ = some (.int .i64 gi) ∧ W.cell? ⟨b, off + k * 4 + 3, none⟩ = some (sv gs)) := hide (fun W hW => ⟨cell_kept hW (Nat.le_refl _) z0, cell_kept hW (Nat.le_refl _) z1, cell_kept hW (Nat.le_refl _) z2, cell_kept hW (Nat.le_refl _) z3⟩)
            have hcase : hasF A gn = true ∧ ((gn = fn) ∨ (gn ≠ fn ∧ getA A gn = ⟨gn, gt, gi, gs⟩)) := by
              by_cases he : gn = fn
              · exact ⟨by rw [he]; exact (get_mem (unhide HAr) (unhide HAf)).2, .inl he⟩
              · have := get_mem (unhide HAr) (unhide HAm _ hgm he)
                exact ⟨this.2, .inr ⟨he, this.1⟩⟩
            obtain ⟨hhas, hcase⟩ := hcase
            have HGr := hide (unhide HGet wr gn (unhide HFr))
            rw [hhas] at HGr
            obtain ⟨⟨qn, qt, qi, qs⟩, hqe⟩ : ∃ q, q = getA A gn := ⟨_, rfl⟩
            rw [← hqe] at HGr hcase
            clear hgk hgm hcells hhas hqe z1 z2 z3
            go_upto_region 12 with (go_at_call 21; refine (unhide HGr).mono ?_; rintro e w9 ⟨rfl, b9⟩; have HB9 := hide (b9.alloc b9.size (.cells (fv ⟨qn, qt, qi, qs⟩) 37)); have HX9 := hide (FBox.new w9 ⟨qn, qt, qi, qs⟩); clear b9)
            obtain ⟨w10, hw10⟩ : ∃ w10, w10 = w9.alloc (.cells (fv ⟨qn, qt, qi, qs⟩) 37) := ⟨_, rfl⟩
            rw [show w9.alloc (.cells #[Value.string ⟨qn.toArray⟩, .bool qt, .int .i64 qi, Value.string ⟨qs.toArray⟩] 37) = w10 from hw10.symm]
            rw [← hw10] at HB9 HX9
            have HK10 := hide ((unhide HKr).grown (unhide HB9))
            have HF10 := hide ((unhide HFr).below (unhide HB9) (Nat.le_refl _))
            obtain ⟨P, hP⟩ : ∃ P, P = w9.heap.size := ⟨_, rfl⟩
            rw [← hP] at HX9 ⊢
            clear hw10 hP z0
            have r0 : ∀ m, (w10.drewN m).cell? ⟨b, off + k * 4, none⟩ = some (sv gn) := fun m => (unhide HCell _ (below_drewN (unhide HB9) m)).1
            have r1 : ∀ m, (w10.drewN m).cell? ⟨b, off + k * 4 + 1, none⟩ = some (.bool gt) := fun m => (unhide HCell _ (below_drewN (unhide HB9) m)).2.1
            have r2 : ∀ m, (w10.drewN m).cell? ⟨b, off + k * 4 + 2, none⟩ = some (.int .i64 gi) := fun m => (unhide HCell _ (below_drewN (unhide HB9) m)).2.2.1
            have r3 : ∀ m, (w10.drewN m).cell? ⟨b, off + k * 4 + 3, none⟩ = some (sv gs) := fun m => (unhide HCell _ (below_drewN (unhide HB9) m)).2.2.2
            have f0 : ∀ m, (w10.drewN m).cell? ⟨B, 0, none⟩ = some (sv fn) := fun m => ((unhide HK10).drewN m).box.cells.1
            have q0 : ∀ m, (w10.drewN m).cell? ⟨P, 0, none⟩ = some (sv qn) := fun m => ((unhide HX9).below (below_drewN (Below.refl _ _) m) (Nat.le_refl _)).cells.1
            have q1 : ∀ m, (w10.drewN m).cell? ⟨P, 1, none⟩ = some (.bool qt) := fun m => ((unhide HX9).below (below_drewN (Below.refl _ _) m) (Nat.le_refl _)).cells.2.1
            have q2 : ∀ m, (w10.drewN m).cell? ⟨P, 2, none⟩ = some (.int .i64 qi) := fun m => ((unhide HX9).below (below_drewN (Below.refl _ _) m) (Nat.le_refl _)).cells.2.2.1
            have q3 : ∀ m, (w10.drewN m).cell? ⟨P, 3, none⟩ = some (sv qs) := fun m => ((unhide HX9).below (below_drewN (Below.refl _ _) m) (Nat.le_refl _)).cells.2.2.2.1
            rcases hcase with he | ⟨he, heq⟩
            · have hbe : (gn == fn) = true := beq_iff_eq.2 he
              have hbn : (gn != fn) = false := by simp [he]
              clear he
              go_quiet (fail)
              go_wp2
              go_roundw
              case rel => exact ⟨k + 1, by omega, by go_num, hide ((unhide HK10).drewN _), hide ((unhide HF10).below (below_drewN (Below.refl _ _) _) (Nat.le_refl _))⟩
              case measure => simp [intOf]; omega
            · have hbe : (gn == fn) = false := beq_eq_false_iff_ne.2 he
              have hbn : (gn != fn) = true := by simp [he]
              cases heq
              clear he
              go_quiet (fail)
              go_wp2
              go_roundw
              case rel => exact ⟨k + 1, by omega, by go_num, hide ((unhide HK10).drewN _), hide ((unhide HF10).below (below_drewN (Below.refl _ _) _) (Nat.le_refl _))⟩
              case measure => simp [intOf]; omega
          · go_upto_region 15 with (go_at_call 24; refine (unhide HDrop _ (unhide HFr)).mono ?_; rintro e w11 ⟨v, rfl, own11, b11⟩; have HK11 := hide ((unhide HKr).grown b11); have HF11 := hide ((unhide HFr).below b11 (Nat.le_refl _)); obtain ⟨da, dc, rfl, hfd⟩ := own11.fdn; have HD11 := hide hfd; clear own11 b11 hfd)
            have hdc : D.length ≤ dc ∧ dc ≤ 9223372036854775807 := by obtain ⟨_, _, e, h1, h2, _⟩ := (unhide HD11).1; cases e; exact ⟨h1, h2⟩
            have HG11 := hide (Get_any da D.length dc D nm w11 (unhide HD11).1)
            rw [unhide HDno, get_none (unhide HDno)] at HG11
            obtain ⟨⟨qn, qt, qi, qs⟩, hqe⟩ : ∃ q, q = getA A nm := ⟨_, rfl⟩
            have hfin : (hasF A nm = true ∧ ((D.length : Int) == (A.length : Int) - 1) = true) ∨ (hasF A nm = false ∧ D.length = A.length) := by
              cases hh : hasF A nm with
              | true => have := (unhide HDl).1 hh; exact .inl ⟨rfl, by simp; omega⟩
              | false => exact .inr ⟨rfl, (unhide HDl).2 hh⟩
            have HG12 : Hid (∀ W, FdN W va vc A → Calls Tryz.prog 21 #[.slice va A.length vc, sv nm] W fun e w' => e = .returned (.tuple #[.agg (fv ⟨qn, qt, qi, qs⟩), .bool (hasF A nm)]) ∧ Below W.heap.size W w') := hide (fun W hW => by have := unhide HGet W nm hW; rwa [← hqe] at this)
            clear hqe
            have hA1 : 1 ≤ A.length := List.length_pos_of_mem (unhide HAf)
            rcases hfin with ⟨hh, hl⟩ | ⟨hh, hl⟩
            · rw [hh] at HG12
              clear hh
              have m1 : True := trivial
              go_wp2_with (go_at_call 21; first | (with_reducible clear m1; refine (unhide HG11).mono ?_; rintro e w12 ⟨rfl, b12⟩; have HK12 := hide (((unhide HK11).grown b12).alloc (.cells (fv fld0) 37)); have HF12 := hide (((unhide HF11).below b12 (Nat.le_refl _)).below ((Below.refl _ _).alloc (Nat.le_refl _) (.cells (fv fld0) 37)) (Nat.le_refl _)); clear b12) | (refine (unhide HG12 _ (unhide HF12)).mono ?_; rintro e w13 ⟨rfl, b13⟩; have HK13 := hide (((unhide HK12).grown b13).alloc (.cells (fv ⟨qn, qt, qi, qs⟩) 37)); clear b13))
              go_ret
              exact ⟨rfl, (unhide HK13).bel⟩
            · rw [hh] at HG12
              have hl' : ((D.length : Int) == (A.length : Int)) = true := by simp; omega
              clear hh hl
              have m1 : True := trivial
              go_wp2_with (go_at_call 21; first | (with_reducible clear m1; refine (unhide HG11).mono ?_; rintro e w12 ⟨rfl, b12⟩; have HK12 := hide (((unhide HK11).grown b12).alloc (.cells (fv fld0) 37)); have HF12 := hide (((unhide HF11).below b12 (Nat.le_refl _)).below ((Below.refl _ _).alloc (Nat.le_refl _) (.cells (fv fld0) 37)) (Nat.le_refl _)); clear b12) | (refine (unhide HG12 _ (unhide HF12)).mono ?_; rintro e w13 ⟨rfl, b13⟩; have HK13 := hide (((unhide HK12).grown b13).alloc (.cells (fv ⟨qn, qt, qi, qs⟩) 37)); clear b13))
              go_ret
              exact ⟨rfl, (unhide HK13).bel⟩
    · obtain ⟨M, hM⟩ : ∃ M, M = checkF [(⟨fn, ft, fi, fss⟩ : Fld)] := ⟨_, rfl⟩
      rw [← hM] at HC2 hM2
      have hm : (M != 0) = true := by simp [hM2]
      clear hM hM2 hrm hri
      go_wp2_with (go_at_call 10; first | (refine (unhide HC1).mono ?_; rintro e w3 ⟨rfl, b3⟩; have HK3 := hide ((unhide HK2).grown b3); obtain ⟨x0, x1, x2, x3, xf⟩ := (unhide HK3).box.cells; clear b3 HC1) | (refine (unhide HC2 _ (unhide HK3)).mono ?_; rintro e w4 ⟨rfl, b4⟩; have HK4 := hide (((unhide HK3).alloc _).grown b4); clear b4))
      go_ret
      exact ⟨rfl, (unhide HK4).bel⟩
  · obtain ⟨M, hM⟩ : ∃ M, M = checkF fs := ⟨_, rfl⟩
    rw [← hM] at HC1 hM1
    have hm : (M != 0) = true := by simp [hM1]
    clear hM hM1
    go_wp2_with (go_at_call 10; refine (unhide HC1).mono ?_; rintro e w3 ⟨rfl, b3⟩; have HK3 := hide ((unhide HK2).grown b3); clear b3)
    go_ret
    exact ⟨rfl, (unhide HK3).bel⟩

set_option maxRecDepth 100000 in
theorem ShKeeps.lifted (os : Os) (started : os.Started) (H : Type) (enc : TypeId × Value → H) :
    ReturnsInHanded {} Tryz.checked os 6 .any (fun w args => (Rows.formKeepsSpec.pre enc Tryz.prog Tryz.f6 [] false w args ∧ laidMetH Tryz.prog seatLaid w) ∧ sizedMet enc Tryz.prog Tryz.f6 (OpenSpec.ofChange Rows.formKeepsSpec) false w args)
      (Rows.formKeepsSpec.post enc Tryz.prog Tryz.f6 false true false false) := by
  refine returnsInHanded_of_change_and (C := Tryz.checked) (X := fun w _ => laidMetH Tryz.prog seatLaid w) (fun _ _ _ hh h => h.of_heap hh) own_knob started (by kernel_rfl) Tryz.func6
    (ChangeSpec.witness_at (enc := enc) (C := Tryz.checked) (os := os) (X := fun w _ => laidMetH Tryz.prog seatLaid w) false (laidWorld os) #[.slice none 0 0, .agg (fv fld0), .string ⟨#[]⟩] 8 rfl (by kernel_rfl) (by kernel_rfl) (by kernel_rfl) (by kernel_rfl) (by kernel_rfl) (laidWorld_met os _)) ?_
  intro W base args ds gs before hval0 hW _ hsz0 hL _
  have hval : ∀ (j : Nat) t v, Tryz.f6.params[j]? = some t → args[j]? = some v → Value.okWide Tryz.prog W .any base t v := hval0
  have hsz : (DataW.weightsEach Tryz.prog (Tryz.f6.params.toList ++ Rows.formKeepsSpec.plain.varTypes Tryz.prog) (ds ++ gs)).all (· ≤ reachBytes) = true := hsz0
  have hW' := hW
  obtain ⟨p, q, hA0, hV, rfl, hfz, hnd⟩ := hW
  have hA : DataW.TrodAll enc Tryz.prog W 0 (fun _ => true) true Tryz.f6.params.toList args.toList ds p := hA0
  rw [Tryz.params6] at hA hval hsz
  obtain ⟨v0, vs0, d0, ds0, p0, q0, e0, rfl, rfl, h0, hA⟩ := trodAll_cons hA
  obtain ⟨v1, vs1, d1, ds1, p1, q1, rfl, rfl, rfl, h1, hA⟩ := trodAll_cons hA
  obtain ⟨v2, vs2, d2, ds2, p2, q2, rfl, rfl, rfl, h2, hA⟩ := trodAll_cons hA
  obtain ⟨rfl, rfl, rfl⟩ := trodAll_nil hA
  obtain rfl : args = #[v0, v1, v2] := by cases args; simp_all
  obtain ⟨rfl, rfl⟩ := trodVars_none hV
  obtain ⟨a0, n0, c0, rfl⟩ := okWide_slice Tryz.underlying22 (hval 0 22 v0 rfl rfl)
  have k0 := h0
  have lt0 : ∀ x ∈ p0, x.block < W.heap.size := by obtain ⟨m, hm⟩ := k0; exact DataW.trod_lt m _ _ _ hm
  obtain ⟨l0, rfl, g0, f0⟩ := open_fdn hsz (j := 0) rfl h0 rfl
  have k1 := h1
  have lt1 : ∀ x ∈ p1, x.block < W.heap.size := by obtain ⟨m, hm⟩ := k1; exact DataW.trod_lt m _ _ _ hm
  obtain ⟨l1, rfl, f1⟩ := open_fld (hval 1 37 v1 rfl rfl) h1
  obtain ⟨s2, rfl, rfl, rfl, hs2⟩ := open_string Tryz.underlying9 (hval 2 9 v2 rfl rfl) h2
  have ls2 : s2.data.toList.length ≤ 140737488351232 := by
    have := sized_string hsz (j := 2) (t := 9) rfl rfl
    simp only [reachBytes] at this
    omega
  clear hA0 hval0 hsz0
  refine (ShKeeps.walk a0 c0 l0 l1 s2.data.toList W g0 f0 f1 (vars_of_laid hL)).mono fun e W' ⟨he, bel⟩ => ?_
  subst he
  exact ⟨_, rfl, _, _, _, [], _, [], hW', trodAll_mk1 (shut_bool Tryz.underlying4 _), (trodAll_cons_mk (Below.trod laid_out (by kernel_rfl) (of_decide_eq_true (by kernel_rfl)) k0 bel lt0) (trodAll_cons_mk (Below.trod laid_out (by kernel_rfl) (of_decide_eq_true (by kernel_rfl)) k1 bel lt1) (trodAll_cons_mk (shut_string Tryz.underlying9 hs2) trodAll_mk0))), rfl, bel.frame _, fun h => by cases h⟩

theorem formKeeps_holds : Rows.FormKeepsSaid :=
  OpenClaim.holds_of_wide 6 Tryz.f6 rfl rfl rfl rfl rfl rfl rfl ⟨rfl, rfl, rfl, rfl, rfl⟩ rfl rfl rfl rfl rfl (by kernel_rfl) Tryz.func6 (by kernel_rfl)
    (of_decide_eq_true (by kernel_rfl)) (by unfold Func.isWrapper; first | (rw [if_pos (by decide +kernel)]; kernel_rfl) | (rw [if_neg (by decide +kernel)]; exact ⟨rfl, rfl⟩))
    (fun os started H enc _ => ShKeeps.lifted os started H enc)

theorem formKeepsCard_holds : Rows.FormKeepsCardSaid :=
  Claim7.holds_tied_plain_at .later [] _ _ _ _
    formKeeps_holds (fun _ h => by cases h) (by kernel_rfl) (fun _ h => by cases h) formKeeps_row_tie rfl ⟨rfl, rfl⟩ (by kernel_rfl) rfl
    (fun f fn hf hfn => by
      obtain rfl : f = 6 := Option.some.inj ((show Tryz.prog.funcNamed "cartulary/cartularylaw12.FormKeeps" = some 6 by kernel_rfl).symm.trans hf) |>.symm
      obtain rfl : fn = Tryz.f6 := (Option.some.inj (Tryz.func6.symm.trans hfn)).symm
      exact ⟨by kernel_rfl, fun j t ht => by
        rw [Tryz.params6] at ht
        have h0 : ∀ (t : TypeId), t ∈ ([22, 37, 9] : List TypeId) → Tryz.prog.wantsStandIn t = false := by
          intro t ht
          simp only [List.mem_cons, List.not_mem_nil, or_false] at ht
          rcases ht with rfl | rfl | rfl <;> kernel_rfl
        exact h0 t (List.mem_of_getElem? (by simpa using ht))⟩)
    (by kernel_rfl)
#print axioms formKeepsCard_holds
end Go.Proofs.YtihkbbhckdpaiaaGreatDoor
