/-
  DERIVED. What follows for upcasters that may be; two events that are alike.
-/
import Derived.Test.YtfgjbmpbailebaaDoorUpO
import Derived.Test.YtfgjbmpbailebaaDoorShsame
namespace Go.Proofs.YtfgjbmpbailebaaDoor
open Go.RowKit Go.Maps
set_option linter.unusedVariables false

theorem head_range {u : Upc} (h : headE u = 0) : 0 ≤ u.frm ∧ u.frm < 1073741824 := by
  unfold headE at h
  split at h
  · omega
  · split at h
    · omega
    · omega
theorem good_ge {us : List Upc} (h : GoodU us) {tp : List UInt8} {vr : Int} (hv : I64 vr) (fs : List Fld) : vr ≤ (applyU us tp vr fs).1 := by
  have hl := h.len
  obtain ⟨k, hs, he, _, _⟩ := apply_ends (l := us) (t := tp) (v := vr) (fs := fs) (by omega) hv.1 hv.2 (fun _ => True) (fun _ _ _ _ => trivial) trivial
  rw [he]
  by_cases hk : k = 0
  · subst hk; rw [verN_zero hv.1 hv.2]; exact Int.le_refl _
  · obtain ⟨u, hu⟩ := Option.isSome_iff_exists.1 (hs.was 0 (by omega))
    obtain ⟨h1, _, h3⟩ := findU_some hu
    rw [verN_zero hv.1 hv.2] at h3
    have := head_range (h.head u h1)
    have := hs.le
    unfold verN
    rw [wrap_eq]
    omega
theorem good_latest {us : List Upc} (h : GoodU us) {tp : List UInt8} (fs : List Fld) : (applyU us tp 0 fs).1 = (latestU us tp : Nat) := by
  have hl := h.len
  obtain ⟨k, hs, he, hn, _⟩ := apply_ends (l := us) (t := tp) (v := 0) (fs := fs) (by omega) (by omega) (by omega) (fun _ => True) (fun _ _ _ _ => trivial) trivial
  have hk := hs.le
  rw [he, verN_nat (by omega)]
  rw [verN_nat (by omega)] at hn
  rw [latest_at hk (fun j hj => by have := hs.was j hj; rwa [verN_nat (by omega)] at this) hn]
theorem good_check {us : List Upc} (h : GoodU us) (hfit : ∀ u ∈ us, fitU u) {tp : List UInt8} {vr : Int} (hv : I64 vr) {fs : List Fld} (hf : ∀ f ∈ fs, fits f) (hc : checkF fs = 0) : checkF (applyU us tp vr fs).2 = 0 := by
  have hl := h.len
  obtain ⟨k, _, _, _, hp⟩ := apply_ends (l := us) (t := tp) (v := vr) (fs := fs) (by omega) hv.1 hv.2 (fun g => (∀ f ∈ g, fits f) ∧ checkF g = 0) (fun u hu g hg => by
    refine fold_keeps u.chs g (P := fun g => (∀ f ∈ g, fits f) ∧ checkF g = 0) (fun c hc g hg => ?_) hg
    exact ⟨doC_fits ((hfit u hu).2.2 c hc) hg.1, doC_check (chsE_ok (h.chs u hu) c hc) hg.1 hg.2⟩) ⟨hf, hc⟩
  exact hp.2
theorem good_rests {us : List Upc} (hl : us.length < 1000000000000000000) {tp : List UInt8} {vr : Int} (hv : I64 vr) (fs : List Fld) : applyU us tp (applyU us tp vr fs).1 (applyU us tp vr fs).2 = ((applyU us tp vr fs).1, (applyU us tp vr fs).2) := by
  obtain ⟨k, _, he, hn, _⟩ := apply_ends (l := us) (t := tp) (v := vr) (fs := fs) hl hv.1 hv.2 (fun _ => True) (fun _ _ _ _ => trivial) trivial
  exact apply_rests (by rw [he]; exact hn)
theorem apply_i64 {us : List Upc} (hl : us.length < 1000000000000000000) {tp : List UInt8} {vr : Int} (hv : I64 vr) (fs : List Fld) : I64 (applyU us tp vr fs).1 := by
  obtain ⟨k, _, he, _, _⟩ := apply_ends (l := us) (t := tp) (v := vr) (fs := fs) hl hv.1 hv.2 (fun _ => True) (fun _ _ _ _ => trivial) trivial
  rw [he]
  exact verN_range vr k

/-- A box of an event. -/
def EBx (w : World) (q : Nat) (t : List UInt8) (v : Int) (x : Value) : Prop := w.heap[q]? = some (.cells (evv t v x) 26 (0, 0))
theorem EBx.new (w : World) (t : List UInt8) (v : Int) (x : Value) : EBx (w.alloc (.cells (evv t v x) 26)) w.heap.size t v x := heap_alloc_new _ _
theorem EBx.lt {w : World} {q : Nat} {t : List UInt8} {v : Int} {x : Value} (h : EBx w q t v x) : q < w.heap.size := lt_of_block h
theorem EBx.below {B : Nat} {w w' : World} {q : Nat} {t : List UInt8} {v : Int} {x : Value} (h : EBx w q t v x) (hb : Below B w w') (hB : w.heap.size ≤ B) : EBx w' q t v x := (hb.block q (by have := h.lt; omega)).trans h
theorem EBx.cells {w : World} {q : Nat} {t : List UInt8} {v : Int} {x : Value} (h : EBx w q t v x) : w.cell? ⟨q, 0, none⟩ = some (sv t) ∧ w.cell? ⟨q, 1, none⟩ = some (.int .i64 v) ∧ w.cell? ⟨q, 2, none⟩ = some x :=
  ⟨(cell_of_row _ _ _ _ _ _ h).trans rfl, (cell_of_row _ _ _ _ _ _ h).trans rfl, (cell_of_row _ _ _ _ _ _ h).trans rfl⟩

set_option maxHeartbeats 4000000 in
theorem SameEvent_eq (tp : List UInt8) (v : Int) (R : List Fld) (a b : Option Addr) (n m c d : Nat) (w : World) (ha : FdL w (.slice a n c) R) (hb : FdL w (.slice b m d) R) :
    Calls Tryd.prog 10 #[.agg (evv tp v (.slice a n c)), .agg (evv tp v (.slice b m d))] w fun e w' => e = .returned (.bool true) ∧ Below w.heap.size w w' := by
  have hb1 : Below w.heap.size w (w.alloc (.cells (evv tp v (.slice a n c)) 26)) := (Below.refl _ _).alloc (Nat.le_refl _) _
  have hb2 := hb1.alloc hb1.size (.cells (evv tp v (.slice b m d)) 26)
  have x1 := EBx.new w tp v (.slice a n c)
  have x1' := x1.below ((Below.refl _ _).alloc (Nat.le_refl _) (.cells (evv tp v (.slice b m d)) 26)) (Nat.le_refl _)
  have x2 := EBx.new (w.alloc (.cells (evv tp v (.slice a n c)) 26)) tp v (.slice b m d)
  rw [show (w.alloc (.cells (evv tp v (.slice a n c)) 26)).heap.size = w.heap.size + 1 by simp] at x2
  have HS := hide (Same_eq (.slice a n c) (.slice b m d) R _ (ha.below hb2 (Nat.le_refl _)) (hb.below hb2 (Nat.le_refl _)))
  obtain ⟨w2, hw2⟩ : ∃ w2, w2 = (w.alloc (.cells (evv tp v (.slice a n c)) 26)).alloc (.cells (evv tp v (.slice b m d)) 26) := ⟨_, rfl⟩
  have HW2 := hide hw2
  rw [← hw2] at hb2 x1' x2 HS
  have HB2 := hide hb2
  obtain ⟨P, hP⟩ : ∃ P, P = w.heap.size := ⟨_, rfl⟩
  obtain ⟨Q, hQ⟩ : ∃ Q, Q = w.heap.size + 1 := ⟨_, rfl⟩
  rw [← hP] at x1'
  rw [← hQ] at x2
  have HX1 := hide x1'
  have HX2 := hide x2
  have HP := hide hP
  have HQ := hide hQ
  clear hw2 hb1 hb2 x1 x1' x2 hP hQ ha hb
  go_enter Tryd.func10, Tryd.ntmps10
  go_upto_region 1 with fail
  rw [← unhide HW2, ← unhide HQ, ← unhide HP]
  obtain ⟨x0, x1, x2⟩ := (unhide HX1).cells
  obtain ⟨y0, y1, y2⟩ := (unhide HX2).cells
  go_upto_region 2 with (go_at_call 22; refine (unhide HS).mono ?_; rintro e w3 ⟨rfl, b3⟩; have HB3 := hide ((unhide HB2).trans (b3.mono (unhide HB2).size)); have HX3 := hide ((unhide HX1).below b3 (Nat.le_refl _)); have HY3 := hide ((unhide HX2).below b3 (Nat.le_refl _)); clear b3)
  clear x0 x1 x2 y0 y1 y2
  obtain ⟨x0, x1, x2⟩ := (unhide HX3).cells
  obtain ⟨y0, y1, y2⟩ := (unhide HY3).cells
  go_wp2_with fail
  go_ret
  exact ⟨rfl, unhide HB3⟩
end Go.Proofs.YtfgjbmpbailebaaDoor
