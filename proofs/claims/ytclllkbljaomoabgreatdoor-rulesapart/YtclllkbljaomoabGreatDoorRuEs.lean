/-
  DERIVED. The document's SameEvents, of events that are alike.
-/
import Derived.Test.YtclllkbljaomoabGreatDoorRuDg
import Derived.Test.YtclllkbljaomoabGreatDoorShpl
import Derived.Deep.RegionHeld3
import Derived.Test.YtclllkbljaomoabGreatDoorRuOd
namespace Go.Proofs.YtclllkbljaomoabGreatDoor
open Go.RowKit
set_option linter.unusedVariables false

/-- A slice of events reads as these. -/
def EvRd (w : World) (v : Value) (L : List EvM) : Prop := ∃ a c, v = .slice a L.length c ∧ L.length ≤ c ∧ c ≤ 9223372036854775807 ∧
  ∀ (k : Nat) (e : EvM), L[k]? = some e → ∃ b off fa fc, a = some ⟨b, off, none⟩ ∧ b < w.heap.size ∧ w.cell? ⟨b, off + k * 3, none⟩ = some (sv e.type) ∧ w.cell? ⟨b, off + k * 3 + 1, none⟩ = some (.int .i64 0) ∧ w.cell? ⟨b, off + k * 3 + 2, none⟩ = some (.slice fa e.fields.length fc) ∧ FdL w (.slice fa e.fields.length fc) e.fields
theorem EvRd.below {B : Nat} {w w' : World} {v : Value} {L : List EvM} (h : EvRd w v L) (hb : Below B w w') (hB : w.heap.size ≤ B) : EvRd w' v L := by
  obtain ⟨a, c, rfl, h1, h2, h3⟩ := h
  refine ⟨a, c, rfl, h1, h2, fun k e hk => ?_⟩
  obtain ⟨b, off, fa, fc, e1, hlt, c0, c1, c2, hf⟩ := h3 k e hk
  exact ⟨b, off, fa, fc, e1, Nat.lt_of_lt_of_le hlt hb.size, cell_kept hb hB c0, cell_kept hb hB c1, cell_kept hb hB c2, hf.below hb hB⟩
theorem EvOwn.rd {w : World} {base : Nat} {v : Value} {L : List EvM} (h : EvOwn w base v L) : EvRd w v L := by
  obtain ⟨R, ⟨h1, h2⟩, h3, h4⟩ := h
  rcases h2 with ⟨rfl, e⟩ | ⟨g, cap, cur, rfl, hb, hg, hn, hm, hs, ht⟩
  · have : L = [] := List.eq_nil_of_length_eq_zero (by omega)
    subst this
    exact ⟨none, 0, rfl, by simp, by omega, fun k e hk => by simp at hk⟩
  · refine ⟨some ⟨g, 0, none⟩, cap, by rw [h3], by omega, by unfold maxLen at hm; omega, fun k e hk => ?_⟩
    have hkl := (List.getElem?_eq_some_iff.1 hk).1
    obtain ⟨r, hr⟩ : ∃ r, R[k]? = some r := ⟨_, List.getElem?_eq_getElem (by omega)⟩
    obtain ⟨e0, e1, e2⟩ := h4 k e r hk hr
    obtain ⟨q0, q1, q2⟩ := ecs_get R k r hr
    have at' : ∀ j u, (ecs R)[j]? = some u → w.cell? ⟨g, j, none⟩ = some u := by
      intro j u hu
      have hj := (List.getElem?_eq_some_iff.1 hu).1
      have e : (cur.toList.take (R.length * 3))[j]? = (ecs R)[j]? := by rw [ht]
      rw [List.getElem?_take_of_lt (by omega), hu] at e
      simp only [World.cell?, hg]
      simpa using e
    refine ⟨g, 0, r.a, r.c, rfl, lt_of_block hg, ?_, ?_, ?_, ?_⟩
    · rw [← e0, Nat.zero_add]; exact at' _ _ q0
    · rw [Nat.zero_add]; exact at' _ _ q1
    · rw [← e1, Nat.zero_add]; exact at' _ _ q2
    · rw [← e1]; exact e2.fdl

set_option maxRecDepth 20000 in
set_option maxHeartbeats 8000000 in
theorem SameEv_eq (u v : Value) (L : List EvM) (w : World) (hu : EvRd w u L) (hv : EvRd w v L) :
    Calls Tryz.prog 10 #[u, v] w fun e w' => e = .returned (.bool true) ∧ Below w.heap.size w w' := by
  have hu0 := hu
  have hv0 := hv
  obtain ⟨a, c, rfl, hac, hc63, ha⟩ := hu
  obtain ⟨b, d, rfl, hbd, hd63, hb⟩ := hv
  have HA := hide (fun W (hW : Below w.heap.size w W) => hu0.below hW (Nat.le_refl _))
  have HB := hide (fun W (hW : Below w.heap.size w W) => hv0.below hW (Nat.le_refl _))
  obtain ⟨N, hN⟩ : ∃ N, N = L.length := ⟨_, rfl⟩
  have HN := hide hN
  rw [← hN] at hac hbd HA HB ⊢
  clear ha hb hu0 hv0 hN
  go_enter Tryz.func10, Tryz.ntmps10
  go_wp2_with fail
  go_loopw [5, 6] (fun i _ wr => ∃ (k : Nat), k ≤ N ∧ i = .int .i64 k ∧ Hid (Below w.heap.size w wr)) (fun i _ _ => N - (intOf i).toNat)
  case atStart => exact ⟨0, by omega, rfl, hide (Below.refl _ _)⟩
  case round =>
    obtain ⟨k, hk, rfl, HW⟩ := hrel
    by_cases hlt : k < N
    · obtain ⟨⟨tp, fs⟩, hf⟩ : ∃ e, L[k]? = some e := ⟨_, List.getElem?_eq_getElem (by have := unhide HN; omega)⟩
      obtain ⟨a1, _, e1, -, -, ha⟩ := unhide HA wr (unhide HW)
      obtain rfl : a = a1 := by injection e1
      obtain ⟨b1, _, e2, -, -, hb⟩ := unhide HB wr (unhide HW)
      obtain rfl : b = b1 := by injection e2
      clear e1 e2
      obtain ⟨b1, o1, fa, fc, rfl, _, x0, x1, x2, hfa⟩ := ha k _ hf
      obtain ⟨b2, o2, ga, gc, rfl, _, y0, y1, y2, hfb⟩ := hb k _ hf
      simp only at x0 x2 y0 y2 hfa hfb
      obtain ⟨M, hM⟩ : ∃ M, M = fs.length := ⟨_, rfl⟩
      have hkN : (k : Int) < (N : Int) := by omega
      have hk0 : ¬ (k : Int) < 0 := by omega
      have HSa : Hid (∀ V, Below wr.heap.size wr V → Calls Tryz.prog 26 #[.slice fa M fc, .slice ga M gc] V fun e w' => e = .returned (.bool true) ∧ Below V.heap.size V w') := hide (fun V hV => by
        rw [hM]
        exact Same_eq _ _ fs V (hfa.below hV (Nat.le_refl _)) (hfb.below hV (Nat.le_refl _)))
      rw [← hM] at x2 y2
      have HSV : Hid (∀ V, Below wr.heap.size wr V → V.cell? ⟨b1, o1 + k * 3 + 2, none⟩ = some (.slice fa M fc) ∧ V.cell? ⟨b2, o2 + k * 3 + 2, none⟩ = some (.slice ga M gc)) := hide (fun V hV => ⟨kept hV x2, kept hV y2⟩)
      have HTV : Hid (∀ V, Below wr.heap.size wr V → V.cell? ⟨b1, o1 + k * 3, none⟩ = some (sv tp) ∧ V.cell? ⟨b1, o1 + k * 3 + 1, none⟩ = some (.int .i64 0) ∧ V.cell? ⟨b2, o2 + k * 3, none⟩ = some (sv tp) ∧ V.cell? ⟨b2, o2 + k * 3 + 1, none⟩ = some (.int .i64 0)) := hide (fun V hV => ⟨kept hV x0, kept hV x1, kept hV y0, kept hV y1⟩)
      have bD : Below wr.heap.size wr wr.drew := (Below.refl _ _).drew
      have S0 := hide (unhide HSV _ (Below.refl _ _))
      have SD := hide (unhide HSV _ bD)
      have CD := hide (unhide HSa _ bD)
      have BD := hide bD
      clear ha hb hf hfa hfb x0 x1 x2 y0 y1 y2 hM bD
      go_upto_region 6 with fail
      go_region_held3 (fun V => V.cell? ⟨b1, o1 + k * 3 + 2, none⟩ = some (.slice fa M fc) ∧ V.cell? ⟨b2, o2 + k * 3 + 2, none⟩ = some (.slice ga M gc))
        (first | with_reducible exact unhide S0 | with_reducible exact unhide SD | with_reducible exact unhide S5)
        ((go_at_call 26; refine (unhide CD).mono ?_; rintro e w5 ⟨rfl, b5⟩; have B5 := hide ((unhide BD).trans (b5.mono (unhide BD).size)); have S5 := hide (unhide HSV _ (unhide B5)); clear b5))
      all_goals
        have q0 : ∀ n, (w5.drewN n).cell? ⟨b1, o1 + k * 3, none⟩ = some (sv tp) := fun n => (unhide HTV w5 (unhide B5)).1
        have q1 : ∀ n, (w5.drewN n).cell? ⟨b1, o1 + k * 3 + 1, none⟩ = some (.int .i64 0) := fun n => (unhide HTV w5 (unhide B5)).2.1
        have q2 : ∀ n, (w5.drewN n).cell? ⟨b2, o2 + k * 3, none⟩ = some (sv tp) := fun n => (unhide HTV w5 (unhide B5)).2.2.1
        have q3 : ∀ n, (w5.drewN n).cell? ⟨b2, o2 + k * 3 + 1, none⟩ = some (.int .i64 0) := fun n => (unhide HTV w5 (unhide B5)).2.2.2
        have HW2 := hide (fun n => (unhide HW).trans ((below_drewN (unhide B5) n).mono (unhide HW).size))
        clear S0 SD S5 CD HSa HSV
        go_upto_region 7 with fail
        go_quiet (fail)
        go_wp2_with fail
        go_roundw
        case rel => exact ⟨k + 1, by omega, by go_num, hide (unhide HW2 _)⟩
        case measure => simp [intOf]; omega
    · go_wp2_with fail
      go_ret
      exact ⟨rfl, unhide HW⟩
end Go.Proofs.YtclllkbljaomoabGreatDoor

namespace Go.Proofs.YtclllkbljaomoabGreatDoor
open Go.RowKit
set_option linter.unusedVariables false

/-- The decision, or none; the error, or 0. -/
def decV (R : Except Int Dc) : Dc := match R with | .ok d => d | .error _ => ⟨false, [], []⟩
def decN (R : Except Int Dc) : Int := match R with | .ok _ => 0 | .error n => n
theorem caughtD_two {w w' : World} {R : Except Int Dc} {e : Ending} (h : CaughtD w R e w') : ∃ a c, e = .returned (.tuple #[.agg #[.bool (decV R).refused, sv (decV R).reason, .slice a (decV R).events.length c], .int .i64 (decN R)]) ∧ EvOwn w' w.heap.size (.slice a (decV R).events.length c) (decV R).events ∧ Below w.heap.size w w' := by
  obtain ⟨h1, h2⟩ := h
  cases R with
  | error n => exact ⟨none, 0, h1, EvOwn.nil _ _, h2⟩
  | ok d =>
    obtain ⟨v, rfl, ho⟩ := h1
    obtain ⟨a, c, rfl⟩ := ho.slice
    exact ⟨a, c, rfl, ho, h2⟩

theorem bigHaP.v {hs : List Ha} {Y : List HaV} (hY : Y.map HaV.p = hs) (h : ∀ x ∈ hs, bigHaP x) : ∀ y ∈ Y, bigHa y := by
  intro y hy x hx
  have hp : y.p ∈ hs := by rw [← hY]; exact List.mem_map_of_mem hy
  have hc : x.p ∈ y.p.cases := List.mem_map_of_mem hx
  obtain ⟨h1, h2⟩ := (h _ hp).2 _ hc
  refine ⟨?_, fun m hm => ?_⟩
  · have : x.p.emits.length = x.emits.length := by simp [CsV.p]
    omega
  · have hm' : m.p ∈ x.p.emits := List.mem_map_of_mem hm
    have h3 := h2 _ hm'
    have : m.p.sets.length = m.sets.length := by simp [EmV.p]
    omega
theorem bigHaP.r {hs : List Ha} (h : ∀ x ∈ hs, bigHaP x) : ∀ x ∈ hs, ∀ c ∈ x.cases, c.emits.length ≤ 3600000000000 ∧ ∀ e ∈ c.emits, e.sets.length ≤ 2000000000000 := by
  intro x hx c hc
  obtain ⟨h1, h2⟩ := (h _ hx).2 _ hc
  exact ⟨by omega, fun e he => by have := h2 e he; omega⟩

/-- Only fields that lie between lo and hi have been written over. -/
structure Mut (lo hi : Nat) (wL wr : World) : Prop where
  bel : Below lo wL wr
  shp : ∀ q cur, lo ≤ q → q < hi → wL.heap[q]? = some (.cells cur 30 (0, 0)) → ∃ cur', wr.heap[q]? = some (.cells cur' 30 (0, 0)) ∧ cur'.size = cur.size
  oth : ∀ q, (hi ≤ q ∨ ∀ cur, wL.heap[q]? ≠ some (.cells cur 30 (0, 0))) → wr.heap[q]? = wL.heap[q]?
theorem Mut.refl (lo hi : Nat) (w : World) (h : lo ≤ w.heap.size) : Mut lo hi w w := ⟨(Below.refl _ _).mono h, fun q cur _ _ h => ⟨cur, h, rfl⟩, fun q _ => rfl⟩
theorem Mut.set1 {lo hi : Nat} {wL wr : World} (h : Mut lo hi wL wr) {g : Nat} {cur0 : Array Value} (hg : lo ≤ g) (hh : g < hi) (hf : wL.heap[g]? = some (.cells cur0 30 (0, 0))) (i : Nat) (x : Value) : Mut lo hi wL (wr.setCell ⟨g, i, none⟩ x) := by
  refine ⟨h.bel.setCell (p := ⟨g, i, none⟩) hg x, fun q cur hq hq2 hc => ?_, fun q hq => ?_⟩
  · obtain ⟨cur', h1, h2⟩ := h.shp q cur hq hq2 hc
    by_cases e : q = g
    · subst e
      exact ⟨_, heap_setCell_same _ q i _ _ _ h1, by rw [Array.size_setIfInBounds]; exact h2⟩
    · exact ⟨cur', (heap_setCell_other _ ⟨g, i, none⟩ _ _ e).trans h1, h2⟩
  · have e : q ≠ g := by
      rintro rfl
      rcases hq with hq | hq
      · omega
      · exact hq cur0 hf
    exact (heap_setCell_other _ ⟨g, i, none⟩ _ _ e).trans (h.oth q hq)
theorem Mut.put {lo hi : Nat} {wL wr : World} (h : Mut lo hi wL wr) {g : Nat} {cur0 : Array Value} (hg : lo ≤ g) (hh : g < hi) (hf : wL.heap[g]? = some (.cells cur0 30 (0, 0))) (k : Nat) (f : Fld) : Mut lo hi wL ((((wr.setCell ⟨g, k * 4, none⟩ (sv f.name)).setCell ⟨g, k * 4 + 1, none⟩ (.bool f.text)).setCell ⟨g, k * 4 + 2, none⟩ (.int .i64 f.n)).setCell ⟨g, k * 4 + 3, none⟩ (sv f.s)) :=
  (((h.set1 hg hh hf _ _).set1 hg hh hf _ _).set1 hg hh hf _ _).set1 hg hh hf _ _
theorem evown_heap {w w' : World} {base : Nat} {v : Value} {L : List EvM} (h : EvOwn w base v L) (hk : ∀ g, base ≤ g → w'.heap[g]? = w.heap[g]?) : EvOwn w' base v L := by
  obtain ⟨R, ⟨h1, h2⟩, h3, h4⟩ := h
  refine ⟨R, ⟨h1, ?_⟩, h3, fun i e r hi hr => ?_⟩
  · rcases h2 with h | ⟨g, cap, cur, a, b, c, r⟩
    · exact .inl h
    · exact .inr ⟨g, cap, cur, a, b, (hk g b).trans c, r⟩
  · obtain ⟨a, b, c1, c2⟩ := h4 i e r hi hr
    refine ⟨a, b, c1, ?_⟩
    rcases c2 with h | ⟨g, cap, cur, a, b, c, r⟩
    · exact .inl h
    · exact .inr ⟨g, cap, cur, a, b, (hk g b).trans c, r⟩
theorem Mut.own {lo hi base : Nat} {wL wr : World} {v : Value} {L : List EvM} (h : Mut lo hi wL wr) (hb : hi ≤ base) (ho : EvOwn wL base v L) : EvOwn wr base v L := evown_heap ho (fun g hg => h.oth g (.inl (by omega)))

/-- Where the fields of some events lie. -/
def EvPl (lo hi : Nat) (wL : World) (a : Option Addr) (n : Nat) : Prop := ∀ i, i < n → ∃ ge fa fn fc, a = some ⟨ge, 0, none⟩ ∧ ge < wL.heap.size ∧ (∀ cur, wL.heap[ge]? ≠ some (.cells cur 30 (0, 0))) ∧ wL.cell? ⟨ge, i * 3 + 2, none⟩ = some (.slice fa fn fc) ∧ (fn ≤ fc ∧ fc ≤ 9223372036854775807) ∧ (fn = 0 ∨ ∃ g cur, fa = some ⟨g, 0, none⟩ ∧ lo ≤ g ∧ g < hi ∧ wL.heap[g]? = some (.cells cur 30 (0, 0)) ∧ fn * 4 ≤ cur.size)
theorem EvOwn.max {w : World} {lo n c : Nat} {a : Option Addr} {L : List EvM} (h : EvOwn w lo (.slice a n c) L) : n ≤ 9223372036854775807 := by
  obtain ⟨_, _, e, h1, h2, _⟩ := h.rd
  cases e
  omega
theorem EvOwn.pl {wL w5 : World} {lo n c : Nat} {a : Option Addr} {L : List EvM} (h : EvOwn w5 lo (.slice a n c) L) (hb : Below w5.heap.size w5 wL) : EvPl lo w5.heap.size wL a n := by
  intro i hi
  have hn : n = L.length := by obtain ⟨_, _, e⟩ := h.slice; cases e; rfl
  obtain ⟨R, ⟨h1, h2⟩, h3, h4⟩ := h
  rcases h2 with ⟨e, e0⟩ | ⟨g, cap, cur, e, hb0, hg, hn0, hm, hs, ht⟩
  · cases e; omega
  · cases e
    obtain ⟨ev, he⟩ : ∃ ev, L[i]? = some ev := ⟨_, List.getElem?_eq_getElem (by omega)⟩
    obtain ⟨r, hr⟩ : ∃ r, R[i]? = some r := ⟨_, List.getElem?_eq_getElem (by omega)⟩
    obtain ⟨e0, e1, e2⟩ := h4 i ev r he hr
    obtain ⟨q0, q1, q2⟩ := ecs_get R i r hr
    obtain ⟨rt, ra, rn, rc⟩ := r
    simp only at e0 e1 e2 q0 q1 q2
    have hj := (List.getElem?_eq_some_iff.1 q2).1
    have hgl := lt_of_block hg
    have hgL : wL.heap[g]? = some (.cells cur 56 (0, 0)) := (hb.block g hgl).trans hg
    refine ⟨g, ra, rn, rc, rfl, lt_of_block hgL, fun cur' e => ?_, ?_, ?_, ?_⟩
    · rw [hgL] at e
      exact absurd e (by simp)
    · have e : (cur.toList.take (R.length * 3))[i * 3 + 2]? = (ecs R)[i * 3 + 2]? := by rw [ht]
      rw [List.getElem?_take_of_lt (by have := (List.getElem?_eq_some_iff.1 hr).1; omega), q2] at e
      simp only [World.cell?, hgL]
      simpa using e
    · obtain ⟨_, _, e, h5, h6, _⟩ := e2.fdl
      cases e
      exact ⟨h5, h6⟩
    · rcases e2.2 with ⟨e, e0⟩ | ⟨g', cap', cur', e, hb', hg', hn', hm', hs', ht'⟩
      · left
        cases e
        rfl
      · right
        cases e
        refine ⟨g', cur', rfl, hb', lt_of_block hg', (hb.block g' (lt_of_block hg')).trans hg', ?_⟩
        rw [hs']
        exact Nat.mul_le_mul_right 4 hn'
end Go.Proofs.YtclllkbljaomoabGreatDoor
