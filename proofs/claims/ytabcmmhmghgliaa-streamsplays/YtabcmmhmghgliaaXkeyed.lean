/-
  DERIVED. The index behind a batch, in plain words; the walks of Len and Version; a batch that goes in again.
-/
import Derived.Test.YtabcmmhmghgliaaXad
namespace Go.Proofs.Ytabcmmhmghgliaa
open Go.RowKit Go.Maps
set_option linter.unusedVariables false

def ents (s : List UInt8) : Nat → List Evn → List Ent
  | _, [] => []
  | f, e :: r => ⟨s, f, e⟩ :: ents s (f + 1) r
theorem ents_len (s : List UInt8) : ∀ (f : Nat) (es : List Evn), (ents s f es).length = es.length
  | _, [] => rfl
  | f, e :: r => by simp [ents, ents_len s (f + 1) r]
theorem pushN_all (s : List UInt8) : ∀ (es : List Evn) (I : Ix) (f : Nat), (I.pushN s f es).all = I.all ++ ents s f es
  | [], I, f => by simp [Ix.pushN, ents]
  | e :: r, I, f => by
    show ((I.push s f e).pushN s (f + 1) r).all = _
    rw [pushN_all s r]
    simp [Ix.push, ents]
theorem pushN_key (s : List UInt8) : ∀ (es : List Evn) (I : Ix) (f : Nat), (I.pushN s f es).key = I.key
  | [], I, f => rfl
  | e :: r, I, f => by
    show ((I.push s f e).pushN s (f + 1) r).key = _
    rw [pushN_key s r]; rfl
theorem added_all (I : Ix) (s k : List UInt8) (fi : Nat) (es : List Evn) : (I.added s k fi es).all = I.all ++ ents s fi es := by
  unfold Ix.added
  rw [pushN_all]
  unfold Ix.keyIf
  split <;> rfl
open Classical in
theorem added_key (I : Ix) (s k : List UInt8) (fi : Nat) (es : List Evn) (j : List UInt8) : (I.added s k fi es).key j = if k ≠ [] ∧ j = k then some ⟨s, fi, I.all.length, es.length⟩ else I.key j := by
  unfold Ix.added
  rw [pushN_key]
  unfold Ix.keyIf
  by_cases hk : k = []
  · rw [if_pos hk, if_neg (fun h => h.1 hk)]
  · rw [if_neg hk]
    show (if j = k then _ else _) = _
    by_cases hj : j = k
    · rw [if_pos hj, if_pos ⟨hk, hj⟩]
    · rw [if_neg hj, if_neg (fun h => hj h.2)]
theorem added_len (I : Ix) (s k : List UInt8) (fi : Nat) (es : List Evn) : (I.added s k fi es).all.length = I.all.length + es.length := by rw [added_all, List.length_append, ents_len]
def verL (l : List Ent) (t : List UInt8) : Nat := (l.filter fun x => x.s == t).length
theorem plc_verL : ∀ (l : List Ent) (t : List UInt8), (plc l t).length = verL l t := fun l t => by
  unfold plc verL
  rw [List.length_map]
  have key : ∀ (l : List Ent) (i : Nat), ((l.zipIdx i).filter fun x => x.1.s == t).length = (l.filter fun x => x.s == t).length := by
    intro l
    induction l with
    | nil => intro i; rfl
    | cons a r ih =>
      intro i
      simp only [List.zipIdx_cons, List.filter_cons]
      by_cases h : (a.s == t) = true
      · simp [h, ih]
      · simp [h, ih]
  exact key l 0
theorem ents_ver (s t : List UInt8) : ∀ (f : Nat) (es : List Evn), verL (ents s f es) t = if s = t then es.length else 0
  | _, [] => by simp [ents, verL]
  | f, e :: r => by
    have ih := ents_ver s t (f + 1) r
    unfold verL at ih ⊢
    simp only [ents, List.filter_cons]
    by_cases h : s = t
    · simp [h] at ih ⊢; exact ih
    · simp [h] at ih ⊢; exact ih
theorem added_ver (I : Ix) (s k : List UInt8) (fi : Nat) (es : List Evn) (t : List UInt8) : (I.added s k fi es).ver t = I.ver t + if s = t then es.length else 0 := by
  unfold Ix.ver
  rw [plc_verL, plc_verL, added_all]
  unfold verL
  rw [List.filter_append, List.length_append]
  congr 1
  exact ents_ver s t fi es
theorem ver_le (I : Ix) (t : List UInt8) : I.ver t ≤ I.all.length := plc_len _ _

theorem Got.far {w w' W : World} {F : Nat → Prop} {q : Nat} {es : List Evn} {ys : List (Evn × Nat)} (g : Got w w' q es ys) (hF : ∀ k, F k → k < w.heap.size) (hW : Below w'.heap.size w' W) (h16 : es.length ≤ 16) : EvFar F W (some ⟨q, 0, none⟩) es.length es.length es := by
  have hl : ys.length = es.length := by have := congrArg List.length g.evs; simpa using this
  have hq := g.blk.lt
  have hy : ∀ y ∈ ys, y.2 < w'.heap.size := fun y hy => (g.blk.2 y hy).1.lt
  have hz := hW.size
  refine ⟨fun A hA hk => ?_, fun b off e _ => ?_⟩
  · have b2 : EvBlk A q es.length ys := g.blk.same ((hk q (by omega) (fun hf => by have := hF q hf; have := g.hq; omega)).trans (hW.block q hq)) (fun y hyy => (hk y.2 (by have := hy y hyy; omega) (fun hf => by have := hF _ hf; have := g.new y hyy; omega)).trans (hW.block _ (hy y hyy)))
    have := b2.evl hl h16
    rwa [g.evs] at this
  · cases e
    exact ⟨by omega, fun hf => by have := hF q hf; have := g.hq; omega⟩

set_option maxRecDepth 20000 in
theorem Len_go {w : World} {F : Nat → Prop} {x N : Nat} {I : Ix} (h : IxAt w F x N I) : Calls Try.prog 14 #[.pointer (some ⟨x, 0, none⟩)] w fun e w' => e = .returned (.int .i64 (I.all.length : Int)) ∧ Below w.heap.size w w' := by
  obtain ⟨st, hx, _, mp, mk, xs, av, pf, D1, D2, hi⟩ := h
  obtain ⟨a, n, hav⟩ := hi.avs
  have hl : xs.length = I.all.length := by rw [← hi.all, List.length_map]
  rw [hl] at hav
  subst hav
  have CN := hide (now_go hx hi.stc ⟨a, _, n, rfl⟩)
  obtain ⟨L, hL⟩ : ∃ L, L = I.all.length := ⟨_, rfl⟩
  rw [← hL] at CN ⊢
  have f0 := field0 a L n (some mp) (some mk)
  have HB := hide ((Below.refl w.heap.size w).alloc (Nat.le_refl _) (.cells (stV (.slice a L n) (some mp) (some mk)) 68))
  clear hx hi hl hL
  go_enter Try.func14, Try.ntmps14
  go_wp2_with fail
  refine (unhide CN).mono ?_
  rintro e w1 ⟨rfl, rfl⟩
  go_wp2
  go_ret
  exact ⟨rfl, unhide HB⟩

set_option maxRecDepth 20000 in
theorem Version_go {w : World} {F : Nat → Prop} {x N : Nat} {I : Ix} (h : IxAt w F x N I) (s : List UInt8) (hs : s.length ≤ maxLen) : Calls Try.prog 33 #[.pointer (some ⟨x, 0, none⟩), sv s] w fun e w' => e = .returned (.int .i64 (I.ver s : Int)) ∧ Below w.heap.size w w' := by
  obtain ⟨st, hx, _, mp, mk, xs, av, pf, D1, D2, hi⟩ := h
  obtain ⟨a, n, hav⟩ := hi.avs
  subst hav
  have CN := hide (now_go hx hi.stc ⟨a, _, n, rfl⟩)
  have hb1 := (Below.refl w.heap.size w).alloc (Nat.le_refl _) (.cells (stV (.slice a xs.length n) (some mp) (some mk)) 68)
  have HB := hide hb1
  have VN := hide (version_go hi a xs.length n rfl s hs (w.alloc (.cells (stV (.slice a xs.length n) (some mp) (some mk)) 68)) (hb1.block mp hi.mpo.lt))
  clear hb1 hx hi
  go_enter Try.func33, Try.ntmps33
  go_wp2_with fail
  refine (unhide CN).mono ?_
  rintro e w1 ⟨rfl, rfl⟩
  go_wp2_with fail
  refine (unhide VN).mono ?_
  rintro e w2 ⟨rfl, b2⟩
  have HB2 := hide ((unhide HB).trans (b2.mono (by simp)))
  clear b2 VN
  go_wp2
  go_ret
  exact ⟨rfl, unhide HB2⟩
end Go.Proofs.Ytabcmmhmghgliaa

namespace Go.Proofs.Ytabcmmhmghgliaa
open Go.RowKit Go.Maps
set_option linter.unusedVariables false

def kdS : Option Kd → List UInt8
  | none => []
  | some d => d.s
def kdF : Option Kd → Array Value
  | none => apV 0 0 0 false
  | some d => apV d.first d.pos d.cnt false

set_option maxRecDepth 20000 in
theorem keyed_raw {w : World} {F : Nat → Prop} {x N : Nat} {I : Ix} (h : IxAt w F x N I) (s : List UInt8) (hs : s.length ≤ maxLen) (ks : List UInt8) (f p c : Int) (ok : Bool) (hkd : kdV (I.key s) = .agg (kdA ks f p c false)) (hok : (I.key s).isSome = ok) :
    Calls Try.prog 31 #[.pointer (some ⟨x, 0, none⟩), sv s] w fun e w' => e = .returned (.tuple #[sv ks, .agg (apV f p c false), .bool ok]) ∧ Below w.heap.size w w' := by
  obtain ⟨wa, hwa⟩ : ∃ wa, wa = w.alloc (.cells (apV 0 0 0 false) 44) := ⟨_, rfl⟩
  have ba : Below w.heap.size w wa := by rw [hwa]; exact (Below.refl _ _).alloc (Nat.le_refl _) _
  have za : wa.heap.size = w.heap.size + 1 := by rw [hwa]; simp
  obtain ⟨st, hx, _, mp, mk, xs, av, pf, D1, D2, hi⟩ := h.frame (w' := wa) fun q _ hl => ba.block q hl
  obtain ⟨a, n, hav⟩ := hi.avs
  subst hav
  have CN := hide (now_go hx hi.stc ⟨a, _, n, rfl⟩)
  obtain ⟨L, hL⟩ : ∃ L, L = xs.length := ⟨_, rfl⟩
  rw [← hL] at CN
  have f2 := field2 a L n (some mp) (some mk)
  obtain ⟨w2, hw2⟩ : ∃ w2, w2 = wa.alloc (.cells (stV (.slice a L n) (some mp) (some mk)) 68) := ⟨_, rfl⟩
  have b2 : Below w.heap.size w w2 := by rw [hw2]; exact ba.alloc (by omega) _
  have z2 : w2.heap.size = w.heap.size + 2 := by rw [hw2]; simp; omega
  have HA : ABox w2 w.heap.size 0 0 0 false := by unfold ABox; rw [hw2, Below.heap_alloc _ _ _ (by omega), hwa]; exact heap_alloc_self _ _
  have hl := hi.lookK (W := w2) (by rw [hw2]; exact Below.heap_alloc _ _ _ hi.mko.lt) s hs
  rw [hkd, hok] at hl
  have HP := hide ((HA.same (Below.heap_alloc w2 (.cells (kdA ks f p c false) 96) w.heap.size (by omega))).put f p c false)
  have HB := hide (below_put (b2.alloc b2.size (.cells (kdA ks f p c false) 96)) (Nat.le_refl w.heap.size) f p c false)
  obtain ⟨w3, hw3⟩ : ∃ w3, w3 = w2.alloc (.cells (kdA ks f p c false) 96) := ⟨_, rfl⟩
  rw [← hw3] at HP HB
  have HK : w3.heap[w2.heap.size]? = some (.cells (kdA ks f p c false) 96 (0, 0)) := by rw [hw3]; exact heap_alloc_self _ _
  have HA3 : ABox w3 w.heap.size 0 0 0 false := by rw [hw3]; exact HA.same (Below.heap_alloc _ _ _ (by omega))
  obtain ⟨a0, a1, a2, a3, a4⟩ := HA3.cells
  have k0 : w3.cell? ⟨w2.heap.size, 0, none⟩ = some (sv ks) := (cell_of_row _ _ _ _ _ _ HK).trans rfl
  have k1 : w3.cell? ⟨w2.heap.size, 1, none⟩ = some (.int .i64 f) := (cell_of_row _ _ _ _ _ _ HK).trans rfl
  have k2 : w3.cell? ⟨w2.heap.size, 2, none⟩ = some (.int .i64 p) := (cell_of_row _ _ _ _ _ _ HK).trans rfl
  have k3 : w3.cell? ⟨w2.heap.size, 3, none⟩ = some (.int .i64 c) := (cell_of_row _ _ _ _ _ _ HK).trans rfl
  have k4 : w3.cell? ⟨w2.heap.size, 4, none⟩ = some (.bool false) := (cell_of_row _ _ _ _ _ _ HK).trans rfl
  have Z2 := hide z2
  clear b2 HA HA3 HK z2 h hx hi hL hkd hok ba za
  go_enter Try.func31, Try.ntmps31
  go_wp2_with fail
  rw [← hwa]
  refine (unhide CN).mono ?_
  rintro e w1 ⟨rfl, rfl⟩
  rw [← hw2]
  clear hw2 CN hwa
  go_upto_region 2 with fail
  rw [← hw3]
  clear hw3 hl
  obtain ⟨kb, hkb⟩ : ∃ kb, kb = w2.heap.size := ⟨_, rfl⟩
  rw [← hkb] at k0 k1 k2 k3 k4 ⊢
  have hne : ¬ kb = w.heap.size := by have := unhide Z2; omega
  clear hkb
  go_region
  all_goals
    go_wp2
    exact bodyPost_ret (results_tct rfl _ _ w.heap.size 44 (apV f p c false) (0, 0) _ (sv ks) (.bool ok) rfl rfl rfl (unhide HP) Try.underlying44 rfl sizeApp) rfl ⟨rfl, (unhide HB).drew⟩

theorem Keyed_go {w : World} {F : Nat → Prop} {x N : Nat} {I : Ix} (h : IxAt w F x N I) (s : List UInt8) (hs : s.length ≤ maxLen) :
    Calls Try.prog 31 #[.pointer (some ⟨x, 0, none⟩), sv s] w fun e w' => e = .returned (.tuple #[sv (kdS (I.key s)), .agg (kdF (I.key s)), .bool (I.key s).isSome]) ∧ Below w.heap.size w w' := by
  cases hk : I.key s with
  | none => exact keyed_raw h s hs [] 0 0 0 false (by rw [hk]; rfl) (by rw [hk]; rfl)
  | some d => exact keyed_raw h s hs d.s d.first d.pos d.cnt true (by rw [hk]; rfl) (by rw [hk]; rfl)
end Go.Proofs.Ytabcmmhmghgliaa
