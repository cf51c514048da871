/-
  DERIVED. The map of changes by kinds; the map of the first upcasters; the walks of newChanges, stepOf, firsts.
-/
import Derived.Test.YtfgjbmpbailebaaDoorUpY
import Derived.Laws.ResultCell
namespace Go.Proofs.YtfgjbmpbailebaaDoor
open Go.RowKit Go.Maps
set_option linter.unusedVariables false

def I64 (n : Int) : Prop := -9223372036854775808 ≤ n ∧ n ≤ 9223372036854775807
def litI (k : Int) : Lit := .int .i64 k
theorem litI_key {k : Int} (h : I64 k) : keyOf Tryd.prog 3 (.int .i64 k) = some (litI k) := keyOf_int_mk Tryd.underlying3 (by
  have hmin : IntKind.i64.min = -9223372036854775808 := rfl
  have hmax : IntKind.i64.max = 9223372036854775807 := rfl
  obtain ⟨h1, h2⟩ := h
  simp only [Lit.wf, Bool.and_eq_true, decide_eq_true_eq]
  omega)
theorem litI_is (k : Int) : WideAt.IsKeyLit (litI k) := trivial
theorem litI_ne {a b : Int} (h : a ≠ b) : litI a ≠ litI b := fun e => h (by unfold litI at e; injection e)
theorem keyedI : Keyed Tryd.prog 3 := int_keyed Tryd.underlying3
abbrev fnV (n : Nat) : Value := .func (.func n) #[] #[]
theorem owns_isMap {H : Type} {P : Program} {k : TypeId} {R : Value → Option (DataW H × List MemPlace)} {w : World} {b n : Nat} {D : DataW H} (h : w.ownsMap P k R b n D) : IsMap D := by
  obtain ⟨es, clock, _, _, _, e⟩ := h
  exact ⟨_, e⟩

/-- The function of a kind. -/
def fnC (k : Int) : Value := if k = 1 then fnV 30 else if k = 2 then fnV 31 else if k = 3 then fnV 33 else if k = 4 then fnV 34 else if k = 5 then fnV 35 else .nilFunc
def isC (k : Int) : Bool := decide (1 ≤ k) && decide (k ≤ 5)
/-- The map of functions. -/
def ChgsAt (w : World) (mp : Nat) : Prop :=
  ∃ D, w.ownsMap Tryd.prog 3 rawE mp 5 D ∧ ∀ k, D.atKey (litI k) (.held .nilFunc) = .held (fnC k) ∧ Maps.has D (litI k) = isC k
theorem ChgsAt.lt {w : World} {mp : Nat} (h : ChgsAt w mp) : mp < w.heap.size := by obtain ⟨D, h1, _⟩ := h; exact h1.lt
theorem ChgsAt.frame {w w' : World} {mp : Nat} (h : ChgsAt w mp) (hk : w'.heap[mp]? = w.heap[mp]?) : ChgsAt w' mp := by
  obtain ⟨D, h1, h2⟩ := h
  exact ⟨D, ownsMap_frame h1 hk, h2⟩
theorem ChgsAt.below {B : Nat} {w w' : World} {mp : Nat} (h : ChgsAt w mp) (hb : Below B w w') (hB : w.heap.size ≤ B) : ChgsAt w' mp := h.frame (hb.block mp (by have := h.lt; omega))
theorem zeroChg (w : World) : (zeroValue 51).run Tryd.prog w = .ok (.nilFunc) w := by kernel_rfl
theorem mmC (w : World) : (Instr.makeMap 42 none).run Tryd.prog w = .ok (.map (some w.heap.size)) (w.alloc (.map #[] 0)) := rfl

theorem ChgsAt.look {w : World} {mp : Nat} (h : ChgsAt w mp) {k : Int} (hk : I64 k) : (Instr.lookup 42 (.map (some mp)) (.int .i64 k) true).run Tryd.prog w = .ok (.tuple #[fnC k, .bool (isC k)]) w := by
  obtain ⟨D, h1, h2⟩ := h
  obtain ⟨u, ps, hrun, hv⟩ := h1.look_ok keyedI Tryd.underlying42 (zeroChg w) (zd := .held .nilFunc) (zp := []) rfl (litI_key hk)
  rw [(h2 k).1] at hv
  simp only [rawE, Option.some.injEq, Prod.mk.injEq, DataW.held.injEq] at hv
  rw [hrun, hv.1, (h2 k).2]

theorem at_put {D : DataW Value} (hm : IsMap D) (a k : Int) (v : Value) : (D.put (litI a) (.held v)).atKey (litI k) (.held .nilFunc) = (if k = a then .held v else D.atKey (litI k) (.held .nilFunc)) ∧ Maps.has (D.put (litI a) (.held v)) (litI k) = (if k = a then true else Maps.has D (litI k)) := by
  by_cases e : k = a
  · subst e
    rw [if_pos rfl, if_pos rfl]
    exact ⟨atKey_put_same hm (litI_is _) _ _, has_put_same hm (litI_is _) _⟩
  · rw [if_neg e, if_neg e]
    exact ⟨atKey_put_other (litI_ne e) _ _, has_put_other (litI_ne e) _⟩

set_option maxHeartbeats 1000000 in
theorem newChanges_any (w : World) : Calls Tryd.prog 18 #[] w fun e w' => ∃ mp, e = .returned (.map (some mp)) ∧ ChgsAt w' mp ∧ w.heap.size ≤ mp ∧ Below w.heap.size w w' := by
  have m0 := World.ownsMap_made w Tryd.prog 3 rawE
  have hb0 : Below w.heap.size w (w.alloc (.map #[] 0)) := (Below.refl _ _).alloc (Nat.le_refl _) _
  obtain ⟨w1, h1, o1, g1⟩ := m0.update keyedI Tryd.underlying42 (val := fnV 30) (by unfold maxLen; omega) (litI_key (k := 1) ⟨by omega, by omega⟩) rfl
  obtain ⟨w2, h2, o2, g2⟩ := o1.update keyedI Tryd.underlying42 (val := fnV 31) (by unfold maxLen; omega) (litI_key (k := 2) ⟨by omega, by omega⟩) rfl
  obtain ⟨w3, h3, o3, g3⟩ := o2.update keyedI Tryd.underlying42 (val := fnV 33) (by unfold maxLen; omega) (litI_key (k := 3) ⟨by omega, by omega⟩) rfl
  obtain ⟨w4, h4, o4, g4⟩ := o3.update keyedI Tryd.underlying42 (val := fnV 34) (by unfold maxLen; omega) (litI_key (k := 4) ⟨by omega, by omega⟩) rfl
  obtain ⟨w5, h5, o5, g5⟩ := o4.update keyedI Tryd.underlying42 (val := fnV 35) (by unfold maxLen; omega) (litI_key (k := 5) ⟨by omega, by omega⟩) rfl
  have i0 : IsMap (DataW.map [] : DataW Value) := ⟨_, rfl⟩
  have i1 := owns_isMap o1
  have i2 := owns_isMap o2
  have i3 := owns_isMap o3
  have i4 := owns_isMap o4
  have HP : Hid (ChgsAt w5 w.heap.size) := hide ⟨_, o5, fun k => by
    rw [(at_put i4 5 k _).1, (at_put i3 4 k _).1, (at_put i2 3 k _).1, (at_put i1 2 k _).1, (at_put i0 1 k _).1, (at_put i4 5 k _).2, (at_put i3 4 k _).2, (at_put i2 3 k _).2, (at_put i1 2 k _).2, (at_put i0 1 k _).2]
    have e0 : (DataW.map [] : DataW Value).atKey (litI k) (.held .nilFunc) = .held .nilFunc := rfl
    have e1 : Maps.has (DataW.map [] : DataW Value) (litI k) = false := rfl
    rw [e0, e1]
    unfold fnC isC
    by_cases k5 : k = 5
    · subst k5; exact ⟨rfl, rfl⟩
    by_cases k4 : k = 4
    · subst k4; exact ⟨rfl, rfl⟩
    by_cases k3 : k = 3
    · subst k3; exact ⟨rfl, rfl⟩
    by_cases k2 : k = 2
    · subst k2; exact ⟨rfl, rfl⟩
    by_cases k1 : k = 1
    · subst k1; exact ⟨rfl, rfl⟩
    simp only [k1, k2, k3, k4, k5, if_false, true_and]
    rw [eq_comm, Bool.and_eq_false_iff, decide_eq_false_iff_not, decide_eq_false_iff_not]
    omega⟩
  have HB : Hid (Below w.heap.size w w5) := hide (((((hb0.grown g1 hb0.size (fun k e => by cases e; omega)).grown g2 (Nat.le_trans hb0.size g1.size) (fun k e => by cases e; omega)).grown g3 (Nat.le_trans (Nat.le_trans hb0.size g1.size) g2.size) (fun k e => by cases e; omega)).grown g4 (Nat.le_trans (Nat.le_trans (Nat.le_trans hb0.size g1.size) g2.size) g3.size) (fun k e => by cases e; omega)).grown g5 (Nat.le_trans (Nat.le_trans (Nat.le_trans (Nat.le_trans hb0.size g1.size) g2.size) g3.size) g4.size) (fun k e => by cases e; omega))
  have mm := mmC w
  clear o1 o2 o3 o4 o5 g1 g2 g3 g4 g5 m0 hb0 i0 i1 i2 i3 i4
  go_enter Tryd.func18, Tryd.ntmps18
  go_wp2_with fail
  go_ret
  exact ⟨_, rfl, unhide HP, Nat.le_refl _, unhide HB⟩

/-! ### The first upcasters, by their steps -/
def idxU (S : List Upc) (t : List UInt8) (v : Int) : Nat := (S.findIdx? (isU t v)).getD 0
def hasU (S : List Upc) (t : List UInt8) (v : Int) : Bool := S.any (isU t v)
theorem hasU_find (S : List Upc) (t : List UInt8) (v : Int) : (findU S t v).isSome = hasU S t v := by
  unfold findU hasU
  rw [Bool.eq_iff_iff, List.find?_isSome, List.any_eq_true]
theorem idxU_at {S : List Upc} {t : List UInt8} {v : Int} (h : hasU S t v = true) : ∃ u, S[idxU S t v]? = some u ∧ findU S t v = some u ∧ ∀ a ∈ S.take (idxU S t v), isU t v a = false := by
  unfold hasU at h
  rw [List.any_eq_true] at h
  obtain ⟨x, hx, hp⟩ := h
  unfold idxU findU
  cases hi : S.findIdx? (isU t v) with
  | none => rw [List.findIdx?_eq_none_iff] at hi; exact absurd hp (by simpa using hi x hx)
  | some i =>
    obtain ⟨hl, hq, hb⟩ := List.findIdx?_eq_some_iff_getElem.1 hi
    refine ⟨S[i], List.getElem?_eq_getElem hl, ?_, ?_⟩
    · rw [List.find?_eq_some_iff_getElem]
      exact ⟨hq, i, hl, rfl, fun j hj => by simpa using hb j hj⟩
    · intro a ha
      obtain ⟨j, hj, rfl⟩ := List.mem_iff_getElem.1 ha
      simp only [Option.getD_some, List.length_take] at hj
      rw [List.getElem_take]
      simpa using hb j (by omega)
theorem hasU_snoc (S : List Upc) (u : Upc) (t : List UInt8) (v : Int) : hasU (S ++ [u]) t v = (hasU S t v || isU t v u) := by simp [hasU]
theorem idxU_snoc (S : List Upc) (u : Upc) (t : List UInt8) (v : Int) : idxU (S ++ [u]) t v = if hasU S t v = true then idxU S t v else if isU t v u = true then S.length else 0 := by
  unfold idxU hasU
  rw [List.findIdx?_append]
  cases hi : S.findIdx? (isU t v) with
  | none =>
    have : S.any (isU t v) = false := by
      rw [List.findIdx?_eq_none_iff] at hi
      rw [List.any_eq_false]; intro x hx; simp [hi x hx]
    rw [this]
    simp only [Option.none_or, Bool.false_eq_true, if_false]
    cases hu : isU t v u with
    | true => simp [List.findIdx?_cons, hu]
    | false => simp [List.findIdx?_cons, hu]
  | some i =>
    have : S.any (isU t v) = true := by
      obtain ⟨hl, hq, _⟩ := List.findIdx?_eq_some_iff_getElem.1 hi
      exact List.any_eq_true.2 ⟨_, List.getElem_mem hl, hq⟩
    rw [this]
    simp

def okKey (t : List UInt8) (v : Int) : Prop := t.length ≤ 9223372036854775807 ∧ I64 v
theorem okKey.lit {t : List UInt8} {v : Int} (h : okKey t v) : keyOf Tryd.prog 47 (stepV t v) = some (slit t v) := slit_key h.1 h.2.1 h.2.2
theorem okKey.ne {t t' : List UInt8} {v v' : Int} (h : okKey t v) (h' : okKey t' v') (hne : ¬ (t = t' ∧ v = v')) : slit t v ≠ slit t' v' := fun e => hne (slit_inj h.1 h.2.1 h.2.2 h'.1 h'.2.1 h'.2.2 e)
theorem slit_is (t : List UInt8) (v : Int) : WideAt.IsKeyLit (slit t v) := trivial

/-- The map at block m tells where the first upcaster of each step stands. -/
def FmAt (w : World) (m : Nat) (S : List Upc) : Prop :=
  ∃ (D : DataW Value) (n : Nat), w.ownsMap Tryd.prog 47 rawE m n D ∧ n ≤ S.length ∧ ∀ t v, okKey t v → D.atKey (slit t v) (.held (.int .i64 0)) = .held (.int .i64 (idxU S t v : Nat)) ∧ Maps.has D (slit t v) = hasU S t v
theorem FmAt.lt {w : World} {m : Nat} {S : List Upc} (h : FmAt w m S) : m < w.heap.size := by obtain ⟨D, n, h1, _⟩ := h; exact h1.lt
theorem FmAt.frame {w w' : World} {m : Nat} {S : List Upc} (h : FmAt w m S) (hk : w'.heap[m]? = w.heap[m]?) : FmAt w' m S := by
  obtain ⟨D, n, h1, h2⟩ := h
  exact ⟨D, n, ownsMap_frame h1 hk, h2⟩
theorem FmAt.below {B : Nat} {w w' : World} {m : Nat} {S : List Upc} (h : FmAt w m S) (hb : Below B w w') (hB : w.heap.size ≤ B) : FmAt w' m S := h.frame (hb.block m (by have := h.lt; omega))
theorem FmAt.made (w : World) : FmAt (w.alloc (.map #[] 0)) w.heap.size [] :=
  ⟨.map [], 0, World.ownsMap_made w Tryd.prog 47 rawE, by simp, fun t v _ => ⟨rfl, rfl⟩⟩
theorem zeroInt (w : World) : (zeroValue 3).run Tryd.prog w = .ok (.int .i64 0) w := by kernel_rfl
theorem FmAt.look {w : World} {m : Nat} {S : List Upc} (h : FmAt w m S) {t : List UInt8} {v : Int} (hk : okKey t v) :
    (Instr.lookup 40 (.map (some m)) (stepV t v) true).run Tryd.prog w = .ok (.tuple #[.int .i64 (idxU S t v : Nat), .bool (hasU S t v)]) w := by
  obtain ⟨D, n, h1, h2, h3⟩ := h
  obtain ⟨u, ps, hrun, hv⟩ := h1.look_ok keyedU Tryd.underlying40 (zeroInt w) (zd := .held (.int .i64 0)) (zp := []) rfl hk.lit
  rw [(h3 t v hk).1] at hv
  simp only [rawE, Option.some.injEq, Prod.mk.injEq, DataW.held.injEq] at hv
  rw [hrun, hv.1, (h3 t v hk).2]
theorem FmAt.look1 {w : World} {m : Nat} {S : List Upc} (h : FmAt w m S) {t : List UInt8} {v : Int} (hk : okKey t v) :
    (Instr.lookup 40 (.map (some m)) (stepV t v) false).run Tryd.prog w = .ok (.int .i64 (idxU S t v : Nat)) w := by
  obtain ⟨D, n, h1, h2, h3⟩ := h
  obtain ⟨u, ps, hrun, hv⟩ := h1.lookup keyedU Tryd.underlying40 (zeroInt w) (zd := .held (.int .i64 0)) (zp := []) rfl hk.lit
  rw [(h3 t v hk).1] at hv
  simp only [rawE, Option.some.injEq, Prod.mk.injEq, DataW.held.injEq] at hv
  rw [hrun, hv.1]
theorem isU_self (u : Upc) : isU u.type u.frm u = true := isU_iff.2 ⟨rfl, rfl⟩
theorem isU_eq {t t' : List UInt8} {v v' : Int} {u u' : Upc} (h : isU t v u = true) (h' : isU u'.type u'.frm u = true) : t = u'.type ∧ v = u'.frm := by
  obtain ⟨a1, a2⟩ := isU_iff.1 h
  obtain ⟨b1, b2⟩ := isU_iff.1 h'
  exact ⟨a1.symm.trans b1, a2.symm.trans b2⟩
theorem FmAt.same {w : World} {m : Nat} {S : List Upc} (h : FmAt w m S) {u : Upc} (hu : hasU S u.type u.frm = true) : FmAt w m (S ++ [u]) := by
  obtain ⟨D, n, h1, h2, h3⟩ := h
  refine ⟨D, n, h1, by simp; omega, fun t v hk => ?_⟩
  rw [(h3 t v hk).1, (h3 t v hk).2, hasU_snoc, idxU_snoc]
  cases hh : hasU S t v with
  | true => simp
  | false =>
    have hn : isU t v u = false := by
      cases e : isU t v u with
      | false => rfl
      | true =>
        obtain ⟨e1, e2⟩ := isU_iff.1 e
        rw [e1, e2] at hu; rw [hu] at hh; cases hh
    have : idxU S t v = 0 := by
      unfold idxU
      have : S.findIdx? (isU t v) = none := by
        rw [List.findIdx?_eq_none_iff]; intro x hx
        unfold hasU at hh
        simpa using List.any_eq_false.1 hh x hx
      rw [this]; rfl
    simp [hn, this]
theorem FmAt.put {w : World} {m : Nat} {S : List Upc} (h : FmAt w m S) {u : Upc} (hk : okKey u.type u.frm) (hu : hasU S u.type u.frm = false) (hS : S.length < 1000000000000000000) :
    ∃ w', (Instr.mapUpdate 40 (.map (some m)) (stepV u.type u.frm) (.int .i64 (S.length : Nat))).run Tryd.prog w = .ok () w' ∧ FmAt w' m (S ++ [u]) ∧ w.grownBy w' (some m) := by
  obtain ⟨D, n, h1, h2, h3⟩ := h
  obtain ⟨w', hrun, ho, hg⟩ := h1.update keyedU Tryd.underlying40 (val := .int .i64 (S.length : Nat)) (by unfold maxLen; omega) hk.lit rfl
  have hmap := owns_isMap h1
  refine ⟨w', hrun, ⟨_, n + 1, ho, by simp; omega, fun t v hkt => ?_⟩, hg⟩
  rw [hasU_snoc, idxU_snoc]
  by_cases e : t = u.type ∧ v = u.frm
  · obtain ⟨rfl, rfl⟩ := e
    rw [atKey_put_same hmap (slit_is _ _), has_put_same hmap (slit_is _ _), hu, isU_self]
    simp
  · rw [atKey_put_other (hkt.ne hk e), has_put_other (hkt.ne hk e), (h3 t v hkt).1, (h3 t v hkt).2]
    have hn : isU t v u = false := by
      cases e2 : isU t v u with
      | false => rfl
      | true => exact absurd ⟨(isU_iff.1 e2).1.symm, (isU_iff.1 e2).2.symm⟩ e
    rw [hn]
    cases hh : hasU S t v with
    | true => simp
    | false =>
      have : idxU S t v = 0 := by
        unfold idxU
        have : S.findIdx? (isU t v) = none := by
          rw [List.findIdx?_eq_none_iff]; intro x hx
          unfold hasU at hh
          simpa using List.any_eq_false.1 hh x hx
        rw [this]; rfl
      simp [this]

/-- A box of an upcaster. -/
def UBx (w : World) (q : Nat) (t : List UInt8) (v : Int) (x : Value) : Prop := w.heap[q]? = some (.cells (uv t v x) 38 (0, 0))
theorem UBx.new (w : World) (t : List UInt8) (v : Int) (x : Value) : UBx (w.alloc (.cells (uv t v x) 38)) w.heap.size t v x := heap_alloc_new _ _
theorem UBx.lt {w : World} {q : Nat} {t : List UInt8} {v : Int} {x : Value} (h : UBx w q t v x) : q < w.heap.size := lt_of_block h
theorem UBx.below {B : Nat} {w w' : World} {q : Nat} {t : List UInt8} {v : Int} {x : Value} (h : UBx w q t v x) (hb : Below B w w') (hB : w.heap.size ≤ B) : UBx w' q t v x := (hb.block q (by have := h.lt; omega)).trans h
theorem UBx.cells {w : World} {q : Nat} {t : List UInt8} {v : Int} {x : Value} (h : UBx w q t v x) : w.cell? ⟨q, 0, none⟩ = some (sv t) ∧ w.cell? ⟨q, 1, none⟩ = some (.int .i64 v) ∧ w.cell? ⟨q, 2, none⟩ = some x :=
  ⟨(cell_of_row _ _ _ _ _ _ h).trans rfl, (cell_of_row _ _ _ _ _ _ h).trans rfl, (cell_of_row _ _ _ _ _ _ h).trans rfl⟩
theorem sizeStep : (Tryd.prog.info? 47).map (·.size) = some 2 := by kernel_rfl

set_option maxHeartbeats 1000000 in
theorem stepOf_any (t : List UInt8) (v : Int) (a : Option Addr) (n c : Nat) (w : World) : Calls Tryd.prog 25 #[.agg (uv t v (.slice a n c))] w fun e w' => e = .returned (stepV t v) ∧ Below w.heap.size w w' := by
  have hb0 : Below w.heap.size w (w.alloc (.cells (uv t v (.slice a n c)) 38)) := (Below.refl _ _).alloc (Nat.le_refl _) _
  have HB := hide (hb0.alloc hb0.size (.cells #[sv t, .int .i64 v] 47))
  have HH : Hid (((w.alloc (.cells (uv t v (.slice a n c)) 38)).alloc (.cells #[sv t, .int .i64 v] 47)).heap[w.heap.size + 1]? = some (.cells #[sv t, .int .i64 v] 47 (0, 0))) := hide (by
    have := heap_alloc_new (w.alloc (.cells (uv t v (.slice a n c)) 38)) (.cells #[sv t, .int .i64 v] 47)
    rwa [show (w.alloc (.cells (uv t v (.slice a n c)) 38)).heap.size = w.heap.size + 1 by simp] at this)
  clear hb0
  go_enter Tryd.func25, Tryd.ntmps25
  go_wp2_with fail
  exact bodyPost_ret (results_cell_row rfl _ _ (w.heap.size + 1) 47 #[sv t, .int .i64 v] (0, 0) _ rfl (unhide HH) Tryd.underlying47 rfl sizeStep) rfl ⟨rfl, unhide HB⟩
end Go.Proofs.YtfgjbmpbailebaaDoor
