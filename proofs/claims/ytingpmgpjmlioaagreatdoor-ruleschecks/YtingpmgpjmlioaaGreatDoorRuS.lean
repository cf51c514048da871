/-
  DERIVED. A scope in memory; newPairs, newScope, fieldsOf, together.
-/
import Derived.Test.YtingpmgpjmlioaaGreatDoorRuQ
import Derived.Test.YtingpmgpjmlioaaGreatDoorShq
namespace Go.Proofs.YtingpmgpjmlioaaGreatDoor
open Go.RowKit Go.Maps
set_option linter.unusedVariables false

def litI (k : Int) : Lit := .int .i64 k
theorem litI_key {k : Int} (h : I64 k) : keyOf Tryz.prog 3 (.int .i64 k) = some (litI k) := keyOf_int_mk Tryz.underlying3 (by
  have hmin : IntKind.i64.min = -9223372036854775808 := rfl
  have hmax : IntKind.i64.max = 9223372036854775807 := rfl
  obtain ⟨h1, h2⟩ := h
  simp only [Lit.wf, Bool.and_eq_true, decide_eq_true_eq]
  omega)
theorem litI_is (k : Int) : WideAt.IsKeyLit (litI k) := trivial
theorem litI_ne {a b : Int} (h : a ≠ b) : litI a ≠ litI b := fun e => h (by unfold litI at e; injection e)
theorem keyedI : Keyed Tryz.prog 3 := int_keyed Tryz.underlying3

abbrev fnV (n : Nat) : Value := .func (.func n) #[] #[]
/-- The map of functions. -/
def PairsAt (w : World) (mp : Nat) : Prop :=
  ∃ D, w.ownsMap Tryz.prog 3 rawE mp 3 D ∧ ∀ z, D.atKey (litI 6) z = .held (fnV 98) ∧ D.atKey (litI 7) z = .held (fnV 100) ∧ D.atKey (litI 8) z = .held (fnV 101)
theorem PairsAt.lt {w : World} {mp : Nat} (h : PairsAt w mp) : mp < w.heap.size := by obtain ⟨D, h1, _⟩ := h; exact h1.lt
theorem PairsAt.grown {w w' : World} {mp : Nat} (h : PairsAt w mp) (hb : Below w.heap.size w w') : PairsAt w' mp := by
  have hl := h.lt
  obtain ⟨D, h1, h2⟩ := h
  exact ⟨D, ownsMap_frame h1 (hb.block mp hl), h2⟩

theorem zeroPair (w : World) : (zeroValue 164).run Tryz.prog w = .ok (.nilFunc) w := by kernel_rfl

theorem owns_isMap {H : Type} {P : Program} {k : TypeId} {R : Value → Option (DataW H × List MemPlace)} {w : World} {b n : Nat} {D : DataW H} (h : w.ownsMap P k R b n D) : IsMap D := by
  obtain ⟨es, clock, _, _, _, e⟩ := h
  exact ⟨_, e⟩
theorem mmP (w : World) : (Instr.makeMap 80 none).run Tryz.prog w = .ok (.map (some w.heap.size)) (w.alloc (.map #[] 0)) := rfl

set_option maxHeartbeats 1000000 in
theorem newPairs_any (w : World) : Calls Tryz.prog 76 #[] w fun e w' => ∃ mp, e = .returned (.map (some mp)) ∧ PairsAt w' mp ∧ w.heap.size ≤ mp ∧ Below w.heap.size w w' := by
  have m0 := World.ownsMap_made w Tryz.prog 3 rawE
  have hb0 : Below w.heap.size w (w.alloc (.map #[] 0)) := (Below.refl _ _).alloc (Nat.le_refl _) _
  obtain ⟨w1, h1, o1, g1⟩ := m0.update keyedI Tryz.underlying80 (val := fnV 98) (by unfold maxLen; omega) (litI_key (k := 6) ⟨by omega, by omega⟩) rfl
  obtain ⟨w2, h2, o2, g2⟩ := o1.update keyedI Tryz.underlying80 (val := fnV 100) (by unfold maxLen; omega) (litI_key (k := 7) ⟨by omega, by omega⟩) rfl
  obtain ⟨w3, h3, o3, g3⟩ := o2.update keyedI Tryz.underlying80 (val := fnV 101) (by unfold maxLen; omega) (litI_key (k := 8) ⟨by omega, by omega⟩) rfl
  have i0 : IsMap (DataW.map [] : DataW Value) := ⟨_, rfl⟩
  have i1 := owns_isMap o1
  have i2 := owns_isMap o2
  have HP : Hid (PairsAt w3 w.heap.size) := hide ⟨_, o3, fun z => ⟨by rw [atKey_put_other (litI_ne (by decide)), atKey_put_other (litI_ne (by decide)), atKey_put_same i0 (litI_is _)], by rw [atKey_put_other (litI_ne (by decide)), atKey_put_same i1 (litI_is _)], by rw [atKey_put_same i2 (litI_is _)]⟩⟩
  have HB : Hid (Below w.heap.size w w3) := hide (((hb0.grown g1 hb0.size (fun k e => by cases e; omega)).grown g2 (Nat.le_trans hb0.size g1.size) (fun k e => by cases e; omega)).grown g3 (Nat.le_trans (Nat.le_trans hb0.size g1.size) g2.size) (fun k e => by cases e; omega))
  have mm := mmP w
  clear o1 o2 o3 g1 g2 g3 m0 hb0 i0 i1 i2
  go_enter Tryz.func76, Tryz.ntmps76
  go_wp2_with fail
  go_ret
  exact ⟨_, rfl, unhide HP, Nat.le_refl _, unhide HB⟩

theorem PairsAt.look {w : World} {mp : Nat} (h : PairsAt w mp) : (Instr.lookup 80 (.map (some mp)) (.int .i64 6) false).run Tryz.prog w = .ok (fnV 98) w ∧ (Instr.lookup 80 (.map (some mp)) (.int .i64 7) false).run Tryz.prog w = .ok (fnV 100) w ∧ (Instr.lookup 80 (.map (some mp)) (.int .i64 8) false).run Tryz.prog w = .ok (fnV 101) w := by
  obtain ⟨D, h1, h2⟩ := h
  have one : ∀ (k : Int) (n : Nat), I64 k → (∀ z, D.atKey (litI k) z = .held (fnV n)) → (Instr.lookup 80 (.map (some mp)) (.int .i64 k) false).run Tryz.prog w = .ok (fnV n) w := fun k n hk hz => by
    obtain ⟨u, ps, hrun, hv⟩ := h1.lookup keyedI Tryz.underlying80 (zeroPair w) (zd := .held .nilFunc) (zp := []) rfl (litI_key hk)
    rw [hz] at hv
    simp only [rawE, Option.some.injEq, Prod.mk.injEq, DataW.held.injEq] at hv
    rw [hrun, hv.1]
  exact ⟨one 6 _ ⟨by omega, by omega⟩ fun z => (h2 z).1, one 7 _ ⟨by omega, by omega⟩ fun z => (h2 z).2.1, one 8 _ ⟨by omega, by omega⟩ fun z => (h2 z).2.2⟩

/-- A scope. -/
structure Sc where
  stream : List UInt8
  state : List Fld
  given : List Fld
  sa : Option Addr
  sc : Nat
  ga : Option Addr
  gc : Nat
  mp : Nat
abbrev scv (S : Sc) : Array Value := #[sv S.stream, .slice S.sa S.state.length S.sc, .slice S.ga S.given.length S.gc, .map (some S.mp)]
/-- A text or integer of this machine's sizes. -/
def small (f : Fld) : Prop := f.s.length ≤ 140737488355328 ∧ I64 f.n
structure Sc.at (S : Sc) (w : World) : Prop where
  st : FdL w (.slice S.sa S.state.length S.sc) S.state
  gv : FdL w (.slice S.ga S.given.length S.gc) S.given
  mp : PairsAt w S.mp
  len : S.stream.length ≤ 140737488355328
  fs : ∀ f ∈ S.state, small f
  fg : ∀ f ∈ S.given, small f
theorem Sc.at.grown {S : Sc} {w w' : World} (h : S.at w) (hb : Below w.heap.size w w') : S.at w' :=
  ⟨h.st.below hb (Nat.le_refl _), h.gv.below hb (Nat.le_refl _), h.mp.grown hb, h.len, h.fs, h.fg⟩
def SBox (w : World) (q : Nat) (S : Sc) : Prop := w.heap[q]? = some (.cells (scv S) 82 (0, 0))
theorem SBox.cells {w : World} {q : Nat} {S : Sc} (h : SBox w q S) : w.cell? ⟨q, 0, none⟩ = some (sv S.stream) ∧ w.cell? ⟨q, 1, none⟩ = some (.slice S.sa S.state.length S.sc) ∧ w.cell? ⟨q, 2, none⟩ = some (.slice S.ga S.given.length S.gc) ∧ w.cell? ⟨q, 3, none⟩ = some (.map (some S.mp)) ∧ ∀ i, w.frozen? ⟨q, i, none⟩ = false :=
  ⟨(cell_of_row _ _ _ _ _ _ h).trans rfl, (cell_of_row _ _ _ _ _ _ h).trans rfl, (cell_of_row _ _ _ _ _ _ h).trans rfl, (cell_of_row _ _ _ _ _ _ h).trans rfl, fun i => by
    have h' : w.heap[q]? = some (.cells (scv S) 82 (0, 0)) := h
    simp [World.frozen?, h']⟩
theorem SBox.lt {w : World} {q : Nat} {S : Sc} (h : SBox w q S) : q < w.heap.size := lt_of_block h
theorem SBox.below {B : Nat} {w w' : World} {q : Nat} {S : Sc} (h : SBox w q S) (hb : Below B w w') (hB : w.heap.size ≤ B) : SBox w' q S := (hb.block q (by have := h.lt; omega)).trans h
theorem SBox.new (w : World) (S : Sc) : SBox (w.alloc (.cells (scv S) 82)) w.heap.size S := heap_alloc_new _ _
theorem sizeScope : (Tryz.prog.info? 82).map (·.size) = some 4 := by kernel_rfl

def newScR (st : List UInt8) (l m : List Fld) (la : Option Addr) (lc : Nat) (ma : Option Addr) (mc : Nat) (w : World) (e : Ending) (w' : World) : Prop :=
  ∃ mp, e = .returned (.agg (scv ⟨st, l, m, la, lc, ma, mc, mp⟩)) ∧ PairsAt w' mp ∧ Below w.heap.size w w'

abbrev put4 (w : World) (q : Nat) (x0 x1 x2 x3 : Value) : World := (((w.setCell ⟨q, 0, none⟩ x0).setCell ⟨q, 1, none⟩ x1).setCell ⟨q, 2, none⟩ x2).setCell ⟨q, 3, none⟩ x3
theorem SBox.put {w : World} {q : Nat} {y0 y1 y2 y3 : Value} (h : w.heap[q]? = some (.cells #[y0, y1, y2, y3] 82 (0, 0))) (S : Sc) : SBox (put4 w q (sv S.stream) (.slice S.sa S.state.length S.sc) (.slice S.ga S.given.length S.gc) (.map (some S.mp))) q S := by
  unfold SBox
  rw [heap_setCell_same _ q 3 _ _ _ (heap_setCell_same _ q 2 _ _ _ (heap_setCell_same _ q 1 _ _ _ (heap_setCell_same w q 0 _ _ _ h)))]
  rfl
theorem below_put4 {B : Nat} {a w : World} (h : Below B a w) {q : Nat} (hq : B ≤ q) (x0 x1 x2 x3 : Value) : Below B a (put4 w q x0 x1 x2 x3) :=
  (((h.setCell (p := ⟨q, 0, none⟩) hq _).setCell (p := ⟨q, 1, none⟩) hq _).setCell (p := ⟨q, 2, none⟩) hq _).setCell (p := ⟨q, 3, none⟩) hq _
theorem heap_put4 (w : World) {q p : Nat} (hne : p ≠ q) (x0 x1 x2 x3 : Value) : (put4 w q x0 x1 x2 x3).heap[p]? = w.heap[p]? := by
  rw [heap_setCell_other _ ⟨q, 3, none⟩ _ _ hne, heap_setCell_other _ ⟨q, 2, none⟩ _ _ hne, heap_setCell_other _ ⟨q, 1, none⟩ _ _ hne, heap_setCell_other _ ⟨q, 0, none⟩ _ _ hne]
theorem PairsAt.put4 {w : World} {mp q : Nat} {cur : Array Value} {t : TypeId} {fr : Nat × Nat} (h : PairsAt w mp) (hq : w.heap[q]? = some (.cells cur t fr)) (x0 x1 x2 x3 : Value) : PairsAt (Go.Proofs.YtingpmgpjmlioaaGreatDoor.put4 w q x0 x1 x2 x3) mp := by
  obtain ⟨D, h1, h2⟩ := h
  have hne : mp ≠ q := by
    obtain ⟨es, clock, hb, _⟩ := h1
    intro e
    rw [e, hq] at hb
    cases hb
  exact ⟨D, ownsMap_frame h1 (heap_put4 w hne _ _ _ _), h2⟩
theorem cells4 {w : World} {q : Nat} {y0 y1 y2 y3 : Value} {t : TypeId} (h : w.heap[q]? = some (.cells #[y0, y1, y2, y3] t (0, 0))) : w.cell? ⟨q, 0, none⟩ = some y0 ∧ w.cell? ⟨q, 1, none⟩ = some y1 ∧ w.cell? ⟨q, 2, none⟩ = some y2 ∧ w.cell? ⟨q, 3, none⟩ = some y3 ∧ ∀ i, w.frozen? ⟨q, i, none⟩ = false :=
  ⟨(cell_of_row _ _ _ _ _ _ h).trans rfl, (cell_of_row _ _ _ _ _ _ h).trans rfl, (cell_of_row _ _ _ _ _ _ h).trans rfl, (cell_of_row _ _ _ _ _ _ h).trans rfl, fun i => by simp [World.frozen?, h]⟩

set_option maxHeartbeats 1000000 in
theorem newScope_any (st : List UInt8) (l m : List Fld) (la : Option Addr) (lc : Nat) (ma : Option Addr) (mc : Nat) (w : World) :
    Calls Tryz.prog 32 #[sv st, .slice la l.length lc, .slice ma m.length mc] w (newScR st l m la lc ma mc w) := by
  have hb1 : Below w.heap.size w (w.alloc (.cells #[.string ⟨#[]⟩, .slice none 0 0, .slice none 0 0, .map none] 82)) := (Below.refl _ _).alloc (Nat.le_refl _) _
  have hf1 : (w.alloc (.cells #[.string ⟨#[]⟩, .slice none 0 0, .slice none 0 0, .map none] 82)).heap[w.heap.size]? = some (.cells #[.string ⟨#[]⟩, .slice none 0 0, .slice none 0 0, .map none] 82 (0, 0)) := heap_alloc_new _ _
  obtain ⟨w1, hw1⟩ : ∃ w1, w1 = w.alloc (.cells #[.string ⟨#[]⟩, .slice none 0 0, .slice none 0 0, .map none] 82) := ⟨_, rfl⟩
  rw [← hw1] at hb1 hf1
  have HW := hide hw1
  have HB1 := hide hb1
  have HF1 := hide hf1
  have HP := hide (newPairs_any w1)
  clear hw1 hb1 hf1
  go_enter Tryz.func32, Tryz.ntmps32
  go_upto_region 1 with fail
  rw [← unhide HW]
  go_wp2_with (go_at_call 76; refine (unhide HP).mono ?_; rintro e w2 ⟨mp, rfl, hp, hge, b2⟩; have HP2 := hide hp; have HB2 := hide ((unhide HB1).trans (b2.mono (unhide HB1).size)); have HF2 := hide ((b2.block w.heap.size (lt_of_block (unhide HF1))).trans (unhide HF1)); have HGE := hide hge; obtain ⟨c0, c1, c2, c3, cf⟩ := cells4 (unhide HF2); clear hp hge b2)
  exact bodyPost_ret (results_cell_row rfl _ _ w.heap.size 82 (scv ⟨st, l, m, la, lc, ma, mc, mp⟩) (0, 0) _ rfl (SBox.put (unhide HF2) ⟨st, l, m, la, lc, ma, mc, mp⟩) Tryz.underlying82 rfl sizeScope) rfl ⟨mp, rfl, (unhide HP2).put4 (unhide HF2) _ _ _ _, below_put4 (unhide HB2) (Nat.le_refl _) _ _ _ _⟩

theorem fieldsOf_any (S : Sc) (d : Nd) (w : World) : Calls Tryz.prog 106 #[.agg (scv S), .agg (ndv d)] w fun e w' => e = .returned (if d.x.kind = 3 then .slice S.sa S.state.length S.sc else .slice S.ga S.given.length S.gc) ∧ Below w.heap.size w w' := by
  have HB : Hid (Below w.heap.size w ((w.alloc (.cells (scv S) 82)).alloc (.cells (ndv d) 44))) := hide (((Below.refl _ _).alloc (Nat.le_refl _) _).alloc (by simp) _)
  obtain ⟨st, l, m, la, lc, ma, mc, mp⟩ := S
  obtain ⟨dx, da, dc⟩ := d
  simp only
  by_cases hk : dx.kind = 3
  · rw [if_pos hk]
    have e : (dx.kind == 3) = true := beq_iff_eq.2 hk
    clear hk
    go_enter Tryz.func106, Tryz.ntmps106
    go_wp2_with fail
    go_ret
    exact ⟨rfl, unhide HB⟩
  · rw [if_neg hk]
    have e : (dx.kind == 3) = false := beq_eq_false_iff_ne.2 hk
    clear hk
    go_enter Tryz.func106, Tryz.ntmps106
    go_wp2_with fail
    go_ret
    exact ⟨rfl, unhide HB⟩

/-- What two integers put together are. -/
def opZ (k a b : Int) : Int := if k = 6 then a + b else if k = 7 then a - b else a * b
def togR (k a b : Int) : Except Int Value := if inB (opZ k a b) then .ok (.agg (fv ⟨[], false, opZ k a b, []⟩)) else .error 135

/-- The function of a kind. -/
theorem pair_any (k a b : Int) (hk : 6 ≤ k ∧ k ≤ 8) (ha : I64 a) (hb : I64 b) : ∃ n z, (inB (opZ k a b) = true → z = opZ k a b) ∧ (∀ w mp, PairsAt w mp → (Instr.lookup 80 (.map (some mp)) (.int .i64 k) false).run Tryz.prog w = .ok (fnV n) w) ∧ (∀ args W, (callFunc n args).run Tryz.prog W = .ok (.enter n args) W) ∧ (∀ w, Calls Tryz.prog n #[.int .i64 a, .int .i64 b] w fun e w' => e = .returned (.tuple #[.int .i64 z, .bool (inB (opZ k a b))]) ∧ w = w') := by
  have wrp : ∀ z : Int, inB z = true → IntKind.i64.wrap z = z := fun z h => by have := inB_iff.1 h; rw [IntKind.wrap_i64]; omega
  have hk' : k = 6 ∨ k = 7 ∨ k = 8 := by omega
  rcases hk' with rfl | rfl | rfl
  · exact ⟨98, _, fun h => wrp _ h, fun w mp h => h.look.1, enters_of Tryz.func98 (by kernel_rfl) rfl, fun w => add_any a b w ha hb⟩
  · exact ⟨100, _, fun h => wrp _ h, fun w mp h => h.look.2.1, enters_of Tryz.func100 (by kernel_rfl) rfl, fun w => sub_any a b w ha hb⟩
  · exact ⟨101, _, fun h => by have h' : inB (a * b) = true := h; show mulV a b = a * b; unfold mulV; rw [if_pos h'], fun w mp h => h.look.2.2, enters_of Tryz.func101 (by kernel_rfl) rfl, fun w => times_any a b w⟩

set_option maxHeartbeats 2000000 in
theorem together_any (S : Sc) (k a b : Int) (w : World) (hS : S.at w) (hk : 6 ≤ k ∧ k ≤ 8) (ha : I64 a) (hb : I64 b) :
    Calls Tryz.prog 111 #[.agg (scv S), .int .i64 k, .int .i64 a, .int .i64 b] w (EndsV w (togR k a b)) := by
  obtain ⟨n, z, hz, hlook, hent, hcall⟩ := pair_any k a b hk ha hb
  have hb1 : Below w.heap.size w ((w.alloc (.cells (scv S) 82)).alloc (.cells (fv fld0) 48)) := ((Below.refl _ _).alloc (Nat.le_refl _) _).alloc (by simp) _
  have hp1 : PairsAt ((w.alloc (.cells (scv S) 82)).alloc (.cells (fv fld0) 48)) S.mp := hS.mp.grown hb1
  have hf1 : FBox ((w.alloc (.cells (scv S) 82)).alloc (.cells (fv fld0) 48)) (w.heap.size + 1) fld0 := by
    have := FBox.new (w.alloc (.cells (scv S) 82)) fld0
    rwa [show (w.alloc (.cells (scv S) 82)).heap.size = w.heap.size + 1 by simp] at this
  have hs1 : SBox ((w.alloc (.cells (scv S) 82)).alloc (.cells (fv fld0) 48)) w.heap.size S := (SBox.new w S).below ((Below.refl _ _).alloc (Nat.le_refl _) _) (Nat.le_refl _)
  obtain ⟨w1, hw1⟩ : ∃ w1, w1 = (w.alloc (.cells (scv S) 82)).alloc (.cells (fv fld0) 48) := ⟨_, rfl⟩
  rw [← hw1] at hb1 hp1 hf1 hs1
  have hl := hlook w1 S.mp hp1
  obtain ⟨_, _, _, s3, _⟩ := hs1.cells
  have HW := hide hw1
  have HB1 := hide hb1
  have HF1 := hide hf1
  have HC := hide hcall
  unfold togR
  obtain ⟨ok, hok⟩ : ∃ ok, ok = inB (opZ k a b) := ⟨_, rfl⟩
  rw [← hok] at HC hz ⊢
  obtain ⟨st, l, m, la, lc, ma, mc, mp⟩ := S
  simp only at s3 hl
  clear hw1 hb1 hp1 hf1 hs1 hlook hcall hS hk ha hb hok
  cases ok with
  | false =>
    go_enter Tryz.func111, Tryz.ntmps111
    go_upto_region 1 with fail
    rw [show (w.alloc (.cells #[sv st, .slice la l.length lc, .slice ma m.length mc, .map (some mp)] 82)).alloc (.cells #[Value.string ⟨#[]⟩, .bool false, .int .i64 0, Value.string ⟨#[]⟩] 48) = w1 from (unhide HW).symm]
    go_wp2_with fail
    refine (unhide HC _).mono ?_
    rintro e w' ⟨rfl, rfl⟩
    go_wp2
    exact ⟨rfl, rfl, unhide HB1⟩
  | true =>
    rw [if_pos rfl, ← hz rfl]
    have HT : Hid (∀ W, Calls Tryz.prog 103 #[.int .i64 z] W fun e w' => e = .returned (.agg (fv ⟨[], false, z, []⟩)) ∧ Below W.heap.size W w') := hide (fun W => integer_any z W)
    clear hz
    go_enter Tryz.func111, Tryz.ntmps111
    go_upto_region 1 with fail
    rw [show (w.alloc (.cells #[sv st, .slice la l.length lc, .slice ma m.length mc, .map (some mp)] 82)).alloc (.cells #[Value.string ⟨#[]⟩, .bool false, .int .i64 0, Value.string ⟨#[]⟩] 48) = w1 from (unhide HW).symm]
    go_wp2_with fail
    refine (unhide HC _).mono ?_
    rintro e w' ⟨rfl, rfl⟩
    go_wp2_with (go_at_call 103; refine (unhide HT _).mono ?_; rintro e w2 ⟨rfl, b2⟩; obtain ⟨c0, c1, c2, c3, cf⟩ := ((unhide HF1).below b2 (Nat.le_refl _)).cells; have HE2 := hide (((unhide HF1).below b2 (Nat.le_refl _)).put [] false z []); have BE := hide (below_put ((unhide HB1).trans (b2.mono (unhide HB1).size)) (Nat.le_succ _) [] false z []); clear b2)
    exact bodyPost_ret (results_cell_row rfl _ _ (w.heap.size + 1) 48 (fv ⟨[], false, z, []⟩) (0, 0) _ rfl (unhide HE2) Tryz.underlying48 rfl sizeField) rfl ⟨rfl, unhide BE⟩
end Go.Proofs.YtingpmgpjmlioaaGreatDoor
