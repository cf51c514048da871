/-
  DERIVED. The walk of Write.
-/
import Derived.Test.YtingpmgpjmlioaaGreatDoorShv
import Derived.Deep.RegionHeld3
import Derived.Lib.ItoaLen
import Derived.BigQuiet
import Derived.Laws.ResultCell
import Derived.Laws.Rows
namespace Go.Proofs.YtingpmgpjmlioaaGreatDoor
open Go.RowKit
set_option linter.unusedVariables false

/-- Strings in a row of one's own. -/
def SOwn (w : World) (base : Nat) (v : Value) (xs : List (List UInt8)) : Prop := w.ownsRow base 9 1 v xs.length (xs.map sv)

theorem sv_one (l : List (List UInt8)) : ∀ u ∈ l.map sv, u.oneCell' = true := by
  intro u hu; obtain ⟨c, _, rfl⟩ := List.mem_map.1 hu; rfl
theorem Tryz.infoStr : (Tryz.prog.info? 9).map (fun i => (i.zero, i.size, i.bytes)) = some (some (.string ⟨#[]⟩), 1, 16) := by kernel_rfl

/-- make([]string, 0, m) -/
theorem make_strs (w : World) (m : Nat) (hm : m ≤ 4398046511104) : ∃ o, (Instr.makeSlice 72 (.int .i64 0) (.int .i64 (m : Int))).run Tryz.prog w = .ok (.slice (some ⟨w.heap.size, 0, none⟩) 0 m) (w.alloc o) ∧ SOwn (w.alloc o) w.heap.size (.slice (some ⟨w.heap.size, 0, none⟩) 0 m) [] := by
  obtain ⟨i, hi, hh⟩ := Option.map_eq_some_iff.1 Tryz.infoStr
  simp only [Prod.mk.injEq] at hh
  have h := run_make (P := Tryz.prog) w 72 9 i _ Tryz.underlying72 hi hh.1 .i64 .i64 0 m (by omega) (by omega) (by rw [hh.2.2]; omega) (by omega)
  rw [Int.toNat_natCast, hh.2.1, Nat.mul_one] at h
  refine ⟨_, h, ?_⟩
  refine ⟨rfl, .inr ⟨w.heap.size, m, madeCells (Value.string ⟨#[]⟩).cells m, rfl, Nat.le_refl _, ?_, by simp, by unfold maxLen; omega, ?_, by simp⟩⟩
  · show (w.heap.push _)[w.heap.size]? = _
    simp
  · have := toList_madeCells_one (Value.string ⟨#[]⟩) m
    have h2 := congrArg List.length this
    simp only [List.length_replicate, Array.length_toList] at h2
    rw [Nat.mul_one]
    exact h2

theorem SOwn.below {B base : Nat} {w w' : World} {v : Value} {l : List (List UInt8)} (h : SOwn w base v l) (hb : Below B w w') (hB : w.heap.size ≤ B) : SOwn w' base v l := by
  obtain ⟨h1, h2⟩ := h
  refine ⟨h1, ?_⟩
  rcases h2 with h | ⟨g, cap, cur, a, b, c, r⟩
  · exact .inl h
  · exact .inr ⟨g, cap, cur, a, b, (hb.block g (by have := lt_of_block c; omega)).trans c, r⟩

theorem step_append_str {ops : Array Oper} {o : Oper} {a : Act} {w : World} {K : Act → World → Prop} {Q : Exit → Act → World → Prop} {E : Prop}
    (hg : o.guard = none) (s x : Operand) (ho : o.op = .call { callee := .builtin .append, args := #[s, x], argTypes := #[72, 72] })
    (base : Nat) (v : Value) (xs : List (List UInt8)) (hs : a.eval s = v) (hown : SOwn w base v xs) (hl : xs.length ≤ 4398046511000) (hbase : base ≤ w.heap.size)
    (ad : Addr) (c : Nat) (y : List UInt8) (hx : a.eval x = .slice (some ad) 1 c) (hc : w.cell? ad = some (sv y))
    (hK : ∀ v' w', SOwn w' base v' (xs ++ [y]) → Below base w w' → K (a.put o.dst v') w') :
    if Region.wanted o (yielded ops a.tmps) = true then Oper.wp Tryz.prog o a w K Q else E := by
  have hw : Region.wanted o (yielded ops a.tmps) = true := by simp [Region.wanted, hg]
  rw [if_pos hw]
  obtain ⟨i0, hi, hh⟩ := Option.map_eq_some_iff.1 Tryz.infoStr
  simp only [Prod.mk.injEq] at hh
  obtain ⟨v', w', hrun, r1, r2, _⟩ := run_append_own (P := Tryz.prog) w base 72 o.type 9 i0 (.string ⟨#[]⟩) 1 16 Tryz.underlying72 hi hh.1 hh.2.1 hh.2.2 rfl (by decide) v xs.length (xs.map sv) hown ad 1 c [sv y] rfl (fun j u hj => by
    rcases j with _ | j
    · simp at hj; subst hj; simpa [Addr.add] using hc
    · simp at hj) (fun u hu => by simp at hu; subst hu; rfl) (by unfold maxLen; omega) (by omega) hbase
  unfold Oper.wp
  simp [execOp, ho, resolve, invoke, builtin, hs, hx, hrun, Result.andThen]
  refine hK v' w' (by simpa [SOwn] using r1) ((Below.refl _ _).grown r2 hbase ?_)
  intro k hk
  rcases hown.2 with ⟨rfl, _⟩ | ⟨g, cap', cur, rfl, hb, _⟩
  · cases hk
  · simp only [Value.ownBlock, Option.some.injEq] at hk; omega

/-- A field's text. -/
def fldT (f : Fld) : List UInt8 := f.name ++ [61] ++ valT f
/-- A record's text. -/
def writeT (fs : List Fld) : List UInt8 := Lib.join (fs.map fldT) [38]

theorem chkL_may {p : List UInt8} {fs : List Fld} (h : chkL p fs = 0) : ∀ f ∈ fs, mayF f = 0 := by
  induction fs generalizing p with
  | nil => intro f hf; cases hf
  | cons a r ih =>
    intro f hf
    rw [chkL] at h
    by_cases hm : mayF a = 0
    · rw [if_neg (by simpa using hm)] at h
      by_cases hl : a.name ≤ p
      · rw [if_pos hl] at h; cases h
      · rw [if_neg hl] at h
        rcases List.mem_cons.1 hf with rfl | hf
        · exact hm
        · exact ih h f hf
    · rw [if_pos (by simpa using hm)] at h; exact absurd h hm

theorem may_ok {f : Fld} (h : mayF f = 0) : nameB f.name = true ∧ valB f = true := by
  unfold mayF at h
  cases hn : nameB f.name with
  | false => rw [hn] at h; simp at h
  | true =>
    cases hv : valB f with
    | false => rw [hn, hv] at h; simp at h
    | true => exact ⟨rfl, rfl⟩

theorem nameB_len {s : List UInt8} (h : nameB s = true) : 1 ≤ s.length ∧ s.length ≤ 32 := by
  unfold nameB at h
  rcases s with _ | ⟨c, r⟩
  · simp at h
  · simp at h; simp; omega

theorem val_len {f : Fld} (h : valB f = true) : f.s.length ≤ 200 := by
  unfold valB at h
  cases ht : f.text with
  | true => rw [ht] at h; simp at h; omega
  | false => rw [ht] at h; simp at h; simp [h]

end Go.Proofs.YtingpmgpjmlioaaGreatDoor

namespace Go.Proofs.YtingpmgpjmlioaaGreatDoor
open Go.RowKit
set_option linter.unusedVariables false

theorem valT_len {f : Fld} (hf : fits f) (h : valB f = true) : (valT f).length ≤ 601 := by
  unfold valT
  have := val_len h
  split
  · have := esc_length f.s; simp; omega
  · have := Lib.itoa_length_le f.n hf.2.2.1 hf.2.2.2; omega

theorem fldT_len {f : Fld} (hf : fits f) (h : mayF f = 0) : (fldT f).length ≤ 640 := by
  obtain ⟨h1, h2⟩ := may_ok h
  have := nameB_len h1
  have := valT_len hf h2
  unfold fldT; simp; omega

theorem tail_len (xs : List (List UInt8)) (h : ∀ x ∈ xs, x.length ≤ 640) : (Lib.joinTail [38] xs).length ≤ xs.length * 641 := by
  induction xs with
  | nil => simp [Lib.joinTail]
  | cons a r ih =>
    have h1 := h a (by simp)
    have h2 := ih (fun x hx => h x (by simp [hx]))
    simp only [Lib.joinTail, List.map_cons, List.flatten_cons, List.length_append, List.length_cons] at h2 ⊢
    simp only [List.length_nil] at *
    omega
theorem join_len (xs : List (List UInt8)) (h : ∀ x ∈ xs, x.length ≤ 640) : (Lib.join xs [38]).length ≤ xs.length * 641 := by
  rcases xs with _ | ⟨a, r⟩
  · simp [Lib.join_nil]
  · rw [Lib.join_cons]
    have h1 := h a (by simp)
    have h2 := tail_len r (fun x hx => h x (by simp [hx]))
    simp; omega

theorem map_take_succ {f : Fld} {fs : List Fld} {k : Nat} (h : fs[k]? = some f) : (fs.take (k + 1)).map fldT = (fs.take k).map fldT ++ [fldT f] := by
  rw [List.take_add_one, h]; simp

theorem le_alloc (w : World) (o : Obj) : w.heap.size ≤ (w.alloc o).heap.size := by simp
theorem SOwn.alloc2 {w : World} {base : Nat} {v : Value} {l : List (List UInt8)} (h : SOwn w base v l) (o : Obj) : SOwn (w.alloc o) base v l := h.below ((Below.refl w.heap.size w).alloc (Nat.le_refl _) o) (Nat.le_refl _)
theorem SOwn.drew2 {w : World} {base : Nat} {v : Value} {l : List (List UInt8)} (h : SOwn w base v l) : SOwn w.drew base v l := h.below ((Below.refl w.heap.size w).drew) (Nat.le_refl _)
theorem cell_new (w : World) (x : Value) (t : TypeId) : (w.alloc (.cells #[x] t)).cell? ⟨w.heap.size, 0, none⟩ = some x := by simp
theorem cat3 (a b c : List UInt8) : (some (Value.string ((⟨a.toArray⟩ : ByteArray) ++ ⟨b.toArray⟩ ++ ⟨c.toArray⟩))) = some (sv (a ++ b ++ c)) := by rw [str_cat, str_cat]

end Go.Proofs.YtingpmgpjmlioaaGreatDoor

namespace Go.Proofs.YtingpmgpjmlioaaGreatDoor
open Go.RowKit
set_option linter.unusedVariables false

/-- A text cut at its first byte c. -/
def cutA (c : UInt8) : List UInt8 → List UInt8 × Option (List UInt8)
  | [] => ([], none)
  | d :: r => if d = c then ([], some r) else (d :: (cutA c r).1, (cutA c r).2)

theorem cutA_index (c : UInt8) (s : List UInt8) : (Lib.indexByte s c = -1 ∧ cutA c s = (s, none)) ∨ ∃ i : Nat, Lib.indexByte s c = i ∧ i < s.length ∧ cutA c s = (s.take i, some (s.drop (i + 1))) := by
  induction s with
  | nil => exact .inl ⟨rfl, rfl⟩
  | cons d r ih =>
    by_cases h : d = c
    · subst h
      exact .inr ⟨0, by simp [Lib.indexByte], by simp, by simp [cutA]⟩
    · rcases ih with ⟨h1, h2⟩ | ⟨i, h1, h2, h3⟩
      · exact .inl ⟨by simp [Lib.indexByte, h, h1], by simp [cutA, h, h2]⟩
      · refine .inr ⟨i + 1, ?_, by simp; omega, by simp [cutA, h, h3]⟩
        simp [Lib.indexByte, h, h1]

theorem ext_take (s : List UInt8) (i : Nat) : (⟨s.toArray⟩ : ByteArray).extract 0 i = ⟨(s.take i).toArray⟩ := by
  apply ByteArray.ext
  simp
theorem ext_drop (s : List UInt8) (i : Nat) : (⟨s.toArray⟩ : ByteArray).extract i s.length = ⟨(s.drop i).toArray⟩ := by
  apply ByteArray.ext
  simp
  exact List.take_of_length_le (by simp)

abbrev cutV (p : List UInt8 × Option (List UInt8)) : Value := .tuple #[sv p.1, sv (p.2.getD []), .bool p.2.isSome]

def FBox (w : World) (q : Nat) (f : Fld) : Prop := w.heap[q]? = some (.cells (fv f) 48 (0, 0))
theorem FBox.cells {w : World} {q : Nat} {f : Fld} (h : FBox w q f) : w.cell? ⟨q, 0, none⟩ = some (sv f.name) ∧ w.cell? ⟨q, 1, none⟩ = some (.bool f.text) ∧ w.cell? ⟨q, 2, none⟩ = some (.int .i64 f.n) ∧ w.cell? ⟨q, 3, none⟩ = some (sv f.s) ∧ ∀ i, w.frozen? ⟨q, i, none⟩ = false :=
  ⟨(cell_of_row _ _ _ _ _ _ h).trans rfl, (cell_of_row _ _ _ _ _ _ h).trans rfl, (cell_of_row _ _ _ _ _ _ h).trans rfl, (cell_of_row _ _ _ _ _ _ h).trans rfl, fun i => by simp [World.frozen?, show w.heap[q]? = _ from h]⟩
theorem FBox.put {w : World} {q : Nat} {f : Fld} (h : FBox w q f) (a : List UInt8) (t : Bool) (n : Int) (s : List UInt8) : FBox ((((w.setCell ⟨q, 0, none⟩ (sv a)).setCell ⟨q, 1, none⟩ (.bool t)).setCell ⟨q, 2, none⟩ (.int .i64 n)).setCell ⟨q, 3, none⟩ (sv s)) q ⟨a, t, n, s⟩ := by
  unfold FBox at h ⊢
  rw [heap_setCell_same _ q 3 _ _ _ (heap_setCell_same _ q 2 _ _ _ (heap_setCell_same _ q 1 _ _ _ (heap_setCell_same w q 0 _ _ _ h)))]
  rfl
theorem FBox.same {w w' : World} {q : Nat} {f : Fld} (h : FBox w q f) (e : w'.heap[q]? = w.heap[q]?) : FBox w' q f := e.trans h
theorem FBox.lt {w : World} {q : Nat} {f : Fld} (h : FBox w q f) : q < w.heap.size := lt_of_block h
theorem FBox.below {B : Nat} {w w' : World} {q : Nat} {f : Fld} (h : FBox w q f) (hb : Below B w w') (hB : w.heap.size ≤ B) : FBox w' q f := h.same (hb.block q (by have := h.lt; omega))
theorem FBox.new (w : World) (f : Fld) : FBox (w.alloc (.cells (fv f) 48)) w.heap.size f := heap_alloc_new _ _
theorem below_put {B : Nat} {a w : World} (h : Below B a w) {q : Nat} (hq : B ≤ q) (x : List UInt8) (t : Bool) (n : Int) (s : List UInt8) : Below B a ((((w.setCell ⟨q, 0, none⟩ (sv x)).setCell ⟨q, 1, none⟩ (.bool t)).setCell ⟨q, 2, none⟩ (.int .i64 n)).setCell ⟨q, 3, none⟩ (sv s)) :=
  (((h.setCell (p := ⟨q, 0, none⟩) hq _).setCell (p := ⟨q, 1, none⟩) hq _).setCell (p := ⟨q, 2, none⟩) hq _).setCell (p := ⟨q, 3, none⟩) hq _
theorem results_ct {P : Program} {fn : Func} {p u : Tmp} {ty : TypeId} (h : fn.results = #[.cell p ty, .tmp u]) (tmps : Array Value) (w : World) (g : Nat) (t : TypeId) (cs : Array Value) (fr : Nat × Nat) (d : TypeDesc) (x : Value)
    (hp : tmps.getD p undef = .pointer (some ⟨g, 0, none⟩)) (hx : tmps.getD u undef = x) (hg : w.heap[g]? = some (.cells cs t fr))
    (hu : P.underlying ty = some d) (hd : (match d with | .struct _ | .array _ _ => true | _ => false) = true) (hi : (P.info? ty).map (·.size) = some cs.size) :
    (results fn tmps).run P w = .ok (.tuple #[.agg cs, x]) w := by
  rw [results_cell_tmp h, hp, hx]
  simp [asAddr, Result.andThen, run_loadVar_row w g t ty cs fr d hg hu hd hi]
theorem sizeField : (Tryz.prog.info? 48).map (·.size) = some 4 := by kernel_rfl
end Go.Proofs.YtingpmgpjmlioaaGreatDoor
