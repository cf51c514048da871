/-
  DERIVED. The walk of Write.
-/
import Derived.Test.YtkgepklmhdjjnaaGreatDoorShv
import Derived.Deep.RegionHeld3
namespace Go.Proofs.YtkgepklmhdjjnaaGreatDoor
open Go.RowKit
set_option linter.unusedVariables false

/-- Strings in a row of one's own. -/
def SOwn (w : World) (base : Nat) (v : Value) (xs : List (List UInt8)) : Prop := w.ownsRow base 9 1 v xs.length (xs.map sv)

theorem sv_one (l : List (List UInt8)) : ∀ u ∈ l.map sv, u.oneCell' = true := by
  intro u hu; obtain ⟨c, _, rfl⟩ := List.mem_map.1 hu; rfl
theorem Tryz.infoStr : (Tryz.prog.info? 9).map (fun i => (i.zero, i.size, i.bytes)) = some (some (.string ⟨#[]⟩), 1, 16) := by kernel_rfl

/-- make([]string, 0, m) -/
theorem make_strs (w : World) (m : Nat) (hm : m ≤ 4398046511104) : ∃ o, (Instr.makeSlice 70 (.int .i64 0) (.int .i64 (m : Int))).run Tryz.prog w = .ok (.slice (some ⟨w.heap.size, 0, none⟩) 0 m) (w.alloc o) ∧ SOwn (w.alloc o) w.heap.size (.slice (some ⟨w.heap.size, 0, none⟩) 0 m) [] := by
  obtain ⟨i, hi, hh⟩ := Option.map_eq_some_iff.1 Tryz.infoStr
  simp only [Prod.mk.injEq] at hh
  have h := run_make (P := Tryz.prog) w 70 9 i _ Tryz.underlying70 hi hh.1 .i64 .i64 0 m (by omega) (by omega) (by rw [hh.2.2]; omega) (by omega)
  rw [Int.toNat_natCast, hh.2.1, Nat.mul_one] at h
  refine ⟨_, h, ?_⟩
  refine ⟨rfl, .inr ⟨w.heap.size, m, madeCells (Value.string ⟨#[]⟩).cells m, rfl, Nat.le_refl _, ?_, by simp, by unfold maxLen; omega, ?_, by simp⟩⟩
  · show (w.heap.push _)[w.heap.size]? = _
    simp
  · have := toList_madeCells_one (Value.string ⟨#[]⟩) m
    have h2 := congrArg List.length this
    simp only [List.length_replicate, Array.length_toList] at h2
    rw [Nat.mul_one]
    exact h2

theorem SOwn.below {B base : Nat} {w w' : World} {v : Value} {l : List (List UInt8)} (h : SOwn w base v l) (hb : Below B w w') (hB : w.heap.size ≤ B) : SOwn w' base v l := by
  obtain ⟨h1, h2⟩ := h
  refine ⟨h1, ?_⟩
  rcases h2 with h | ⟨g, cap, cur, a, b, c, r⟩
  · exact .inl h
  · exact .inr ⟨g, cap, cur, a, b, (hb.block g (by have := lt_of_block c; omega)).trans c, r⟩

theorem step_append_str {ops : Array Oper} {o : Oper} {a : Act} {w : World} {K : Act → World → Prop} {Q : Exit → Act → World → Prop} {E : Prop}
    (hg : o.guard = none) (s x : Operand) (ho : o.op = .call { callee := .builtin .append, args := #[s, x], argTypes := #[70, 70] })
    (base : Nat) (v : Value) (xs : List (List UInt8)) (hs : a.eval s = v) (hown : SOwn w base v xs) (hl : xs.length ≤ 4398046511000) (hbase : base ≤ w.heap.size)
    (ad : Addr) (c : Nat) (y : List UInt8) (hx : a.eval x = .slice (some ad) 1 c) (hc : w.cell? ad = some (sv y))
    (hK : ∀ v' w', SOwn w' base v' (xs ++ [y]) → Below base w w' → K (a.put o.dst v') w') :
    if Region.wanted o (yielded ops a.tmps) = true then Oper.wp Tryz.prog o a w K Q else E := by
  have hw : Region.wanted o (yielded ops a.tmps) = true := by simp [Region.wanted, hg]
  rw [if_pos hw]
  obtain ⟨i0, hi, hh⟩ := Option.map_eq_some_iff.1 Tryz.infoStr
  simp only [Prod.mk.injEq] at hh
  obtain ⟨v', w', hrun, r1, r2, _⟩ := run_append_own (P := Tryz.prog) w base 70 o.type 9 i0 (.string ⟨#[]⟩) 1 16 Tryz.underlying70 hi hh.1 hh.2.1 hh.2.2 rfl (by decide) v xs.length (xs.map sv) hown ad 1 c [sv y] rfl (fun j u hj => by
    rcases j with _ | j
    · simp at hj; subst hj; simpa [Addr.add] using hc
    · simp at hj) (fun u hu => by simp at hu; subst hu; rfl) (by unfold maxLen; omega) (by omega) hbase
  unfold Oper.wp
  simp [execOp, ho, resolve, invoke, builtin, hs, hx, hrun, Result.andThen]
  refine hK v' w' (by simpa [SOwn] using r1) ((Below.refl _ _).grown r2 hbase ?_)
  intro k hk
  rcases hown.2 with ⟨rfl, _⟩ | ⟨g, cap', cur, rfl, hb, _⟩
  · cases hk
  · simp only [Value.ownBlock, Option.some.injEq] at hk; omega

/-- A field's text. -/
def fldT (f : Fld) : List UInt8 := f.name ++ [61] ++ valT f
/-- A record's text. -/
def writeT (fs : List Fld) : List UInt8 := Lib.join (fs.map fldT) [38]

theorem chkL_may {p : List UInt8} {fs : List Fld} (h : chkL p fs = 0) : ∀ f ∈ fs, mayF f = 0 := by
  induction fs generalizing p with
  | nil => intro f hf; cases hf
  | cons a r ih =>
    intro f hf
    rw [chkL] at h
    by_cases hm : mayF a = 0
    · rw [if_neg (by simpa using hm)] at h
      by_cases hl : a.name ≤ p
      · rw [if_pos hl] at h; cases h
      · rw [if_neg hl] at h
        rcases List.mem_cons.1 hf with rfl | hf
        · exact hm
        · exact ih h f hf
    · rw [if_pos (by simpa using hm)] at h; exact absurd h hm

theorem may_ok {f : Fld} (h : mayF f = 0) : nameB f.name = true ∧ valB f = true := by
  unfold mayF at h
  cases hn : nameB f.name with
  | false => rw [hn] at h; simp at h
  | true =>
    cases hv : valB f with
    | false => rw [hn, hv] at h; simp at h
    | true => exact ⟨rfl, rfl⟩

theorem nameB_len {s : List UInt8} (h : nameB s = true) : 1 ≤ s.length ∧ s.length ≤ 32 := by
  unfold nameB at h
  rcases s with _ | ⟨c, r⟩
  · simp at h
  · simp at h; simp; omega

theorem val_len {f : Fld} (h : valB f = true) : f.s.length ≤ 200 := by
  unfold valB at h
  cases ht : f.text with
  | true => rw [ht] at h; simp at h; omega
  | false => rw [ht] at h; simp at h; simp [h]

end Go.Proofs.YtkgepklmhdjjnaaGreatDoor
