/-
  DERIVED. The numbers of this dump for functions of Go's library, written out by the guide's own tool.
-/
import Derived.Shelf.Strings.OnBuilder
import Derived.Shelf.Small.Wraps
import Derived.Test.YtkgepklmhdjjnaaGreatDoorProg
import Derived.Test.YtkgepklmhdjjnaaGreatDoorM1
import Derived.Lib.AppendIntMem
import Derived.Deep.RegionHeld3
import Derived.Lib.ItoaLen
import Derived.BigQuiet
import Derived.Laws.ResultCell
import Derived.Laws.Rows
import Derived.Lib.SmallJoins
import Derived.Maps.OwnSet
import Derived.Maps.AppendAt
import Derived.Laws.OwnMore
import Derived.Shelf.SlIter.Nil
import Derived.Shelf.SortM.Plain
import Derived.Shelf.SortM.SortNone
import Derived.Ground.GgzProg
import Derived.Ground.SlgmProg
namespace Go.Proofs.YtkgepklmhdjjnaaGreatDoor
open Go.Shelf
def Tryz.lays156_ren : Go.Shelf.Ren := ⟨fun | 156 => 82 | 165 => 138 | 166 => 139 | 169 => 140 | 240 => 177 | 241 => 178 | 276 => 200 | 277 => 201 | n => n, fun | 31 => 70 | 9 => 9 | 3 => 3 | 4 => 4 | 0 => 0 | 20 => 20 | 72 => 186 | 76 => 190 | 70 => 184 | 37 => 78 | 75 => 189 | 127 => 218 | 164 => 237 | 5 => 5 | 80 => 192 | n => n, fun | n => n⟩
theorem Tryz.lays156 : Go.Proofs.Lays.n156 Tryz.prog Tryz.lays156_ren := {
  mixed := by kernel_rfl
  f156 := Tryz.func82.trans (congrArg some (by kernel_rfl))
  f165 := Tryz.func138.trans (congrArg some (by kernel_rfl))
  f166 := Tryz.func139.trans (congrArg some (by kernel_rfl))
  f169 := Tryz.func140.trans (congrArg some (by kernel_rfl))
  f240 := Tryz.func177.trans (congrArg some (by kernel_rfl))
  f241 := Tryz.func178.trans (congrArg some (by kernel_rfl))
  f276 := Tryz.func200.trans (congrArg some (by kernel_rfl))
  f277 := Tryz.func201.trans (congrArg some (by kernel_rfl))
  t0 := Tryz.underlying0
  a0 := Tryz.isAgg0
  z0 := Tryz.sizeOf0
  v0 := Tryz.zeroValue0
  t3 := Tryz.underlying3
  a3 := Tryz.isAgg3
  z3 := Tryz.sizeOf3
  v3 := Tryz.zeroValue3
  t4 := Tryz.underlying4
  a4 := Tryz.isAgg4
  z4 := Tryz.sizeOf4
  v4 := Tryz.zeroValue4
  t9 := Tryz.underlying9
  a9 := Tryz.isAgg9
  z9 := Tryz.sizeOf9
  v9 := Tryz.zeroValue9
  t20 := Tryz.underlying20
  a20 := Tryz.isAgg20
  z20 := Tryz.sizeOf20
  v20 := Tryz.zeroValue20
  t31 := Tryz.underlying70
  a31 := Tryz.isAgg70
  z31 := Tryz.sizeOf70
  v31 := Tryz.zeroValue70
  t37 := Tryz.underlying78
  a37 := Tryz.isAgg78
  z37 := Tryz.sizeOf78
  v37 := Tryz.zeroValue78
  t70 := Tryz.underlying184
  a70 := Tryz.isAgg184
  z70 := Tryz.sizeOf184
  v70 := Tryz.zeroValue184
  t72 := Tryz.underlying186
  a72 := Tryz.isAgg186
  z72 := Tryz.sizeOf186
  v72 := Tryz.zeroValue186
  t75 := Tryz.underlying189
  a75 := Tryz.isAgg189
  z75 := Tryz.sizeOf189
  v75 := Tryz.zeroValue189
  t76 := Tryz.underlying190
  a76 := Tryz.isAgg190
  z76 := Tryz.sizeOf190
  v76 := Tryz.zeroValue190
  t127 := Tryz.underlying218
  a127 := Tryz.isAgg218
  z127 := Tryz.sizeOf218
  v127 := Tryz.zeroValue218
  t164 := Tryz.underlying237
  a164 := Tryz.isAgg237
  z164 := Tryz.sizeOf237
  v164 := Tryz.zeroValue237 }
theorem Tryz.Builder_Extra_156 : Builder.Extra Tryz.prog Tryz.lays156_ren := {
  sizeBuilder := by kernel_rfl
  liesBuilder := by kernel_rfl
  t5 := Tryz.underlying5
  a5 := Tryz.isAgg5
  z5 := Tryz.sizeOf5
  v5 := Tryz.zeroValue5
  infoByte := by kernel_rfl
  cellsByte := by kernel_rfl
  sizeByte := by kernel_rfl
  neB5 := by decide }
open Go.RowKit in
/-- No element: the empty string; the world is as it was. (Whatever the slice's address and capacity: a nil slice too.) (LAID: no walk: one application.) -/
theorem Tryz.strings_Join_none (a : Option Addr) (c : Nat) (sep : ByteArray) (w : World) :
    Calls Tryz.prog 82 #[.slice a 0 c, .string sep] w fun e w' => e = .returned (.string ⟨#[]⟩) ∧ w' = w := Any.strings_Join_none Tryz.lays156 Tryz.Builder_Extra_156 a c sep w
open Go.RowKit in
/-- strings.Join: "Join concatenates the elements of its first argument to create a single string. The separator string sep is placed between elements in the resulting string.": HOWEVER MANY ELEMENTS. Below the heap's end the world is as it was. (LAID: no walk: one application.) -/
theorem Tryz.strings_Join (bk o c : Nat) (xs : List ByteArray) (sep : ByteArray) (w : World) (hcells : ∀ (j : Nat) x, xs[j]? = some x → w.cell? ⟨bk, o + j, none⟩ = some (.string x)) (hbk : bk < w.heap.size) (hN : xs.length ≤ 140737488355328) (hcap : xs.length ≤ c) (hlen : (Lib.join (xs.map (·.data.toList)) sep.data.toList).length ≤ 140737488355328) :
    Calls Tryz.prog 82 #[.slice (some ⟨bk, o, none⟩) xs.length c, .string sep] w fun e w' => e = .returned (.string ⟨(Lib.join (xs.map (·.data.toList)) sep.data.toList).toArray⟩) ∧ Below w.heap.size w w' := Any.strings_Join Tryz.lays156 Tryz.Builder_Extra_156 bk o c xs sep w hcells hbk hN hcap hlen
def Tryz.lays210_ren : Go.Shelf.Ren := ⟨fun | 210 => 180 | 206 => 205 | n => n, fun | 9 => 9 | 4 => 4 | 3 => 3 | n => n, fun | n => n⟩
theorem Tryz.lays210 : Go.Proofs.Lays.n210 Tryz.prog Tryz.lays210_ren := {
  mixed := by kernel_rfl
  f206 := Tryz.func205.trans (congrArg some (by kernel_rfl))
  f210 := Tryz.func180.trans (congrArg some (by kernel_rfl))
  t3 := Tryz.underlying3
  a3 := Tryz.isAgg3
  z3 := Tryz.sizeOf3
  v3 := Tryz.zeroValue3
  t4 := Tryz.underlying4
  a4 := Tryz.isAgg4
  z4 := Tryz.sizeOf4
  v4 := Tryz.zeroValue4
  t9 := Tryz.underlying9
  a9 := Tryz.isAgg9
  z9 := Tryz.sizeOf9
  v9 := Tryz.zeroValue9 }
open Go.RowKit in
/-- internal/stringslite.CutPrefix (what strings.CutPrefix calls). (LAID: no walk: one application.) -/
theorem Tryz.stringslite_CutPrefix (s p : ByteArray) (w : World) :
    Calls Tryz.prog 180 #[.string s, .string p] w fun e w' => e = .returned (.tuple #[.string ⟨(Lib.trimPrefix s.data.toList p.data.toList).toArray⟩, .bool (Lib.hasPrefix s.data.toList p.data.toList)]) ∧ w' = w := Any.stringslite_CutPrefix Tryz.lays210 s p w
def Tryz.lays103_ren : Go.Shelf.Ren := ⟨fun | 103 => 142 | 210 => 180 | 206 => 205 | n => n, fun | 9 => 9 | 4 => 4 | 24 => 28 | 3 => 3 | n => n, fun | n => n⟩
theorem Tryz.lays103 : Go.Proofs.Lays.n103 Tryz.prog Tryz.lays103_ren := {
  mixed := by kernel_rfl
  f103 := Tryz.func142.trans (congrArg some (by kernel_rfl))
  f206 := Tryz.func205.trans (congrArg some (by kernel_rfl))
  f210 := Tryz.func180.trans (congrArg some (by kernel_rfl))
  t3 := Tryz.underlying3
  a3 := Tryz.isAgg3
  z3 := Tryz.sizeOf3
  v3 := Tryz.zeroValue3
  t4 := Tryz.underlying4
  a4 := Tryz.isAgg4
  z4 := Tryz.sizeOf4
  v4 := Tryz.zeroValue4
  t9 := Tryz.underlying9
  a9 := Tryz.isAgg9
  z9 := Tryz.sizeOf9
  v9 := Tryz.zeroValue9
  t24 := Tryz.underlying28
  a24 := Tryz.isAgg28
  z24 := Tryz.sizeOf28
  v24 := Tryz.zeroValue28 }
open Go.RowKit in
/-- strings.CutPrefix: "CutPrefix returns s without the provided leading prefix string and reports whether it found the prefix. If s doesn't start with prefix, CutPrefix returns s, false. If prefix is the empty string, CutPrefix returns s, true.": IT RETURNS '(Lib.trimPrefix s p, Lib.hasPrefix s p)'; the world is as it was. (LAID: no walk: one application.) -/
theorem Tryz.strings_CutPrefix (s p : ByteArray) (w : World) :
    Calls Tryz.prog 142 #[.string s, .string p] w fun e w' => e = .returned (.tuple #[.string ⟨(Lib.trimPrefix s.data.toList p.data.toList).toArray⟩, .bool (Lib.hasPrefix s.data.toList p.data.toList)]) ∧ w' = w := Any.strings_CutPrefix Tryz.lays103 s p w
def Tryz.lays215_ren : Go.Shelf.Ren := ⟨fun | 215 => 221 | n => n, fun | 3 => 3 | 4 => 4 | n => n, fun | n => n⟩
theorem Tryz.lays215 : Go.Proofs.Lays.n215 Tryz.prog Tryz.lays215_ren := {
  mixed := by kernel_rfl
  f215 := Tryz.func221.trans (congrArg some (by kernel_rfl))
  t3 := Tryz.underlying3
  a3 := Tryz.isAgg3
  z3 := Tryz.sizeOf3
  v3 := Tryz.zeroValue3
  t4 := Tryz.underlying4
  a4 := Tryz.isAgg4
  z4 := Tryz.sizeOf4
  v4 := Tryz.zeroValue4 }
open Go.RowKit in
/-- cmp.isNaN at int: 'x != x': false. (LAID: no walk: one application.) -/
theorem Tryz.cmp_isNaN_int (x : Int) (w : World) :
    Calls Tryz.prog 221 #[.int .i64 x] w fun e w' => e = .returned (.bool false) ∧ w' = w := Any.cmp_isNaN_int Tryz.lays215 x w
def Tryz.lays122_ren : Go.Shelf.Ren := ⟨fun | 122 => 198 | 215 => 221 | n => n, fun | 3 => 3 | 4 => 4 | n => n, fun | n => n⟩
theorem Tryz.lays122 : Go.Proofs.Lays.n122 Tryz.prog Tryz.lays122_ren := {
  mixed := by kernel_rfl
  f122 := Tryz.func198.trans (congrArg some (by kernel_rfl))
  f215 := Tryz.func221.trans (congrArg some (by kernel_rfl))
  t3 := Tryz.underlying3
  a3 := Tryz.isAgg3
  z3 := Tryz.sizeOf3
  v3 := Tryz.zeroValue3
  t4 := Tryz.underlying4
  a4 := Tryz.isAgg4
  z4 := Tryz.sizeOf4
  v4 := Tryz.zeroValue4 }
open Go.RowKit in
/-- cmp.Compare at int: "Compare returns -1 if x is less than y, 0 if x equals y, +1 if x is greater than y.": IT RETURNS 'Lib.compareInt x y'; the world is as it was. (LAID: no walk: one application.) -/
theorem Tryz.cmp_Compare_int (x y : Int) (w : World) :
    Calls Tryz.prog 198 #[.int .i64 x, .int .i64 y] w fun e w' => e = .returned (.int .i64 (Lib.compareInt x y)) ∧ w' = w := Any.cmp_Compare_int Tryz.lays122 x y w
end Go.Proofs.YtkgepklmhdjjnaaGreatDoor

/-
  DERIVED. Package variables, Itoa, valueText.
-/
namespace Go.Proofs.YtkgepklmhdjjnaaGreatDoor
open Go.RowKit
set_option linter.unusedVariables false

/-- The variables of the library that are read: the powers of ten, and the two errors. -/
def Vars (w : World) : Prop := Lib.TabIs Tryz.prog w "internal/strconv.uint64pow10" .u64 Lib.pow10Tab ∧ (∃ te pe, w.cell? ⟨1, 0, none⟩ = some (.iface te pe)) ∧ (∃ te pe, w.cell? ⟨2, 0, none⟩ = some (.iface te pe))

theorem cell_kept {B : Nat} {w w' : World} (hb : Below B w w') (hB : w.heap.size ≤ B) {a : Addr} {v : Value} (hc : w.cell? a = some v) : w'.cell? a = some v :=
  (hb.cell (Nat.lt_of_lt_of_le (World.block_lt_of_cell? w a hc) hB)).trans hc

theorem Vars.below {B : Nat} {w w' : World} (h : Vars w) (hb : Below B w w') (hB : w.heap.size ≤ B) : Vars w' := by
  obtain ⟨h1, ⟨t1, p1, h2⟩, ⟨t2, p2, h3⟩⟩ := h
  refine ⟨?_, ⟨t1, p1, cell_kept hb hB h2⟩, ⟨t2, p2, cell_kept hb hB h3⟩⟩
  have hg : Tryz.prog.globalNamed "internal/strconv.uint64pow10" = some 3 := by kernel_rfl
  unfold Lib.TabIs World.var? at h1 ⊢
  rw [hg] at h1 ⊢
  simp only [Option.bind_some] at h1 ⊢
  have hlt : 3 < w.heap.size := by
    rcases Nat.lt_or_ge 3 w.heap.size with h' | h'
    · exact h'
    · rw [Array.getElem?_eq_none h'] at h1; cases h1
  rw [hb.block 3 (by omega)]
  exact h1

theorem Itoa_go (n : Int) (h0 : -9223372036854775808 ≤ n) (h1 : n ≤ 9223372036854775807) (w : World) (hv : Vars w) :
    Calls Tryz.prog 130 #[.int .i64 n] w fun e w' => e = .returned (sv (Lib.itoa n)) ∧ Below w.heap.size w w' := by
  refine (Tryz.strconv_Itoa n h0 h1 w hv.1).mono ?_
  rintro e w' ⟨rfl, k, os, rfl⟩
  exact ⟨rfl, Lib.below_grow _ _ (Nat.le_refl _) k os⟩

theorem str_cat (a b : List UInt8) : (⟨a.toArray⟩ : ByteArray) ++ ⟨b.toArray⟩ = ⟨(a ++ b).toArray⟩ := by
  apply ByteArray.ext
  simp [ByteArray.data_append]
theorem str_cat1 (c : UInt8) (b : List UInt8) : sv (c :: b) = .string ((⟨#[c]⟩ : ByteArray) ++ ⟨b.toArray⟩) := by
  rw [show (⟨#[c]⟩ : ByteArray) = ⟨[c].toArray⟩ from rfl, str_cat]; rfl

/-- A value's text. -/
def valT (f : Fld) : List UInt8 := if f.text then 39 :: esc f.s else Lib.itoa f.n

set_option maxHeartbeats 2000000 in
theorem valueText_any (f : Fld) (w : World) (hf : fits f) (hs : 3 * f.s.length ≤ 140737488355328) (hv : Vars w) :
    Calls Tryz.prog 81 #[.agg (fv f)] w fun e w' => e = .returned (sv (valT f)) ∧ Below w.heap.size w w' := by
  obtain ⟨name, text, n, s⟩ := f
  obtain ⟨f1, f2, f3, f4⟩ := hf
  simp only at f1 f2 f3 f4 hs
  have HB := hide ((Below.refl w.heap.size w).alloc (Nat.le_refl _) (.cells (fv ⟨name, text, n, s⟩) 33))
  have HV := hide (hv.below (unhide HB) (Nat.le_refl _))
  clear hv
  cases text with
  | true =>
    have hz : 1 + (esc s).length ≤ 9223372036854775807 := by have := esc_length s; omega
    go_enter Tryz.func81, Tryz.ntmps81
    go_wp2_with (go_at_call 15; refine (Escape_any s _ hs).mono ?_; rintro e w' ⟨rfl, b4⟩; have HB4 := hide b4; clear b4)
    go_ret
    exact ⟨by rw [valT, if_pos rfl, str_cat1]; rfl, bel_box (Below.refl _ _) (unhide HB4)⟩
  | false =>
    go_enter Tryz.func81, Tryz.ntmps81
    go_wp2_with (go_at_call 130; refine (Itoa_go n f3 f4 _ (unhide HV)).mono ?_; rintro e w' ⟨rfl, b4⟩; have HB4 := hide b4; clear b4)
    go_ret
    exact ⟨rfl, bel_box (Below.refl _ _) (unhide HB4)⟩
end Go.Proofs.YtkgepklmhdjjnaaGreatDoor

/-
  DERIVED. The walk of Write.
-/
namespace Go.Proofs.YtkgepklmhdjjnaaGreatDoor
open Go.RowKit
set_option linter.unusedVariables false

/-- Strings in a row of one's own. -/
def SOwn (w : World) (base : Nat) (v : Value) (xs : List (List UInt8)) : Prop := w.ownsRow base 9 1 v xs.length (xs.map sv)

theorem sv_one (l : List (List UInt8)) : ∀ u ∈ l.map sv, u.oneCell' = true := by
  intro u hu; obtain ⟨c, _, rfl⟩ := List.mem_map.1 hu; rfl
theorem Tryz.infoStr : (Tryz.prog.info? 9).map (fun i => (i.zero, i.size, i.bytes)) = some (some (.string ⟨#[]⟩), 1, 16) := by kernel_rfl

/-- make([]string, 0, m) -/
theorem make_strs (w : World) (m : Nat) (hm : m ≤ 4398046511104) : ∃ o, (Instr.makeSlice 70 (.int .i64 0) (.int .i64 (m : Int))).run Tryz.prog w = .ok (.slice (some ⟨w.heap.size, 0, none⟩) 0 m) (w.alloc o) ∧ SOwn (w.alloc o) w.heap.size (.slice (some ⟨w.heap.size, 0, none⟩) 0 m) [] := by
  obtain ⟨i, hi, hh⟩ := Option.map_eq_some_iff.1 Tryz.infoStr
  simp only [Prod.mk.injEq] at hh
  have h := run_make (P := Tryz.prog) w 70 9 i _ Tryz.underlying70 hi hh.1 .i64 .i64 0 m (by omega) (by omega) (by rw [hh.2.2]; omega) (by omega)
  rw [Int.toNat_natCast, hh.2.1, Nat.mul_one] at h
  refine ⟨_, h, ?_⟩
  refine ⟨rfl, .inr ⟨w.heap.size, m, madeCells (Value.string ⟨#[]⟩).cells m, rfl, Nat.le_refl _, ?_, by simp, by unfold maxLen; omega, ?_, by simp⟩⟩
  · show (w.heap.push _)[w.heap.size]? = _
    simp
  · have := toList_madeCells_one (Value.string ⟨#[]⟩) m
    have h2 := congrArg List.length this
    simp only [List.length_replicate, Array.length_toList] at h2
    rw [Nat.mul_one]
    exact h2

theorem SOwn.below {B base : Nat} {w w' : World} {v : Value} {l : List (List UInt8)} (h : SOwn w base v l) (hb : Below B w w') (hB : w.heap.size ≤ B) : SOwn w' base v l := by
  obtain ⟨h1, h2⟩ := h
  refine ⟨h1, ?_⟩
  rcases h2 with h | ⟨g, cap, cur, a, b, c, r⟩
  · exact .inl h
  · exact .inr ⟨g, cap, cur, a, b, (hb.block g (by have := lt_of_block c; omega)).trans c, r⟩

theorem step_append_str {ops : Array Oper} {o : Oper} {a : Act} {w : World} {K : Act → World → Prop} {Q : Exit → Act → World → Prop} {E : Prop}
    (hg : o.guard = none) (s x : Operand) (ho : o.op = .call { callee := .builtin .append, args := #[s, x], argTypes := #[70, 70] })
    (base : Nat) (v : Value) (xs : List (List UInt8)) (hs : a.eval s = v) (hown : SOwn w base v xs) (hl : xs.length ≤ 4398046511000) (hbase : base ≤ w.heap.size)
    (ad : Addr) (c : Nat) (y : List UInt8) (hx : a.eval x = .slice (some ad) 1 c) (hc : w.cell? ad = some (sv y))
    (hK : ∀ v' w', SOwn w' base v' (xs ++ [y]) → Below base w w' → K (a.put o.dst v') w') :
    if Region.wanted o (yielded ops a.tmps) = true then Oper.wp Tryz.prog o a w K Q else E := by
  have hw : Region.wanted o (yielded ops a.tmps) = true := by simp [Region.wanted, hg]
  rw [if_pos hw]
  obtain ⟨i0, hi, hh⟩ := Option.map_eq_some_iff.1 Tryz.infoStr
  simp only [Prod.mk.injEq] at hh
  obtain ⟨v', w', hrun, r1, r2, _⟩ := run_append_own (P := Tryz.prog) w base 70 o.type 9 i0 (.string ⟨#[]⟩) 1 16 Tryz.underlying70 hi hh.1 hh.2.1 hh.2.2 rfl (by decide) v xs.length (xs.map sv) hown ad 1 c [sv y] rfl (fun j u hj => by
    rcases j with _ | j
    · simp at hj; subst hj; simpa [Addr.add] using hc
    · simp at hj) (fun u hu => by simp at hu; subst hu; rfl) (by unfold maxLen; omega) (by omega) hbase
  unfold Oper.wp
  simp [execOp, ho, resolve, invoke, builtin, hs, hx, hrun, Result.andThen]
  refine hK v' w' (by simpa [SOwn] using r1) ((Below.refl _ _).grown r2 hbase ?_)
  intro k hk
  rcases hown.2 with ⟨rfl, _⟩ | ⟨g, cap', cur, rfl, hb, _⟩
  · cases hk
  · simp only [Value.ownBlock, Option.some.injEq] at hk; omega

/-- A field's text. -/
def fldT (f : Fld) : List UInt8 := f.name ++ [61] ++ valT f
/-- A record's text. -/
def writeT (fs : List Fld) : List UInt8 := Lib.join (fs.map fldT) [38]

theorem chkL_may {p : List UInt8} {fs : List Fld} (h : chkL p fs = 0) : ∀ f ∈ fs, mayF f = 0 := by
  induction fs generalizing p with
  | nil => intro f hf; cases hf
  | cons a r ih =>
    intro f hf
    rw [chkL] at h
    by_cases hm : mayF a = 0
    · rw [if_neg (by simpa using hm)] at h
      by_cases hl : a.name ≤ p
      · rw [if_pos hl] at h; cases h
      · rw [if_neg hl] at h
        rcases List.mem_cons.1 hf with rfl | hf
        · exact hm
        · exact ih h f hf
    · rw [if_pos (by simpa using hm)] at h; exact absurd h hm

theorem may_ok {f : Fld} (h : mayF f = 0) : nameB f.name = true ∧ valB f = true := by
  unfold mayF at h
  cases hn : nameB f.name with
  | false => rw [hn] at h; simp at h
  | true =>
    cases hv : valB f with
    | false => rw [hn, hv] at h; simp at h
    | true => exact ⟨rfl, rfl⟩

theorem nameB_len {s : List UInt8} (h : nameB s = true) : 1 ≤ s.length ∧ s.length ≤ 32 := by
  unfold nameB at h
  rcases s with _ | ⟨c, r⟩
  · simp at h
  · simp at h; simp; omega

theorem val_len {f : Fld} (h : valB f = true) : f.s.length ≤ 200 := by
  unfold valB at h
  cases ht : f.text with
  | true => rw [ht] at h; simp at h; omega
  | false => rw [ht] at h; simp at h; simp [h]

end Go.Proofs.YtkgepklmhdjjnaaGreatDoor

/-
  DERIVED. The walk of Write, second part.
-/
namespace Go.Proofs.YtkgepklmhdjjnaaGreatDoor
open Go.RowKit
set_option linter.unusedVariables false

theorem valT_len {f : Fld} (hf : fits f) (h : valB f = true) : (valT f).length ≤ 601 := by
  unfold valT
  have := val_len h
  split
  · have := esc_length f.s; simp; omega
  · have := Lib.itoa_length_le f.n hf.2.2.1 hf.2.2.2; omega

theorem fldT_len {f : Fld} (hf : fits f) (h : mayF f = 0) : (fldT f).length ≤ 640 := by
  obtain ⟨h1, h2⟩ := may_ok h
  have := nameB_len h1
  have := valT_len hf h2
  unfold fldT; simp; omega

theorem tail_len (xs : List (List UInt8)) (h : ∀ x ∈ xs, x.length ≤ 640) : (Lib.joinTail [38] xs).length ≤ xs.length * 641 := by
  induction xs with
  | nil => simp [Lib.joinTail]
  | cons a r ih =>
    have h1 := h a (by simp)
    have h2 := ih (fun x hx => h x (by simp [hx]))
    simp only [Lib.joinTail, List.map_cons, List.flatten_cons, List.length_append, List.length_cons] at h2 ⊢
    simp only [List.length_nil] at *
    omega
theorem join_len (xs : List (List UInt8)) (h : ∀ x ∈ xs, x.length ≤ 640) : (Lib.join xs [38]).length ≤ xs.length * 641 := by
  rcases xs with _ | ⟨a, r⟩
  · simp [Lib.join_nil]
  · rw [Lib.join_cons]
    have h1 := h a (by simp)
    have h2 := tail_len r (fun x hx => h x (by simp [hx]))
    simp; omega

theorem map_take_succ {f : Fld} {fs : List Fld} {k : Nat} (h : fs[k]? = some f) : (fs.take (k + 1)).map fldT = (fs.take k).map fldT ++ [fldT f] := by
  rw [List.take_add_one, h]; simp

/-- A row of strings, joined by '&'. -/
theorem Join_go (v : Value) (xs : List (List UInt8)) (base : Nat) (w : World) (h : SOwn w base v xs) (hl : xs.length ≤ 16) (hx : ∀ x ∈ xs, x.length ≤ 640) :
    Calls Tryz.prog 82 #[v, .string ⟨#[38]⟩] w fun e w' => e = .returned (sv (Lib.join xs [38])) ∧ Below w.heap.size w w' := by
  by_cases hz : xs = []
  · subst hz
    obtain ⟨a, c, rfl⟩ : ∃ a c, v = .slice a 0 c := by
      rcases h.2 with ⟨rfl, _⟩ | ⟨g, cap, cur, rfl, _⟩
      · exact ⟨_, _, rfl⟩
      · exact ⟨_, _, rfl⟩
    refine (Tryz.strings_Join_none a c _ w).mono ?_
    rintro e w' ⟨rfl, rfl⟩
    exact ⟨rfl, Below.refl _ _⟩
  · have hp : 0 < xs.length := List.length_pos_iff.2 hz
    rcases h.2 with ⟨_, h0⟩ | ⟨g, cap, cur, rfl, hb, hg, hn, hm, hs, ht⟩
    · omega
    · obtain ⟨ys, hys⟩ : ∃ ys : List ByteArray, ys = xs.map (fun x => ⟨x.toArray⟩) := ⟨_, rfl⟩
      have hyl : ys.length = xs.length := by rw [hys]; simp
      have hym : ys.map (·.data.toList) = xs := by rw [hys, List.map_map]; exact List.map_id' xs
      have hj := join_len xs hx
      have := Tryz.strings_Join g 0 cap ys ⟨#[38]⟩ w (fun j x hj => by
        rw [hys, List.getElem?_map] at hj
        obtain ⟨y, hy, rfl⟩ := Option.map_eq_some_iff.1 hj
        have hjl := (List.getElem?_eq_some_iff.1 hy).1
        have e : (cur.toList.take (xs.length * 1))[j]? = (xs.map sv)[j]? := by rw [ht]
        rw [List.getElem?_take_of_lt (by omega)] at e
        simp only [World.cell?, hg, Nat.zero_add]
        rw [List.getElem?_map, hy] at e
        simpa using e) (lt_of_block hg) (by omega) (by omega) (by rw [hym]; show (Lib.join xs [38]).length ≤ _; omega)
      rw [hym, hyl] at this
      exact this

set_option maxHeartbeats 1000000 in
theorem Write_bad (a : Option Addr) (n c : Nat) (fs : List Fld) (w : World) (hv : FdL w (.slice a n c) fs) (hfit : ∀ f ∈ fs, fits f) (M : Int) (hM : checkF fs = M) (hm : M ≠ 0) :
    Calls Tryz.prog 35 #[.slice a n c] w fun e w' => e = .returned (.tuple #[sv [], .int .i64 M]) ∧ Below w.heap.size w w' := by
  have HC := hide (Check_any a n c fs w hv hfit)
  rw [hM] at HC
  have hm' : (M != 0) = true := by simp [hm]
  clear hM hm hfit hv
  go_enter Tryz.func35, Tryz.ntmps35
  go_wp2_with (go_at_call 80; refine (unhide HC).mono ?_; rintro e w' ⟨rfl, b4⟩; have HB4 := hide b4; clear b4)
  go_ret2
  exact ⟨rfl, unhide HB4⟩

theorem le_alloc (w : World) (o : Obj) : w.heap.size ≤ (w.alloc o).heap.size := by simp
theorem SOwn.alloc2 {w : World} {base : Nat} {v : Value} {l : List (List UInt8)} (h : SOwn w base v l) (o : Obj) : SOwn (w.alloc o) base v l := h.below ((Below.refl w.heap.size w).alloc (Nat.le_refl _) o) (Nat.le_refl _)
theorem SOwn.drew2 {w : World} {base : Nat} {v : Value} {l : List (List UInt8)} (h : SOwn w base v l) : SOwn w.drew base v l := h.below ((Below.refl w.heap.size w).drew) (Nat.le_refl _)
theorem cell_new (w : World) (x : Value) (t : TypeId) : (w.alloc (.cells #[x] t)).cell? ⟨w.heap.size, 0, none⟩ = some x := by simp
theorem cat3 (a b c : List UInt8) : (some (Value.string ((⟨a.toArray⟩ : ByteArray) ++ ⟨b.toArray⟩ ++ ⟨c.toArray⟩))) = some (sv (a ++ b ++ c)) := by rw [str_cat, str_cat]

set_option maxHeartbeats 4000000 in
theorem Write_ok (a : Option Addr) (n c : Nat) (fs : List Fld) (w : World) (hv : FdL w (.slice a n c) fs) (hfit : ∀ f ∈ fs, fits f) (hM : checkF fs = 0) (hva : Vars w) :
    Calls Tryz.prog 35 #[.slice a n c] w fun e w' => e = .returned (.tuple #[sv (writeT fs), .int .i64 0]) ∧ Below w.heap.size w w' := by
  have HC := hide (Check_any a n c fs w hv hfit)
  have h16 : fs.length ≤ 16 := by
    unfold checkF at hM
    by_cases h : 16 < fs.length
    · rw [if_pos h] at hM; cases hM
    · omega
  have hmay : ∀ f ∈ fs, mayF f = 0 := by
    unfold checkF at hM
    rw [if_neg (by omega)] at hM
    exact chkL_may hM
  rw [hM] at HC
  obtain ⟨ao, cap, e, g1, g2, g4⟩ := id hv
  cases e
  obtain ⟨N, hN⟩ : ∃ N, N = fs.length := ⟨_, rfl⟩
  have HN := hide hN
  have HV := hide hv
  have HFit := hide hfit
  have HMay := hide hmay
  have HVa := hide hva
  rw [← hN] at g1 h16 HC HV ⊢
  clear g4 hN hv hfit hM hmay hva
  go_enter Tryz.func35, Tryz.ntmps35
  go_upto_region 4 with (go_at_call 80; refine (unhide HC).mono ?_; rintro e w1 ⟨rfl, b1⟩; have HB1 := hide b1; clear b1)
  obtain ⟨o, mk, own0⟩ := make_strs w1 N (by omega)
  have HO := hide own0
  have HB2 := hide ((unhide HB1).alloc (unhide HB1).size o)
  have hz1 := (unhide HB1).size
  have hz2 : w1.heap.size ≤ (w1.alloc o).heap.size := by simp
  obtain ⟨w2, hw2⟩ : ∃ w2, w2 = w1.alloc o := ⟨_, rfl⟩
  rw [← hw2] at mk HO HB2 hz2
  clear own0 hw2 HB1
  go_wp2_with fail
  go_loopw [5, 7, 18] (fun p _ i wr => ∃ (k : Nat), k ≤ N ∧ i = .int .i64 k ∧ Hid (SOwn wr w1.heap.size p ((fs.take k).map fldT)) ∧ Hid (Below w.heap.size w wr) ∧ w1.heap.size ≤ wr.heap.size) (fun _ _ i _ => N - (intOf i).toNat)
  case atStart => exact ⟨0, by omega, rfl, HO, HB2, hz2⟩
  case round =>
    obtain ⟨k, hk, rfl, HO', HB', hzr⟩ := hrel
    clear mk HO HB2
    by_cases hlt : k < N
    · have hkl : k < fs.length := by have := unhide HN; omega
      obtain ⟨ao, cap, e, _, _, g4⟩ := (unhide HV).below (unhide HB') (Nat.le_refl _)
      cases e
      obtain ⟨b, off, rfl, hb, hc⟩ := g4 (by omega)
      obtain ⟨d0, d1, d2, d3⟩ := hc k hkl
      obtain ⟨f, hf⟩ : ∃ f, f = fs[k] := ⟨_, rfl⟩
      rw [← hf] at d0 d1 d2 d3
      have hmem : f ∈ fs := by rw [hf]; exact List.getElem_mem hkl
      have HF := hide (map_take_succ (f := f) (fs := fs) (k := k) (by rw [hf]; exact List.getElem?_eq_getElem hkl))
      have HFf := hide (unhide HFit f hmem)
      have hm := may_ok (unhide HMay f hmem)
      have hsl := val_len hm.2
      have hvl := valT_len (unhide HFf) hm.2
      have hnl := nameB_len hm.1
      clear hf hc g4 hmem hm
      obtain ⟨fn, ft, fi, fss⟩ := f
      simp only at d0 d1 d2 d3 hsl hnl
      obtain ⟨vt, hvt⟩ : ∃ vt, vt = valT ⟨fn, ft, fi, fss⟩ := ⟨_, rfl⟩
      rw [← hvt] at hvl
      have HT : Hid (fldT ⟨fn, ft, fi, fss⟩ = fn ++ [61] ++ vt) := hide (by rw [hvt]; rfl)
      have hkc : ((fs.take k).map fldT).length = k := by simp; omega
      obtain ⟨xs, hxs⟩ : ∃ xs, xs = (fs.take k).map fldT := ⟨_, rfl⟩
      rw [← hxs] at HO' HF hkc
      have z1 : (9223372036854775807 < fn.length + 1) = False := eq_false (by omega)
      have z2 : (9223372036854775807 < fn.length + 1 + vt.length) = False := eq_false (by omega)
      have z3 : (9223372036854775807 < fn.length + (vt.length + 1)) = False := eq_false (by omega)
      have HVT : Hid (∀ w5, Below w.heap.size w w5 → Calls Tryz.prog 81 #[.agg (fv ⟨fn, ft, fi, fss⟩)] w5 fun e w' => e = .returned (sv vt) ∧ Below w5.heap.size w5 w') := hide (fun w5 hb5 => by
        rw [hvt]
        exact valueText_any ⟨fn, ft, fi, fss⟩ w5 (unhide HFf) (by show 3 * fss.length ≤ _; omega) ((unhide HVa).below hb5 (Nat.le_refl _)))
      have HBA : Hid (∀ o, Below w.heap.size w (wr.alloc o).drew) := hide (fun o => ((unhide HB').alloc (unhide HB').size o).drew)
      clear hvt hxs
      go_upto_region 8 with fail
      go_region_law (first | (go_simp; go_at_call 81; refine (unhide HVT _ (unhide HBA _)).mono ?_; rintro e w5 ⟨rfl, b5⟩; have HB5 := hide ((unhide HBA _).trans (b5.mono (unhide HBA _).size)); have HO5 := hide ((((unhide HO').alloc2 _).drew2).below b5 (Nat.le_refl _)); have hz5 := (Nat.le_trans hzr (Nat.le_trans (le_alloc wr _) b5.size)); have n5 := b5.cell (p := ⟨wr.heap.size, 0, none⟩) (by simp); simp at n5; clear b5) | (refine step_append_str rfl (.tmp 22) (.tmp 29) rfl w1.heap.size _ xs rfl ?own ?hl ?hb ⟨w5.heap.size, 0, none⟩ 1 (fn ++ [61] ++ vt) rfl ?hc ?_; (case own => exact (unhide HO5).alloc2 _); (case hl => omega); (case hb => exact Nat.le_trans hz5 (le_alloc w5 _)); (case hc => rw [cell_new, cat3]); intro v6 w6 own6 b6; have HO6 := hide own6; have HB6 := hide (((unhide HB5).alloc (unhide HB5).size _).trans (b6.mono hz1)); have hz6 := (Nat.le_trans (Nat.le_trans hz5 (le_alloc w5 _)) b6.size); clear own6 b6))
      all_goals
        go_wp2
        go_roundw
        case rel => exact ⟨k + 1, by omega, by go_num, (by rw [unhide HF, unhide HT]; exact HO6), HB6, hz6⟩
        case measure => simp [intOf]; omega
    · have HR : Hid (fs.take k = fs) := hide (List.take_of_length_le (by have := unhide HN; omega))
      rw [unhide HR] at HO'
      have HJ := hide (Join_go _ _ _ wr (unhide HO') (by have := unhide HN; simp; omega) (by
        intro x hx
        obtain ⟨f, hf, rfl⟩ := List.mem_map.1 hx
        exact fldT_len (unhide HFit f hf) (unhide HMay f hf)))
      go_wp2_with (go_at_call 82; refine (unhide HJ).mono ?_; rintro e w7 ⟨rfl, b7⟩; have HB7 := hide ((unhide HB').trans (b7.mono (unhide HB').size)); clear b7)
      go_ret2
      exact ⟨rfl, unhide HB7⟩
end Go.Proofs.YtkgepklmhdjjnaaGreatDoor

/-
  DERIVED. strings.Cut at one byte.
-/
namespace Go.Proofs.YtkgepklmhdjjnaaGreatDoor
open Go.RowKit
set_option linter.unusedVariables false

/-- A text cut at its first byte c. -/
def cutA (c : UInt8) : List UInt8 → List UInt8 × Option (List UInt8)
  | [] => ([], none)
  | d :: r => if d = c then ([], some r) else (d :: (cutA c r).1, (cutA c r).2)

theorem cutA_index (c : UInt8) (s : List UInt8) : (Lib.indexByte s c = -1 ∧ cutA c s = (s, none)) ∨ ∃ i : Nat, Lib.indexByte s c = i ∧ i < s.length ∧ cutA c s = (s.take i, some (s.drop (i + 1))) := by
  induction s with
  | nil => exact .inl ⟨rfl, rfl⟩
  | cons d r ih =>
    by_cases h : d = c
    · subst h
      exact .inr ⟨0, by simp [Lib.indexByte], by simp, by simp [cutA]⟩
    · rcases ih with ⟨h1, h2⟩ | ⟨i, h1, h2, h3⟩
      · exact .inl ⟨by simp [Lib.indexByte, h, h1], by simp [cutA, h, h2]⟩
      · refine .inr ⟨i + 1, ?_, by simp; omega, by simp [cutA, h, h3]⟩
        simp [Lib.indexByte, h, h1]

theorem ext_take (s : List UInt8) (i : Nat) : (⟨s.toArray⟩ : ByteArray).extract 0 i = ⟨(s.take i).toArray⟩ := by
  apply ByteArray.ext
  simp
theorem ext_drop (s : List UInt8) (i : Nat) : (⟨s.toArray⟩ : ByteArray).extract i s.length = ⟨(s.drop i).toArray⟩ := by
  apply ByteArray.ext
  simp
  exact List.take_of_length_le (by simp)

abbrev cutV (p : List UInt8 × Option (List UInt8)) : Value := .tuple #[sv p.1, sv (p.2.getD []), .bool p.2.isSome]

set_option maxHeartbeats 2000000 in
theorem liteCut_any (s : List UInt8) (c : UInt8) (w : World) (hs : s.length ≤ 9223372036854775000) :
    Calls Tryz.prog 141 #[sv s, .string ⟨#[c]⟩] w fun e w' => e = .returned (cutV (cutA c s)) ∧ Below w.heap.size w w' := by
  have hI := Tryz.stringslite_Index_one ⟨s.toArray⟩ c w
  rcases cutA_index c s with ⟨h1, h2⟩ | ⟨i, h1, h2, h3⟩
  · rw [h2]
    have h1' : Lib.indexByte (⟨s.toArray⟩ : ByteArray).data.toList c = -1 := h1
    rw [h1'] at hI
    have HI := hide hI
    clear hI h1 h1' h2
    go_enter Tryz.func141, Tryz.ntmps141
    go_wp2_with (go_at_call 179; refine (unhide HI).mono ?_; rintro e w' ⟨rfl, rfl⟩)
    go_ret3
    exact ⟨rfl, Below.refl _ _⟩
  · rw [h3]
    have h1' : Lib.indexByte (⟨s.toArray⟩ : ByteArray).data.toList c = (i : Int) := h1
    rw [h1'] at hI
    have HI := hide hI
    have c1 : (0 : Int) ≤ (i : Int) := by omega
    have c2 : (i : Int) ≤ (s.length : Int) := by omega
    have c3 : (0 : Int) ≤ (i : Int) + 1 := by omega
    have c4 : (i : Int) + 1 ≤ (s.length : Int) := by omega
    clear hI h1 h1' h3
    go_enter Tryz.func141, Tryz.ntmps141
    go_wp2_with (go_at_call 179; refine (unhide HI).mono ?_; rintro e w' ⟨rfl, rfl⟩)
    go_region
    go_wp2
    go_ret3
    refine ⟨?_, (Below.refl _ _).drew⟩
    show Ending.returned (Value.tuple #[Value.string ((⟨s.toArray⟩ : ByteArray).extract 0 i), Value.string ((⟨s.toArray⟩ : ByteArray).extract (i + 1) s.length), Value.bool true]) = _
    rw [ext_take, ext_drop]
    rfl

set_option maxHeartbeats 1000000 in
theorem Cut_any (s : List UInt8) (c : UInt8) (w : World) (hs : s.length ≤ 9223372036854775000) :
    Calls Tryz.prog 83 #[sv s, .string ⟨#[c]⟩] w fun e w' => e = .returned (cutV (cutA c s)) ∧ Below w.heap.size w w' := by
  have HI := hide (liteCut_any s c w hs)
  obtain ⟨p, q⟩ : ∃ p, p = cutA c s := ⟨_, rfl⟩
  rw [← q] at HI ⊢
  obtain ⟨p1, p2⟩ := p
  clear q
  go_enter Tryz.func83, Tryz.ntmps83
  go_wp2_with (go_at_call 141; refine (unhide HI).mono ?_; rintro e w' ⟨rfl, b4⟩; have HB := hide b4; clear b4)
  go_ret3
  exact ⟨rfl, unhide HB⟩

/-! ### A field's box -/
def FBox (w : World) (q : Nat) (f : Fld) : Prop := w.heap[q]? = some (.cells (fv f) 33 (0, 0))
theorem FBox.cells {w : World} {q : Nat} {f : Fld} (h : FBox w q f) : w.cell? ⟨q, 0, none⟩ = some (sv f.name) ∧ w.cell? ⟨q, 1, none⟩ = some (.bool f.text) ∧ w.cell? ⟨q, 2, none⟩ = some (.int .i64 f.n) ∧ w.cell? ⟨q, 3, none⟩ = some (sv f.s) ∧ ∀ i, w.frozen? ⟨q, i, none⟩ = false :=
  ⟨(cell_of_row _ _ _ _ _ _ h).trans rfl, (cell_of_row _ _ _ _ _ _ h).trans rfl, (cell_of_row _ _ _ _ _ _ h).trans rfl, (cell_of_row _ _ _ _ _ _ h).trans rfl, fun i => by simp [World.frozen?, show w.heap[q]? = _ from h]⟩
theorem FBox.put {w : World} {q : Nat} {f : Fld} (h : FBox w q f) (a : List UInt8) (t : Bool) (n : Int) (s : List UInt8) : FBox ((((w.setCell ⟨q, 0, none⟩ (sv a)).setCell ⟨q, 1, none⟩ (.bool t)).setCell ⟨q, 2, none⟩ (.int .i64 n)).setCell ⟨q, 3, none⟩ (sv s)) q ⟨a, t, n, s⟩ := by
  unfold FBox at h ⊢
  rw [heap_setCell_same _ q 3 _ _ _ (heap_setCell_same _ q 2 _ _ _ (heap_setCell_same _ q 1 _ _ _ (heap_setCell_same w q 0 _ _ _ h)))]
  rfl
theorem FBox.same {w w' : World} {q : Nat} {f : Fld} (h : FBox w q f) (e : w'.heap[q]? = w.heap[q]?) : FBox w' q f := e.trans h
theorem FBox.lt {w : World} {q : Nat} {f : Fld} (h : FBox w q f) : q < w.heap.size := lt_of_block h
theorem FBox.below {B : Nat} {w w' : World} {q : Nat} {f : Fld} (h : FBox w q f) (hb : Below B w w') (hB : w.heap.size ≤ B) : FBox w' q f := h.same (hb.block q (by have := h.lt; omega))
theorem FBox.new (w : World) (f : Fld) : FBox (w.alloc (.cells (fv f) 33)) w.heap.size f := heap_alloc_new _ _
theorem below_put {B : Nat} {a w : World} (h : Below B a w) {q : Nat} (hq : B ≤ q) (x : List UInt8) (t : Bool) (n : Int) (s : List UInt8) : Below B a ((((w.setCell ⟨q, 0, none⟩ (sv x)).setCell ⟨q, 1, none⟩ (.bool t)).setCell ⟨q, 2, none⟩ (.int .i64 n)).setCell ⟨q, 3, none⟩ (sv s)) :=
  (((h.setCell (p := ⟨q, 0, none⟩) hq _).setCell (p := ⟨q, 1, none⟩) hq _).setCell (p := ⟨q, 2, none⟩) hq _).setCell (p := ⟨q, 3, none⟩) hq _
theorem results_ct {P : Program} {fn : Func} {p u : Tmp} {ty : TypeId} (h : fn.results = #[.cell p ty, .tmp u]) (tmps : Array Value) (w : World) (g : Nat) (t : TypeId) (cs : Array Value) (fr : Nat × Nat) (d : TypeDesc) (x : Value)
    (hp : tmps.getD p undef = .pointer (some ⟨g, 0, none⟩)) (hx : tmps.getD u undef = x) (hg : w.heap[g]? = some (.cells cs t fr))
    (hu : P.underlying ty = some d) (hd : (match d with | .struct _ | .array _ _ => true | _ => false) = true) (hi : (P.info? ty).map (·.size) = some cs.size) :
    (results fn tmps).run P w = .ok (.tuple #[.agg cs, x]) w := by
  rw [results_cell_tmp h, hp, hx]
  simp [asAddr, Result.andThen, run_loadVar_row w g t ty cs fr d hg hu hd hi]
theorem sizeField : (Tryz.prog.info? 33).map (·.size) = some 4 := by kernel_rfl
end Go.Proofs.YtkgepklmhdjjnaaGreatDoor

/-
  DERIVED. The walk of readValue.
-/
namespace Go.Proofs.YtkgepklmhdjjnaaGreatDoor
open Go.RowKit
set_option linter.unusedVariables false

/-- A number's text. -/
def readNum (v : List UInt8) : Option Int := match Lib.atoiAll v with
  | .ok n => if Lib.itoa n = v then some n else none
  | _ => none
/-- A text's text, without its quote. -/
def readTxt (r : List UInt8) : Option (List UInt8) := match unesc r with
  | some s => if s.length ≤ 200 then some s else none
  | none => none
/-- A value's text: a field without a name. -/
def readV (v : List UInt8) : Option Fld := match v with
  | [] => none
  | c :: r => if c = 39 then (readTxt r).map (fun s => ⟨[], true, 0, s⟩) else (readNum (c :: r)).map (fun n => ⟨[], false, n, []⟩)

/-- What readValue hands out: a field, and whether it is one. -/
def RvPost (w : World) (o : Option Fld) (e : Ending) (w' : World) : Prop :=
  ∃ f : Fld, e = .returned (.tuple #[.agg (fv f), .bool o.isSome]) ∧ (∀ g, o = some g → f = g) ∧ Below w.heap.size w w'

theorem prefix_yes (r : List UInt8) : Lib.trimPrefix (⟨(39 :: r).toArray⟩ : ByteArray).data.toList (⟨#[39]⟩ : ByteArray).data.toList = r ∧ Lib.hasPrefix (⟨(39 :: r).toArray⟩ : ByteArray).data.toList (⟨#[39]⟩ : ByteArray).data.toList = true := by
  simp [Lib.trimPrefix, Lib.hasPrefix]
theorem prefix_no (v : List UInt8) (h : ∀ r, v ≠ 39 :: r) : Lib.trimPrefix (⟨v.toArray⟩ : ByteArray).data.toList (⟨#[39]⟩ : ByteArray).data.toList = v ∧ Lib.hasPrefix (⟨v.toArray⟩ : ByteArray).data.toList (⟨#[39]⟩ : ByteArray).data.toList = false := by
  have : Lib.hasPrefix v [39] = false := by
    unfold Lib.hasPrefix
    rcases v with _ | ⟨c, r⟩
    · rfl
    · have hc : ¬ 39 = c := fun e => h r (by rw [e])
      simp [List.isPrefixOf, hc]
  simp [Lib.trimPrefix, this]

theorem Prefix_yes (r : List UInt8) (w : World) :
    Calls Tryz.prog 142 #[sv (39 :: r), .string ⟨#[39]⟩] w fun e w' => e = .returned (.tuple #[sv r, .bool true]) ∧ w = w' := by
  have := Tryz.strings_CutPrefix ⟨(39 :: r).toArray⟩ ⟨#[39]⟩ w
  rw [(prefix_yes r).1, (prefix_yes r).2] at this
  exact this.mono (fun e w' h => ⟨h.1, h.2.symm⟩)
theorem Prefix_no (v : List UInt8) (h : ∀ r, v ≠ 39 :: r) (w : World) :
    Calls Tryz.prog 142 #[sv v, .string ⟨#[39]⟩] w fun e w' => e = .returned (.tuple #[sv v, .bool false]) ∧ w = w' := by
  have := Tryz.strings_CutPrefix ⟨v.toArray⟩ ⟨#[39]⟩ w
  rw [(prefix_no v h).1, (prefix_no v h).2] at this
  exact this.mono (fun e w' h => ⟨h.1, h.2.symm⟩)

abbrev fld0 : Fld := ⟨[], false, 0, []⟩

set_option maxHeartbeats 2000000 in
theorem rv_none (r : List UInt8) (w : World) (hr : r.length ≤ 140737488355328) (hu : unesc r = none) :
    Calls Tryz.prog 84 #[sv (39 :: r)] w fun e w' => e = .returned (.tuple #[.agg (fv ⟨[], true, 0, []⟩), .bool false]) ∧ Below w.heap.size w w' := by
  have HU : Hid (∀ W, Calls Tryz.prog 13 #[sv r] W fun e w' => e = .returned (.tuple #[sv [], .bool false]) ∧ Below W.heap.size W w') := hide (fun W => by have := Unescape_any r W hr; rw [hu] at this; exact this)
  have HP := hide (Prefix_yes r)
  obtain ⟨v, hv⟩ : ∃ v, v = 39 :: r := ⟨_, rfl⟩
  rw [← hv] at HP ⊢
  clear hu hv
  go_enter Tryz.func84, Tryz.ntmps84
  go_upto_region 1 with fail
  have hb1 : Below w.heap.size w (w.alloc (.cells (fv fld0) 33)) := (Below.refl _ _).alloc (Nat.le_refl _) _
  have hf1 := FBox.new w fld0
  obtain ⟨w1, hw1⟩ : ∃ w1, w1 = w.alloc (.cells (fv fld0) 33) := ⟨_, rfl⟩
  rw [← hw1] at hb1 hf1
  rw [show w.alloc (.cells #[Value.string ⟨#[]⟩, .bool false, .int .i64 0, Value.string ⟨#[]⟩] 33) = w1 from hw1.symm]
  have HB1 := hide hb1
  have HF1 := hide hf1
  clear hw1 hb1 hf1
  go_upto_region 4 with (first | (go_at_call 142; refine (unhide HP _).mono ?_; rintro e w' ⟨rfl, rfl⟩) | (go_at_call 13; refine (unhide HU _).mono ?_; rintro e w2 ⟨rfl, b2⟩; have HB2 := hide ((unhide HB1).trans (b2.mono (unhide HB1).size)); have HF2 := hide ((unhide HF1).below b2 (Nat.le_refl _)); clear b2))
  obtain ⟨c0, c1, c2, c3, cf⟩ := (unhide HF2).cells
  have HE := hide ((unhide HF2).put [] true 0 [])
  have BE := hide (below_put (unhide HB2) (Nat.le_refl _) [] true 0 [])
  go_wp2
  exact bodyPost_ret (results_ct rfl _ _ w.heap.size 33 (fv ⟨[], true, 0, []⟩) (0, 0) _ (.bool false) rfl rfl (unhide HE) Tryz.underlying33 rfl sizeField) rfl ⟨rfl, unhide BE⟩


set_option maxHeartbeats 2000000 in
theorem rv_some (r : List UInt8) (w : World) (hr : r.length ≤ 140737488355328) (s : List UInt8) (hu : unesc r = some s) :
    Calls Tryz.prog 84 #[sv (39 :: r)] w fun e w' => e = .returned (.tuple #[.agg (fv ⟨[], true, 0, s⟩), .bool (decide ((s.length : Int) ≤ 200))]) ∧ Below w.heap.size w w' := by
  have HU : Hid (∀ W, Calls Tryz.prog 13 #[sv r] W fun e w' => e = .returned (.tuple #[sv s, .bool true]) ∧ Below W.heap.size W w') := hide (fun W => by have := Unescape_any r W hr; rw [hu] at this; exact this)
  have HP := hide (Prefix_yes r)
  obtain ⟨v, hv⟩ : ∃ v, v = 39 :: r := ⟨_, rfl⟩
  rw [← hv] at HP ⊢
  clear hu hv
  go_enter Tryz.func84, Tryz.ntmps84
  go_upto_region 1 with fail
  have hb1 : Below w.heap.size w (w.alloc (.cells (fv fld0) 33)) := (Below.refl _ _).alloc (Nat.le_refl _) _
  have hf1 := FBox.new w fld0
  obtain ⟨w1, hw1⟩ : ∃ w1, w1 = w.alloc (.cells (fv fld0) 33) := ⟨_, rfl⟩
  rw [← hw1] at hb1 hf1
  rw [show w.alloc (.cells #[Value.string ⟨#[]⟩, .bool false, .int .i64 0, Value.string ⟨#[]⟩] 33) = w1 from hw1.symm]
  have HB1 := hide hb1
  have HF1 := hide hf1
  clear hw1 hb1 hf1
  go_upto_region 4 with (first | (go_at_call 142; refine (unhide HP _).mono ?_; rintro e w' ⟨rfl, rfl⟩) | (go_at_call 13; refine (unhide HU _).mono ?_; rintro e w2 ⟨rfl, b2⟩; have HB2 := hide ((unhide HB1).trans (b2.mono (unhide HB1).size)); have HF2 := hide ((unhide HF1).below b2 (Nat.le_refl _)); clear b2))
  obtain ⟨c0, c1, c2, c3, cf⟩ := (unhide HF2).cells
  have HE := hide ((unhide HF2).put [] true 0 s)
  have BE := hide (below_put (unhide HB2) (Nat.le_refl _) [] true 0 s)
  go_wp2
  exact bodyPost_ret (results_ct rfl _ _ w.heap.size 33 (fv ⟨[], true, 0, s⟩) (0, 0) _ (.bool (decide ((s.length : Int) ≤ 200))) rfl rfl (unhide HE) Tryz.underlying33 rfl sizeField) rfl ⟨rfl, unhide BE⟩

end Go.Proofs.YtkgepklmhdjjnaaGreatDoor

/-
  DERIVED. The walk of readValue at numbers; readValue_any.
-/
namespace Go.Proofs.YtkgepklmhdjjnaaGreatDoor
open Go.RowKit
set_option linter.unusedVariables false

theorem Atoi_ok (v : List UInt8) (n : Int) (hl : v.length ≤ 281474976710656) (h : Lib.atoiAll v = .ok n) (w : World) :
    Calls Tryz.prog 143 #[sv v] w fun e w' => e = .returned (.tuple #[.int .i64 n, .nilIface]) ∧ Below w.heap.size w w' := by
  refine (Tryz.strconv_Atoi_ok ⟨v.toArray⟩ (by show v.toArray.size ≤ _; simp; omega) n h w).mono ?_
  rintro e w' ⟨rfl, rfl | ⟨t, rfl⟩⟩
  · exact ⟨rfl, Below.refl _ _⟩
  · exact ⟨rfl, Go.Joins.below_bytesWorld _ _ _ _ (Nat.le_refl _)⟩
theorem Atoi_no (v : List UInt8) (hl : v.length ≤ 281474976710656) (h : ∀ n, Lib.atoiAll v ≠ .ok n) (w : World) (hva : Vars w) :
    Calls Tryz.prog 143 #[sv v] w fun e w' => ∃ (m : Int) (t : TypeId) (p : Value), e = .returned (.tuple #[.int .i64 m, .iface t p]) ∧ Below w.heap.size w w' := by
  have hz : (⟨v.toArray⟩ : ByteArray).size ≤ 281474976710656 := by show v.toArray.size ≤ _; simp; omega
  obtain ⟨_, ⟨t1, p1, h2⟩, ⟨t2, p2, h3⟩⟩ := hva
  cases ha : Lib.atoiAll v with
  | ok n => exact absurd ha (h n)
  | «syntax» =>
    refine (Tryz.strconv_Atoi_syntax ⟨v.toArray⟩ hz ha _ w h2 (.inr ⟨_, _, rfl⟩)).mono ?_
    rintro e w' ⟨N, rfl, _, _, hb⟩
    exact ⟨_, _, _, rfl, hb⟩
  | range =>
    refine (Tryz.strconv_Atoi_range ⟨v.toArray⟩ hz ha _ w h3 (.inr ⟨_, _, rfl⟩)).mono ?_
    rintro e w' ⟨N, rfl, _, _, hb⟩
    exact ⟨_, _, _, rfl, hb⟩

theorem atoi_bounds {v : List UInt8} {n : Int} (h : Lib.atoiAll v = .ok n) : -9223372036854775808 ≤ n ∧ n ≤ 9223372036854775807 := Lib.atoiAll_bounds h

set_option maxHeartbeats 2000000 in
theorem rv_num (v : List UInt8) (w : World) (hl : v.length ≤ 281474976710656) (hp : ∀ r, v ≠ 39 :: r) (n : Int) (ha : Lib.atoiAll v = .ok n) (hva : Vars w) (b : Bool) (hb : (Lib.itoa n == v) = b) :
    Calls Tryz.prog 84 #[sv v] w fun e w' => e = .returned (.tuple #[.agg (fv ⟨[], false, n, []⟩), .bool b]) ∧ Below w.heap.size w w' := by
  have HP := hide (Prefix_no v hp)
  have HA := hide (Atoi_ok v n hl ha)
  obtain ⟨n0, n1⟩ := atoi_bounds ha
  have HI : Hid (∀ W, Below w.heap.size w W → Calls Tryz.prog 130 #[.int .i64 n] W fun e w' => e = .returned (sv (Lib.itoa n)) ∧ Below W.heap.size W w') := hide (fun W hW => Itoa_go n n0 n1 W (hva.below hW (Nat.le_refl _)))
  clear hp ha hva
  go_enter Tryz.func84, Tryz.ntmps84
  go_upto_region 1 with fail
  have hb1 : Below w.heap.size w (w.alloc (.cells (fv fld0) 33)) := (Below.refl _ _).alloc (Nat.le_refl _) _
  have hf1 := FBox.new w fld0
  obtain ⟨w1, hw1⟩ : ∃ w1, w1 = w.alloc (.cells (fv fld0) 33) := ⟨_, rfl⟩
  rw [← hw1] at hb1 hf1
  rw [show w.alloc (.cells #[Value.string ⟨#[]⟩, .bool false, .int .i64 0, Value.string ⟨#[]⟩] 33) = w1 from hw1.symm]
  have HB1 := hide hb1
  have HF1 := hide hf1
  clear hw1 hb1 hf1
  go_wp2_with (first | (go_at_call 142; refine (unhide HP _).mono ?_; rintro e w' ⟨rfl, rfl⟩) | (go_at_call 143; refine (unhide HA _).mono ?_; rintro e w2 ⟨rfl, b2⟩; have HB2 := hide ((unhide HB1).trans (b2.mono (unhide HB1).size)); have HF2 := hide ((unhide HF1).below b2 (Nat.le_refl _)); clear b2) | (go_at_call 130; refine (unhide HI _ (unhide HB2)).mono ?_; rintro e w3 ⟨rfl, b3⟩; have HB3 := hide ((unhide HB2).trans (b3.mono (unhide HB2).size)); have HF3 := hide ((unhide HF2).below b3 (Nat.le_refl _)); obtain ⟨c0, c1, c2, c3, cf⟩ := (unhide HF3).cells; have HE := hide ((unhide HF3).put [] false n []); have BE := hide (below_put (unhide HB3) (Nat.le_refl _) [] false n []); clear b3))
  exact bodyPost_ret (results_ct rfl _ _ w.heap.size 33 (fv ⟨[], false, n, []⟩) (0, 0) _ (.bool b) rfl rfl (unhide HE) Tryz.underlying33 rfl sizeField) rfl ⟨rfl, unhide BE⟩

set_option maxHeartbeats 2000000 in
theorem rv_bad (v : List UInt8) (w : World) (hl : v.length ≤ 281474976710656) (hp : ∀ r, v ≠ 39 :: r) (ha : ∀ n, Lib.atoiAll v ≠ .ok n) (hva : Vars w) :
    Calls Tryz.prog 84 #[sv v] w fun e w' => ∃ n, e = .returned (.tuple #[.agg (fv ⟨[], false, n, []⟩), .bool false]) ∧ Below w.heap.size w w' := by
  have HP := hide (Prefix_no v hp)
  have HA : Hid (∀ W, Below w.heap.size w W → Calls Tryz.prog 143 #[sv v] W fun e w' => ∃ (m : Int) (t : TypeId) (p : Value), e = .returned (.tuple #[.int .i64 m, .iface t p]) ∧ Below W.heap.size W w') := hide (fun W hW => Atoi_no v hl ha W (hva.below hW (Nat.le_refl _)))
  clear hp ha hva
  go_enter Tryz.func84, Tryz.ntmps84
  go_upto_region 1 with fail
  have hb1 : Below w.heap.size w (w.alloc (.cells (fv fld0) 33)) := (Below.refl _ _).alloc (Nat.le_refl _) _
  have hf1 := FBox.new w fld0
  obtain ⟨w1, hw1⟩ : ∃ w1, w1 = w.alloc (.cells (fv fld0) 33) := ⟨_, rfl⟩
  rw [← hw1] at hb1 hf1
  rw [show w.alloc (.cells #[Value.string ⟨#[]⟩, .bool false, .int .i64 0, Value.string ⟨#[]⟩] 33) = w1 from hw1.symm]
  have HB1 := hide hb1
  have HF1 := hide hf1
  clear hw1 hb1 hf1
  go_wp2_with (first | (go_at_call 142; refine (unhide HP _).mono ?_; rintro e w' ⟨rfl, rfl⟩) | (go_at_call 143; refine (unhide HA _ (unhide HB1)).mono ?_; rintro e w2 ⟨n, t, p, rfl, b2⟩; have HB2 := hide ((unhide HB1).trans (b2.mono (unhide HB1).size)); have HF2 := hide ((unhide HF1).below b2 (Nat.le_refl _)); obtain ⟨c0, c1, c2, c3, cf⟩ := (unhide HF2).cells; have HE := hide ((unhide HF2).put [] false n []); have BE := hide (below_put (unhide HB2) (Nat.le_refl _) [] false n []); clear b2))
  exact bodyPost_ret (results_ct rfl _ _ w.heap.size 33 (fv ⟨[], false, n, []⟩) (0, 0) _ (.bool false) rfl rfl (unhide HE) Tryz.underlying33 rfl sizeField) rfl ⟨n, rfl, unhide BE⟩

theorem readValue_any (v : List UInt8) (w : World) (hl : v.length ≤ 140737488355328) (hva : Vars w) :
    Calls Tryz.prog 84 #[sv v] w (RvPost w (readV v)) := by
  by_cases hp : ∃ r, v = 39 :: r
  · obtain ⟨r, rfl⟩ := hp
    have hr : r.length ≤ 140737488355328 := by simp at hl; omega
    have e : readV (39 :: r) = (readTxt r).map (fun s => ⟨[], true, 0, s⟩) := rfl
    rw [e]
    cases hu : unesc r with
    | none =>
      refine (rv_none r w hr hu).mono ?_
      rintro e w' ⟨rfl, hb⟩
      exact ⟨⟨[], true, 0, []⟩, by simp [readTxt, hu], fun g hg => by simp [readTxt, hu] at hg, hb⟩
    | some s =>
      refine (rv_some r w hr s hu).mono ?_
      rintro e w' ⟨rfl, hb⟩
      refine ⟨⟨[], true, 0, s⟩, ?_, ?_, hb⟩
      · by_cases h : s.length ≤ 200
        · have : ((s.length : Int) ≤ 200) := by omega
          simp [readTxt, hu, h, this]
        · have : ¬ ((s.length : Int) ≤ 200) := by omega
          simp [readTxt, hu, h, this]
      · intro g hg
        by_cases h : s.length ≤ 200
        · simp [readTxt, hu, h] at hg; exact hg
        · simp [readTxt, hu, h] at hg
  · have hp' : ∀ r, v ≠ 39 :: r := fun r h => hp ⟨r, h⟩
    have e : readV v = (readNum v).map (fun n => ⟨[], false, n, []⟩) := by
      rcases v with _ | ⟨c, r⟩
      · rfl
      · have : ¬ c = 39 := fun e => hp' r (by rw [e])
        simp [readV, this]
    rw [e]
    by_cases hn : ∃ n, Lib.atoiAll v = .ok n
    · obtain ⟨n, hn⟩ := hn
      refine (rv_num v w (by omega) hp' n hn hva _ rfl).mono ?_
      rintro e w' ⟨rfl, hb⟩
      refine ⟨⟨[], false, n, []⟩, ?_, ?_, hb⟩
      · by_cases h : Lib.itoa n = v
        · simp [readNum, hn, h]
        · simp [readNum, hn, h]
      · intro g hg
        by_cases h : Lib.itoa n = v
        · simp [readNum, hn, h] at hg; exact hg
        · simp [readNum, hn, h] at hg
    · have hn' : ∀ n, Lib.atoiAll v ≠ .ok n := fun n h => hn ⟨n, h⟩
      have hr : readNum v = none := by
        unfold readNum
        split
        · rename_i n h; exact absurd h (hn' n)
        · rfl
      rw [hr]
      refine (rv_bad v w (by omega) hp' hn' hva).mono ?_
      rintro e w' ⟨n, rfl, hb⟩
      exact ⟨⟨[], false, n, []⟩, rfl, (fun g hg => by cases hg), hb⟩
end Go.Proofs.YtkgepklmhdjjnaaGreatDoor

/-
  DERIVED. The walk of readField.
-/
namespace Go.Proofs.YtkgepklmhdjjnaaGreatDoor
open Go.RowKit
set_option linter.unusedVariables false

/-- A value that has a name. -/
def namedF (nm : List UInt8) : Option Fld → Except Int Fld
  | none => .error 122
  | some f => .ok ⟨nm, f.text, f.n, f.s⟩
/-- What a part tells. -/
def readP (p : List UInt8) : Except Int Fld := match (cutA 61 p).2 with
  | none => .error 121
  | some v => if nameB (cutA 61 p).1 then namedF (cutA 61 p).1 (readV v) else .error 121
def errN : Except Int Fld → Int
  | .error n => n
  | .ok _ => 0
def RfPost (w : World) (o : Except Int Fld) (e : Ending) (w' : World) : Prop :=
  ∃ f : Fld, e = .returned (.tuple #[.agg (fv f), .int .i64 (errN o)]) ∧ (∀ g, o = .ok g → f = g) ∧ Below w.heap.size w w'

theorem cutA_len (c : UInt8) (s : List UInt8) : (cutA c s).1.length ≤ s.length ∧ ((cutA c s).2.getD []).length ≤ s.length := by
  induction s with
  | nil => simp [cutA]
  | cons d r ih =>
    unfold cutA
    split
    · simp
    · simp; omega

set_option maxHeartbeats 1000000 in
theorem Clone_any (s : List UInt8) (w : World) (hs : s.length ≤ 281474976710656) :
    Calls Tryz.prog 85 #[sv s] w fun e w' => e = .returned (sv s) ∧ Below w.heap.size w w' := by
  have HC := hide (Tryz.stringslite_Clone ⟨s.toArray⟩ w (by show s.toArray.size ≤ _; simp; omega))
  go_enter Tryz.func85, Tryz.ntmps85
  go_wp2_with (go_at_call 144; refine (unhide HC).mono ?_; rintro e w' ⟨rfl, b4⟩; have HB := hide b4; clear b4)
  go_ret
  exact ⟨rfl, unhide HB⟩

theorem FBox.put0 {w : World} {q : Nat} {f : Fld} (h : FBox w q f) (a : List UInt8) : FBox (w.setCell ⟨q, 0, none⟩ (sv a)) q ⟨a, f.text, f.n, f.s⟩ := by
  unfold FBox at h ⊢
  rw [heap_setCell_same w q 0 _ _ _ h]
  rfl
theorem FBox.set0 {w : World} {b : Nat} {f : Fld} (h : FBox w b f) (q : Nat) (hq : q ≠ b) (x : Value) : FBox (w.setCell ⟨q, 0, none⟩ x) b f := by
  exact h.same (heap_setCell_other _ _ _ _ (Ne.symm hq))

set_option maxHeartbeats 2000000 in
theorem rf_name (p nm v : List UInt8) (there : Bool) (w : World) (hp : p.length ≤ 9223372036854775000) (hnm : nm.length ≤ 9223372036854775807) (hc : ∀ W, Calls Tryz.prog 83 #[sv p, .string ⟨#[61]⟩] W fun e w' => e = .returned (.tuple #[sv nm, sv v, .bool there]) ∧ Below W.heap.size W w') (hbad : there = false ∨ nameB nm = false) :
    Calls Tryz.prog 38 #[sv p] w fun e w' => e = .returned (.tuple #[.agg (fv fld0), .int .i64 121]) ∧ Below w.heap.size w w' := by
  have HC := hide hc
  clear hc
  have hcase : there = false ∨ (there = true ∧ nameB nm = false) := by
    cases there with
    | false => exact .inl rfl
    | true => exact .inr ⟨rfl, hbad.resolve_left (by simp)⟩
  clear hbad
  rcases hcase with rfl | ⟨rfl, hn⟩
  · go_enter Tryz.func38, Tryz.ntmps38
    go_upto_region 1 with fail
    have hb1 : Below w.heap.size w (w.alloc (.cells (fv fld0) 33)) := (Below.refl _ _).alloc (Nat.le_refl _) _
    have hf1 := FBox.new w fld0
    obtain ⟨w1, hw1⟩ : ∃ w1, w1 = w.alloc (.cells (fv fld0) 33) := ⟨_, rfl⟩
    rw [← hw1] at hb1 hf1
    rw [show w.alloc (.cells #[Value.string ⟨#[]⟩, .bool false, .int .i64 0, Value.string ⟨#[]⟩] 33) = w1 from hw1.symm]
    have HB1 := hide hb1
    have HF1 := hide hf1
    clear hw1 hb1 hf1
    go_wp2_with (first | (go_at_call 83; refine (unhide HC _).mono ?_; rintro e w2 ⟨rfl, b2⟩; have HB2 := hide ((unhide HB1).trans (b2.mono (unhide HB1).size)); have HF2 := hide ((unhide HF1).below b2 (Nat.le_refl _)); obtain ⟨c0, c1, c2, c3, cf⟩ := (unhide HF2).cells; have HE := hide ((unhide HF2).put [] false 0 []); have BE := hide (below_put (unhide HB2) (Nat.le_refl _) [] false 0 []); clear b2))
    exact bodyPost_ret (results_ct rfl _ _ w.heap.size 33 (fv fld0) (0, 0) _ (.int .i64 121) rfl rfl (unhide HE) Tryz.underlying33 rfl sizeField) rfl ⟨rfl, unhide BE⟩
  · have HN := hide hn
    clear hn
    go_enter Tryz.func38, Tryz.ntmps38
    go_upto_region 1 with fail
    have hb1 : Below w.heap.size w (w.alloc (.cells (fv fld0) 33)) := (Below.refl _ _).alloc (Nat.le_refl _) _
    have hf1 := FBox.new w fld0
    obtain ⟨w1, hw1⟩ : ∃ w1, w1 = w.alloc (.cells (fv fld0) 33) := ⟨_, rfl⟩
    rw [← hw1] at hb1 hf1
    rw [show w.alloc (.cells #[Value.string ⟨#[]⟩, .bool false, .int .i64 0, Value.string ⟨#[]⟩] 33) = w1 from hw1.symm]
    have HB1 := hide hb1
    have HF1 := hide hf1
    clear hw1 hb1 hf1
    go_wp2_with (first | (go_at_call 83; refine (unhide HC _).mono ?_; rintro e w2 ⟨rfl, b2⟩; have HB2 := hide ((unhide HB1).trans (b2.mono (unhide HB1).size)); have HF2 := hide ((unhide HF1).below b2 (Nat.le_refl _)); obtain ⟨c0, c1, c2, c3, cf⟩ := (unhide HF2).cells; have HE := hide ((unhide HF2).put [] false 0 []); have BE := hide (below_put (unhide HB2) (Nat.le_refl _) [] false 0 []); clear b2) | (go_at_call 17; refine (Name_any nm _ hnm).mono ?_; rintro e w' ⟨rfl, rfl⟩; rw [unhide HN]))
    exact bodyPost_ret (results_ct rfl _ _ w.heap.size 33 (fv fld0) (0, 0) _ (.int .i64 121) rfl rfl (unhide HE) Tryz.underlying33 rfl sizeField) rfl ⟨rfl, unhide BE⟩

set_option maxHeartbeats 4000000 in
theorem rf_val (p nm v : List UInt8) (w : World) (hp : p.length ≤ 9223372036854775000) (hnm : nm.length ≤ 281474976710656) (hc : ∀ W, Calls Tryz.prog 83 #[sv p, .string ⟨#[61]⟩] W fun e w' => e = .returned (.tuple #[sv nm, sv v, .bool true]) ∧ Below W.heap.size W w') (hn : nameB nm = true)
    (o : Option Fld) (hv : ∀ W, Below w.heap.size w W → Calls Tryz.prog 84 #[sv v] W (RvPost W o)) :
    Calls Tryz.prog 38 #[sv p] w (RfPost w (namedF nm o)) := by
  have HC := hide hc
  have HN := hide hn
  have HVal := hide hv
  clear hc hn hv
  rcases o with _ | ⟨gn, gt, gi, gs⟩
  · go_enter Tryz.func38, Tryz.ntmps38
    go_upto_region 1 with fail
    have hb1 : Below w.heap.size w (w.alloc (.cells (fv fld0) 33)) := (Below.refl _ _).alloc (Nat.le_refl _) _
    have hf1 := FBox.new w fld0
    obtain ⟨w1, hw1⟩ : ∃ w1, w1 = w.alloc (.cells (fv fld0) 33) := ⟨_, rfl⟩
    rw [← hw1] at hb1 hf1
    rw [show w.alloc (.cells #[Value.string ⟨#[]⟩, .bool false, .int .i64 0, Value.string ⟨#[]⟩] 33) = w1 from hw1.symm]
    have HB1 := hide hb1
    have HF1 := hide hf1
    clear hw1 hb1 hf1
    go_wp2_with (first | (go_at_call 83; refine (unhide HC _).mono ?_; rintro e w2 ⟨rfl, b2⟩; have HB2 := hide ((unhide HB1).trans (b2.mono (unhide HB1).size)); have HF2 := hide ((unhide HF1).below b2 (Nat.le_refl _)); clear b2) | (go_at_call 17; refine (Name_any nm _ (by omega)).mono ?_; rintro e w' ⟨rfl, rfl⟩; rw [unhide HN]) | (go_at_call 84; refine (unhide HVal _ (unhide HB2)).mono ?_; rintro e w3 ⟨⟨an, ak, ai, az⟩, rfl, -, b3⟩; have HB3 := hide (((unhide HB2).trans (b3.mono (unhide HB2).size)).alloc (Nat.le_trans (unhide HB2).size b3.size) (.cells (fv ⟨an, ak, ai, az⟩) 33)); have HF3 := hide (((unhide HF2).below b3 (Nat.le_refl _)).below ((Below.refl _ _).alloc (Nat.le_refl _) (.cells (fv ⟨an, ak, ai, az⟩) 33)) (Nat.le_refl _)); obtain ⟨c0, c1, c2, c3, cf⟩ := (unhide HF3).cells; have HE := hide ((unhide HF3).put [] false 0 []); have BE := hide (below_put (unhide HB3) (Nat.le_refl _) [] false 0 []); clear b3))
    exact bodyPost_ret (results_ct rfl _ _ w.heap.size 33 (fv fld0) (0, 0) _ (.int .i64 122) rfl rfl (unhide HE) Tryz.underlying33 rfl sizeField) rfl ⟨fld0, rfl, (fun g hg => by cases hg), unhide BE⟩
  · go_enter Tryz.func38, Tryz.ntmps38
    go_upto_region 1 with fail
    have hb1 : Below w.heap.size w (w.alloc (.cells (fv fld0) 33)) := (Below.refl _ _).alloc (Nat.le_refl _) _
    have hf1 := FBox.new w fld0
    obtain ⟨w1, hw1⟩ : ∃ w1, w1 = w.alloc (.cells (fv fld0) 33) := ⟨_, rfl⟩
    rw [← hw1] at hb1 hf1
    rw [show w.alloc (.cells #[Value.string ⟨#[]⟩, .bool false, .int .i64 0, Value.string ⟨#[]⟩] 33) = w1 from hw1.symm]
    have HB1 := hide hb1
    have HF1 := hide hf1
    clear hw1 hb1 hf1
    go_upto_region 7 with (first | (go_at_call 83; refine (unhide HC _).mono ?_; rintro e w2 ⟨rfl, b2⟩; have HB2 := hide ((unhide HB1).trans (b2.mono (unhide HB1).size)); have HF2 := hide ((unhide HF1).below b2 (Nat.le_refl _)); clear b2) | (go_at_call 17; refine (Name_any nm _ (by omega)).mono ?_; rintro e w' ⟨rfl, rfl⟩; rw [unhide HN]) | (go_at_call 84; refine (unhide HVal _ (unhide HB2)).mono ?_; rintro e w3 ⟨f, rfl, hf, b3⟩; obtain rfl := hf _ rfl; have HB3 := hide ((unhide HB2).trans (b3.mono (unhide HB2).size)); have HF3 := hide ((unhide HF2).below b3 (Nat.le_refl _)); clear b3 hf))
    have hb4 := (unhide HB3).alloc (unhide HB3).size (.cells (fv ⟨gn, gt, gi, gs⟩) 33)
    have hf4 := (unhide HF3).below ((Below.refl _ _).alloc (Nat.le_refl _) (.cells (fv ⟨gn, gt, gi, gs⟩) 33)) (Nat.le_refl _)
    have hg4 := FBox.new w3 ⟨gn, gt, gi, gs⟩
    have hq : w.heap.size < w3.heap.size := (unhide HF3).lt
    obtain ⟨w4, hw4⟩ : ∃ w4, w4 = w3.alloc (.cells (fv ⟨gn, gt, gi, gs⟩) 33) := ⟨_, rfl⟩
    rw [← hw4] at hb4 hf4 hg4
    rw [show w3.alloc (.cells #[Value.string ⟨gn.toArray⟩, .bool gt, .int .i64 gi, Value.string ⟨gs.toArray⟩] 33) = w4 from hw4.symm]
    obtain ⟨q, hqe⟩ : ∃ q, q = w3.heap.size := ⟨_, rfl⟩
    rw [← hqe] at hg4 hq ⊢
    have HB4 := hide hb4
    have HF4 := hide hf4
    have HG4 := hide hg4
    clear hw4 hb4 hf4 hg4 hqe HB3 HF3 HVal HC HN
    go_upto_region 8 with (go_at_call 85; refine (Clone_any nm _ hnm).mono ?_; rintro e w5 ⟨rfl, b5⟩; have HB5 := hide ((unhide HB4).trans (b5.mono (unhide HB4).size)); have HF5 := hide ((unhide HF4).below b5 (Nat.le_refl _)); have HG5 := hide ((unhide HG4).below b5 (Nat.le_refl _)); obtain ⟨g0, g1, g2, g3, gf⟩ := (unhide HG5).cells; clear b5)
    have hb6 := (unhide HB5).setCell (p := ⟨q, 0, none⟩) (Nat.le_of_lt hq) (sv nm)
    have hf6 := (unhide HF5).set0 q (Nat.ne_of_gt hq) (sv nm)
    have hg6 := (unhide HG5).put0 nm
    clear g0 g1 g2 g3 gf
    obtain ⟨w6, hw6⟩ : ∃ w6, w6 = w5.setCell ⟨q, 0, none⟩ (sv nm) := ⟨_, rfl⟩
    rw [← hw6] at hb6 hf6 hg6 ⊢
    obtain ⟨d0, d1, d2, d3, df⟩ := hg6.cells
    obtain ⟨c0, c1, c2, c3, cf⟩ := hf6.cells
    simp only at d0 d1 d2 d3
    have HE := hide (hf6.put nm gt gi gs)
    have BE := hide (below_put hb6 (Nat.le_refl _) nm gt gi gs)
    clear hw6 hb6 hf6 hg6
    go_wp2
    exact bodyPost_ret (results_ct rfl _ _ w.heap.size 33 (fv ⟨nm, gt, gi, gs⟩) (0, 0) _ (.int .i64 0) rfl rfl (unhide HE) Tryz.underlying33 rfl sizeField) rfl ⟨⟨nm, gt, gi, gs⟩, rfl, (fun g hg => by cases hg; rfl), unhide BE⟩

theorem readField_any (p : List UInt8) (w : World) (hp : p.length ≤ 140737488355328) (hva : Vars w) :
    Calls Tryz.prog 38 #[sv p] w (RfPost w (readP p)) := by
  have hc := fun W => Cut_any p 61 W (by omega)
  have hl := cutA_len 61 p
  unfold readP
  obtain ⟨cp, hq⟩ : ∃ cp, cp = cutA 61 p := ⟨_, rfl⟩
  rw [← hq] at hc hl ⊢
  obtain ⟨nm, vo⟩ := cp
  clear hq
  simp only at hl ⊢
  cases vo with
  | none =>
    refine (rf_name p nm [] false w (by omega) (by omega) hc (.inl rfl)).mono ?_
    rintro e w' ⟨rfl, hb⟩
    exact ⟨fld0, rfl, (fun g hg => by cases hg), hb⟩
  | some v =>
    simp only [Option.getD_some] at hl
    cases hn : nameB nm with
    | false =>
      refine (rf_name p nm v true w (by omega) (by omega) hc (.inr hn)).mono ?_
      rintro e w' ⟨rfl, hb⟩
      exact ⟨fld0, rfl, (fun g hg => by cases hg), hb⟩
    | true =>
      exact rf_val p nm v w (by omega) (by omega) hc hn (readV v) (fun W hW => readValue_any v W (by omega) (hva.below hW (Nat.le_refl _)))
end Go.Proofs.YtkgepklmhdjjnaaGreatDoor

/-
  DERIVED. The map of fields that were seen, and the closure of Read.
-/
namespace Go.Proofs.YtkgepklmhdjjnaaGreatDoor
open Go.RowKit Go.Maps
set_option linter.unusedVariables false

def rawE (v : Value) : Option (DataW Value × List MemPlace) := some (.held v, [])
theorem ownsMap_frame {H : Type} {P : Program} {k : TypeId} {R : Value → Option (DataW H × List MemPlace)} {w w' : World} {b n : Nat} {D : DataW H} (h : w.ownsMap P k R b n D) (hk : w'.heap[b]? = w.heap[b]?) : w'.ownsMap P k R b n D := by
  obtain ⟨es, clock, hb, r⟩ := h
  exact ⟨es, clock, hk.trans hb, r⟩
def lit (k : List UInt8) : Lit := .string k
theorem lit_inj {a b : List UInt8} (h : lit a = lit b) : a = b := by unfold lit at h; injection h
theorem lit_key {k : List UInt8} (h : k.length ≤ maxLen) : keyOf Tryz.prog 9 (sv k) = some (lit k) := by
  have hz : (⟨k.toArray⟩ : ByteArray).size ≤ maxLen := h
  exact WideMaps.keyOf_string_mk Tryz.underlying9 hz
theorem lit_is (k : List UInt8) : WideAt.IsKeyLit (lit k) := trivial
theorem keyedS : Keyed Tryz.prog 9 := string_keyed Tryz.underlying9
theorem map_ne {w : World} {m q N : Nat} {D : DataW Value} {cur : Array Value} {t : TypeId} {fr : Nat × Nat} (h : w.ownsMap Tryz.prog 9 rawE m N D) (hq : w.heap[q]? = some (.cells cur t fr)) : q ≠ m := by
  rintro rfl
  obtain ⟨es, clock, hb, _⟩ := h
  rw [hq] at hb; cases hb
theorem zeroFld (w : World) : (zeroValue 33).run Tryz.prog w = .ok (.agg (fv fld0)) w := by kernel_rfl

/-- The field of a name among fields. -/
def getF (S : List Fld) (k : List UInt8) : Option Fld := S.find? (fun f => f.name == k)

/-- The map at block m holds these fields, by their names. -/
def SnAt (w : World) (m : Nat) (S : List Fld) : Prop :=
  ∃ D : DataW Value, w.ownsMap Tryz.prog 9 rawE m S.length D ∧ (∀ k, D.atKey (lit k) (.held (.agg (fv fld0))) = .held (.agg (fv ((getF S k).getD fld0)))) ∧
    (∀ kl, Maps.has D kl = true ↔ ∃ f ∈ S, kl = lit f.name) ∧ Maps.size D = S.length

theorem SnAt.frame {w w' : World} {m : Nat} {S : List Fld} (h : SnAt w m S) (hk : w'.heap[m]? = w.heap[m]?) : SnAt w' m S := by
  obtain ⟨D, h1, h2⟩ := h
  exact ⟨D, ownsMap_frame h1 hk, h2⟩
theorem SnAt.lt {w : World} {m : Nat} {S : List Fld} (h : SnAt w m S) : m < w.heap.size := by
  obtain ⟨D, h1, h2⟩ := h
  exact h1.lt
theorem SnAt.ne {w : World} {m q : Nat} {S : List Fld} (h : SnAt w m S) {cur : Array Value} {t : TypeId} {fr : Nat × Nat} (hq : w.heap[q]? = some (.cells cur t fr)) : q ≠ m := by
  obtain ⟨D, h1, h2⟩ := h
  exact map_ne h1 hq
theorem SnAt.made (w : World) : SnAt (w.alloc (.map #[] 0)) w.heap.size [] :=
  ⟨.map [], World.ownsMap_made w Tryz.prog 9 rawE, fun k => rfl, fun kl => by simp [Maps.has], rfl⟩
theorem SnAt.len {w : World} {m : Nat} {S : List Fld} (h : SnAt w m S) (ty : TypeId) : (Builtin.len_ #[66] ty #[.map (some m)]).run Tryz.prog w = .ok (.int .i64 S.length) w := by
  obtain ⟨D, h1, _, _, h4⟩ := h
  rw [h1.len Tryz.underlying66 ty, h4]
theorem SnAt.look {w : World} {m : Nat} {S : List Fld} (h : SnAt w m S) (k : List UInt8) (hk : k.length ≤ maxLen) :
    (Instr.lookup 66 (.map (some m)) (sv k) true).run Tryz.prog w = .ok (.tuple #[.agg (fv ((getF S k).getD fld0)), .bool (S.any (fun f => f.name == k))]) w := by
  obtain ⟨D, h1, h2, h3, _⟩ := h
  obtain ⟨u, ps, hrun, hv⟩ := h1.look_ok keyedS Tryz.underlying66 (zeroFld w) (zd := .held (.agg (fv fld0))) (zp := []) rfl (lit_key hk)
  rw [h2 k] at hv
  simp only [rawE, Option.some.injEq, Prod.mk.injEq, DataW.held.injEq] at hv
  have he : Maps.has D (lit k) = S.any (fun f => f.name == k) := by
    rw [Bool.eq_iff_iff, h3, List.any_eq_true]
    constructor
    · rintro ⟨f, hf, e⟩; exact ⟨f, hf, by simp [lit_inj e]⟩
    · rintro ⟨f, hf, e⟩; exact ⟨f, hf, by rw [beq_iff_eq.1 e]⟩
  rw [hrun, hv.1, he]
theorem SnAt.look1 {w : World} {m : Nat} {S : List Fld} (h : SnAt w m S) (k : List UInt8) (hk : k.length ≤ maxLen) :
    (Instr.lookup 66 (.map (some m)) (sv k) false).run Tryz.prog w = .ok (.agg (fv ((getF S k).getD fld0))) w := by
  obtain ⟨D, h1, h2, h3, _⟩ := h
  obtain ⟨u, ps, hrun, hv⟩ := h1.lookup keyedS Tryz.underlying66 (zeroFld w) (zd := .held (.agg (fv fld0))) (zp := []) rfl (lit_key hk)
  rw [h2 k] at hv
  simp only [rawE, Option.some.injEq, Prod.mk.injEq, DataW.held.injEq] at hv
  rw [hrun, hv.1]

theorem SnAt.put {w : World} {m : Nat} {S : List Fld} (h : SnAt w m S) (f : Fld) (hk : f.name.length ≤ maxLen) (hn : S.any (fun g => g.name == f.name) = false) (hS : S.length < 1000) :
    ∃ w', (Instr.mapUpdate 66 (.map (some m)) (sv f.name) (.agg (fv f))).run Tryz.prog w = .ok () w' ∧ SnAt w' m (S ++ [f]) ∧ w.grownBy w' (some m) := by
  obtain ⟨D, h1, h2, h3, h4⟩ := h
  obtain ⟨w', hrun, ho, hg⟩ := h1.update keyedS Tryz.underlying66 (val := .agg (fv f)) (by unfold maxLen; omega) (lit_key hk) rfl
  have hmap : IsMap D := by obtain ⟨es, clock, _, _, _, e⟩ := h1; exact ⟨_, e⟩
  have hne : ∀ j, j ≠ f.name → lit j ≠ lit f.name := fun j hj e => hj (lit_inj e)
  have hno : ∀ g ∈ S, g.name ≠ f.name := fun g hg e => by
    have := List.any_eq_false.1 hn g hg
    simp [e] at this
  have hh : Maps.has D (lit f.name) = false := by
    rw [Bool.eq_false_iff]
    intro e
    obtain ⟨g, hg, e2⟩ := (h3 _).1 e
    exact hno g hg (lit_inj e2).symm
  refine ⟨w', hrun, ⟨_, (by rw [List.length_append]; exact ho), ?_, ?_, ?_⟩, hg⟩
  · intro k
    unfold getF
    rw [List.find?_append]
    by_cases e : k = f.name
    · subst e
      rw [atKey_put_same hmap (lit_is _)]
      have : S.find? (fun g => g.name == f.name) = none := by
        rw [List.find?_eq_none]; intro g hg; simpa using hno g hg
      rw [this]; simp
    · rw [atKey_put_other (hne k e), h2 k]
      have : [f].find? (fun g => g.name == k) = none := by simp; exact fun e' => e e'.symm
      rw [this, Option.or_none]; rfl
  · intro kl
    by_cases e : kl = lit f.name
    · subst e
      exact ⟨fun _ => ⟨f, by simp, rfl⟩, fun _ => has_put_same hmap (lit_is _) _⟩
    · rw [has_put_other e, h3]
      constructor
      · rintro ⟨g, hg, rfl⟩; exact ⟨g, by simp [hg], rfl⟩
      · rintro ⟨g, hg, rfl⟩
        rcases List.mem_append.1 hg with hg | hg
        · exact ⟨g, hg, rfl⟩
        · rw [List.mem_singleton.1 hg] at e; exact absurd rfl e
  · rw [size_put (h1.tidy keyedS), hh, h4, List.length_append]; rfl

/-! ### Where Read stands -/
structure RdSt (w0 w : World) (C m : Nat) (S : List Fld) : Prop where
  bel : Below w0.heap.size w0 w
  cell : w.heap[C]? = some (.cells #[.map (some m)] 66 (0, 0))
  geC : w0.heap.size ≤ C
  gem : w0.heap.size ≤ m
  sn : SnAt w m S
theorem RdSt.grown {w0 w w' : World} {C m : Nat} {S : List Fld} (h : RdSt w0 w C m S) (hb : Below w.heap.size w w') : RdSt w0 w' C m S :=
  ⟨h.bel.trans (hb.mono h.bel.size), (hb.block C (lt_of_block h.cell)).trans h.cell, h.geC, h.gem, h.sn.frame (hb.block m h.sn.lt)⟩
theorem RdSt.at {w0 w : World} {C m : Nat} {S : List Fld} (h : RdSt w0 w C m S) : w.cell? ⟨C, 0, none⟩ = some (.map (some m)) := (cell_of_row _ _ _ _ _ _ h.cell).trans rfl
theorem RdSt.put {w0 w w' : World} {C m : Nat} {S S' : List Fld} (h : RdSt w0 w C m S) (hs : SnAt w' m S') (hg : w.grownBy w' (some m)) : RdSt w0 w' C m S' :=
  ⟨h.bel.grown hg h.bel.size (fun k e => by cases e; exact h.gem), (hg.block C (lt_of_block h.cell) (fun e => h.sn.ne h.cell (Option.some.inj e))).trans h.cell, h.geC, h.gem, hs⟩

/-- What a further part comes to. -/
def readStep (S : List Fld) (p : List UInt8) : Except Int (List Fld) :=
  if S.length = 16 then .error 120 else match readP p with
    | .error e => .error e
    | .ok f => if S.any (fun g => g.name == f.name) then .error 124 else .ok (S ++ [f])
def errS : Except Int (List Fld) → Int
  | .error n => n
  | .ok _ => 0
def restS (S : List Fld) : Except Int (List Fld) → List Fld
  | .error _ => S
  | .ok S' => S'
end Go.Proofs.YtkgepklmhdjjnaaGreatDoor

/-
  DERIVED. The closure of Read; eachPart.
-/
namespace Go.Proofs.YtkgepklmhdjjnaaGreatDoor
open Go.RowKit Go.Maps
set_option linter.unusedVariables false

theorem readP_name {p : List UInt8} {f : Fld} (h : readP p = .ok f) : nameB f.name = true := by
  unfold readP at h
  split at h
  · cases h
  · split at h
    · rename_i hn
      unfold namedF at h
      split at h
      · cases h
      · cases h; exact hn
    · cases h

def StepPost (w0 : World) (C m : Nat) (S : List Fld) (r : Except Int (List Fld)) (e : Ending) (w' : World) : Prop :=
  e = .returned (.int .i64 (errS r)) ∧ RdSt w0 w' C m (restS S r)

theorem readP_err {p : List UInt8} {e : Int} (h : readP p = .error e) : e ≠ 0 := by
  unfold readP at h
  split at h
  · cases h; decide
  · split at h
    · unfold namedF at h
      split at h
      · cases h; decide
      · cases h
    · cases h; decide

set_option maxHeartbeats 4000000 in
theorem ReadC_any (w0 w : World) (C m : Nat) (S : List Fld) (p : List UInt8) (h : RdSt w0 w C m S) (hva : Vars w0) (hp : p.length ≤ 140737488355328) (hS : S.length ≤ 16) :
    Calls Tryz.prog 37 #[sv p, .pointer (some ⟨C, 0, none⟩)] w (StepPost w0 C m S (readStep S p)) := by
  have c0 := h.at
  have l0 := h.sn.len 3
  have HR := hide (readField_any p w hp (hva.below h.bel (Nat.le_refl _)))
  have HH := hide h
  clear h hva
  by_cases h16 : S.length = 16
  · have HA : Hid (readStep S p = .error 120) := hide (by simp [readStep, h16])
    have h16' : ((S.length : Int) == 16) = true := by simp; omega
    go_enter Tryz.func37, Tryz.ntmps37
    go_wp2_with fail
    go_ret
    rw [unhide HA]
    exact ⟨rfl, unhide HH⟩
  · have h16' : ((S.length : Int) == 16) = false := by simp; omega
    cases hr : readP p with
    | error e =>
      have HA : Hid (readStep S p = .error e) := hide (by simp [readStep, h16, hr])
      have he : (e != 0) = true := by simp [readP_err hr]
      rw [hr] at HR
      clear hr
      go_enter Tryz.func37, Tryz.ntmps37
      go_wp2_with (go_at_call 38; refine (unhide HR).mono ?_; rintro e w1 ⟨⟨an, ak, ai, az⟩, rfl, -, b1⟩; simp only [errN]; have HH1 := hide (((unhide HH).grown b1).grown ((Below.refl _ _).alloc (Nat.le_refl _) (.cells (fv ⟨an, ak, ai, az⟩) 33))); clear b1)
      go_ret
      rw [unhide HA]
      exact ⟨rfl, unhide HH1⟩
    | ok f =>
      obtain ⟨fn, ft, fi, fss⟩ := f
      have hnl := (nameB_len (readP_name hr)).2
      simp only at hnl
      have hml : fn.length ≤ maxLen := by unfold maxLen; omega
      rw [hr] at HR
      cases ht : S.any (fun g => g.name == fn) with
      | true =>
        have HA : Hid (readStep S p = .error 124) := hide (by simp only [readStep, h16, if_false, hr, ht, if_true])
        have HT := hide ht
        clear hr ht
        go_enter Tryz.func37, Tryz.ntmps37
        go_upto_region 6 with (go_at_call 38; refine (unhide HR).mono ?_; rintro e w1 ⟨f, rfl, hf, b1⟩; obtain rfl := hf _ rfl; simp only [errN]; have HH1 := hide (((unhide HH).grown b1).grown ((Below.refl _ _).alloc (Nat.le_refl _) (.cells (fv ⟨fn, ft, fi, fss⟩) 33))); have HG1 := hide (FBox.new w1 ⟨fn, ft, fi, fss⟩); clear b1 hf)
        obtain ⟨w2, hw2⟩ : ∃ w2, w2 = w1.alloc (.cells (fv ⟨fn, ft, fi, fss⟩) 33) := ⟨_, rfl⟩
        rw [show w1.alloc (.cells #[Value.string ⟨fn.toArray⟩, .bool ft, .int .i64 fi, Value.string ⟨fss.toArray⟩] 33) = w2 from hw2.symm]
        rw [← hw2] at HH1 HG1
        have c1 := (unhide HH1).at
        have lk := (unhide HH1).sn.look fn hml
        rw [unhide HT] at lk
        obtain ⟨d0, d1, d2, d3, df⟩ := (unhide HG1).cells
        simp only at d0 d1 d2 d3
        obtain ⟨⟨an, ak, ai, az⟩, hg⟩ : ∃ g, g = (getF S fn).getD fld0 := ⟨_, rfl⟩
        rw [← hg] at lk
        have HH2 := hide ((unhide HH1).grown ((Below.refl _ _).alloc (Nat.le_refl _) (.cells (fv ⟨an, ak, ai, az⟩) 33)))
        clear hw2 hg c0 l0
        go_wp2_with fail
        go_ret
        rw [unhide HA]
        exact ⟨rfl, unhide HH2⟩
      | false =>
        have HA : Hid (readStep S p = .ok (S ++ [⟨fn, ft, fi, fss⟩])) := hide (by simp [readStep, h16, hr, ht])
        have HT := hide ht
        clear hr ht
        go_enter Tryz.func37, Tryz.ntmps37
        go_upto_region 6 with (go_at_call 38; refine (unhide HR).mono ?_; rintro e w1 ⟨f, rfl, hf, b1⟩; obtain rfl := hf _ rfl; simp only [errN]; have HH1 := hide (((unhide HH).grown b1).grown ((Below.refl _ _).alloc (Nat.le_refl _) (.cells (fv ⟨fn, ft, fi, fss⟩) 33))); have HG1 := hide (FBox.new w1 ⟨fn, ft, fi, fss⟩); clear b1 hf)
        obtain ⟨w2, hw2⟩ : ∃ w2, w2 = w1.alloc (.cells (fv ⟨fn, ft, fi, fss⟩) 33) := ⟨_, rfl⟩
        rw [show w1.alloc (.cells #[Value.string ⟨fn.toArray⟩, .bool ft, .int .i64 fi, Value.string ⟨fss.toArray⟩] 33) = w2 from hw2.symm]
        rw [← hw2] at HH1 HG1
        obtain ⟨q, hq⟩ : ∃ q, q = w1.heap.size := ⟨_, rfl⟩
        rw [← hq] at HG1 ⊢
        have c1 := (unhide HH1).at
        have lk := (unhide HH1).sn.look fn hml
        rw [unhide HT] at lk
        obtain ⟨d0, d1, d2, d3, df⟩ := (unhide HG1).cells
        simp only at d0 d1 d2 d3
        obtain ⟨⟨an, ak, ai, az⟩, hg⟩ : ∃ g, g = (getF S fn).getD fld0 := ⟨_, rfl⟩
        rw [← hg] at lk
        clear hw2 hg c0 l0 hq
        go_upto_region 9 with fail
        have hb3 := (Below.refl w2.heap.size w2).alloc (Nat.le_refl _) (.cells (fv ⟨an, ak, ai, az⟩) 33)
        have hh3 := (unhide HH1).grown hb3
        have hg3 := (unhide HG1).below hb3 (Nat.le_refl _)
        obtain ⟨w3, hw3⟩ : ∃ w3, w3 = w2.alloc (.cells (fv ⟨an, ak, ai, az⟩) 33) := ⟨_, rfl⟩
        rw [show w2.alloc (.cells #[Value.string ⟨an.toArray⟩, .bool ak, .int .i64 ai, Value.string ⟨az.toArray⟩] 33) = w3 from hw3.symm]
        rw [← hw3] at hh3 hg3
        clear c1 lk d0 d1 d2 d3 df hw3 hb3
        have c1 := hh3.at
        obtain ⟨d0, d1, d2, d3, df⟩ := hg3.cells
        simp only at d0 d1 d2 d3
        obtain ⟨w4, hrun, hs4, hg4⟩ := hh3.sn.put ⟨fn, ft, fi, fss⟩ hml (unhide HT) (by omega)
        have HH4 := hide (hh3.put hs4 hg4)
        clear hh3 hg3 hs4 hg4
        go_wp2_with fail
        go_ret
        rw [unhide HA]
        exact ⟨rfl, unhide HH4⟩
end Go.Proofs.YtkgepklmhdjjnaaGreatDoor

/-
  DERIVED. eachPart with Read's closure.
-/
namespace Go.Proofs.YtkgepklmhdjjnaaGreatDoor
open Go.RowKit Go.Maps
set_option linter.unusedVariables false

/-- A text cut at each byte c. -/
def splitA (c : UInt8) : List UInt8 → List (List UInt8)
  | [] => [[]]
  | d :: r => if d = c then [] :: splitA c r else match splitA c r with
    | p :: ps => (d :: p) :: ps
    | [] => [[d]]
theorem splitA_cut (c : UInt8) (s : List UInt8) : splitA c s = (cutA c s).1 :: (match (cutA c s).2 with | none => [] | some r => splitA c r) := by
  induction s with
  | nil => rfl
  | cons d r ih =>
    by_cases h : d = c
    · rw [splitA, cutA, if_pos h, if_pos h]
    · rw [splitA, cutA, if_neg h, if_neg h, ih]

/-- Parts gone through from the left. -/
def foldParts (S : List Fld) : List (List UInt8) → Except Int (List Fld)
  | [] => .ok S
  | p :: ps => match readStep S p with
    | .error e => .error e
    | .ok S' => foldParts S' ps
/-- What Read gathers. -/
def readAll (t : List UInt8) : Except Int (List Fld) := if t = [] then .ok [] else foldParts [] (splitA 38 t)

theorem cutA_lt {c : UInt8} {s p r : List UInt8} (h : cutA c s = (p, some r)) : r.length < s.length := by
  rcases cutA_index c s with ⟨_, h2⟩ | ⟨i, _, h2, h3⟩
  · rw [h2] at h; cases h
  · rw [h3] at h; cases h; simp; omega

theorem readStep_err {S : List Fld} {p : List UInt8} {e : Int} (h : readStep S p = .error e) : e ≠ 0 := by
  unfold readStep at h
  split at h
  · cases h; decide
  · split at h
    · rename_i e' he; cases h; exact readP_err he
    · split at h
      · cases h; decide
      · cases h
theorem readStep_len {S S' : List Fld} {p : List UInt8} (h : readStep S p = .ok S') (hl : S.length ≤ 16) : S'.length ≤ 16 := by
  unfold readStep at h
  split at h
  · cases h
  · split at h
    · cases h
    · split at h
      · cases h
      · cases h; simp; omega

def strLen : Value → Nat
  | .string s => s.size
  | _ => 0
def leftM (t : Value) : Value → Nat
  | .bool true => strLen t + 1
  | _ => 0

def EachPost (w0 : World) (C m : Nat) (r : Except Int (List Fld)) (e : Ending) (w' : World) : Prop :=
  e = .returned (.int .i64 (errS r)) ∧ ∃ S, RdSt w0 w' C m S ∧ (∀ S', r = .ok S' → S = S')

/-- Where eachPart stands: the text that is left, and whether there is one. -/
def PartSt (w0 : World) (C m : Nat) (all : Except Int (List Fld)) (t m' : Value) (wr : World) : Prop :=
  ∃ (tl : List UInt8) (more : Bool) (S : List Fld), t = sv tl ∧ m' = .bool more ∧ tl.length ≤ 140737488355328 ∧ S.length ≤ 16 ∧ all = foldParts S (if more then splitA 38 tl else []) ∧ RdSt w0 wr C m S

set_option maxHeartbeats 4000000 in
theorem eachPart_any (w0 w : World) (C m : Nat) (text : List UInt8) (h : RdSt w0 w C m []) (hva : Vars w0) (hp : text.length ≤ 140737488355328) :
    Calls Tryz.prog 36 #[sv text, .func (.func 37) #[] #[.pointer (some ⟨C, 0, none⟩)]] w (EachPost w0 C m (readAll text)) := by
  have H0 : Hid (PartSt w0 C m (readAll text) (sv text) (.bool (!text.isEmpty)) w) := hide (by
    refine ⟨text, !text.isEmpty, [], rfl, rfl, hp, by simp, ?_, h⟩
    unfold readAll
    rcases text with _ | ⟨c, r⟩
    · rfl
    · simp)
  have HVa := hide hva
  have SEG : ∀ args W, (callFunc 37 args).run Tryz.prog W = .ok (.enter 37 args) W := enters_of Tryz.func37 (by kernel_rfl) rfl
  obtain ⟨all, hall⟩ : ∃ all, all = readAll text := ⟨_, rfl⟩
  rw [← hall] at H0 ⊢
  clear h hva hall
  go_enter Tryz.func36, Tryz.ntmps36
  go_wp2_with fail
  go_loopw [0, 5, 6, 7] (fun t m' _ _ wr => PartSt w0 C m all t m' wr) (fun t m' _ _ _ => leftM t m')
  case atStart => exact unhide H0
  case round =>
    obtain ⟨tl, more, S, rfl, rfl, htl, hSl, hall, hst⟩ := hrel
    cases more with
    | false =>
      have HF : Hid (all = .ok S) := hide hall
      have HS := hide hst
      clear hall hst
      go_wp2_with fail
      go_ret
      rw [unhide HF]
      exact ⟨rfl, S, unhide HS, fun S' e => by cases e; rfl⟩
    | true =>
      have HS := hide hst
      rw [if_pos rfl, splitA_cut] at hall
      have hcl := cutA_len 38 tl
      have HC : Hid (∀ W, Calls Tryz.prog 83 #[sv tl, .string ⟨#[38]⟩] W fun e w' => e = .returned (cutV (cutA 38 tl)) ∧ Below W.heap.size W w') := hide (fun W => Cut_any tl 38 W (by omega))
      obtain ⟨cp, hcp⟩ : ∃ cp, cp = cutA 38 tl := ⟨_, rfl⟩
      rw [← hcp] at hall hcl HC
      obtain ⟨part, rest⟩ := cp
      have hlt : ∀ r, rest = some r → r.length < tl.length := fun r e => cutA_lt (by rw [← hcp, e])
      simp only at hall hcl
      clear hst hcp
      have HStep : Hid (∀ W, RdSt w0 W C m S → Calls Tryz.prog 37 #[sv part, .pointer (some ⟨C, 0, none⟩)] W (StepPost w0 C m S (readStep S part))) := hide (fun W hW => ReadC_any w0 W C m S part hW (unhide HVa) (by omega) hSl)
      rw [foldParts] at hall
      cases hr : readStep S part with
      | error e =>
        rw [hr] at hall HStep
        have HF : Hid (all = .error e) := hide hall
        have he : (e != 0) = true := by simp [readStep_err hr]
        clear hall hr
        go_wp2_with (first | (go_at_call 83; refine (unhide HC _).mono ?_; rintro e' w1 ⟨rfl, b1⟩; have HS1 := hide ((unhide HS).grown b1); clear b1) | (go_at_call 37; refine (unhide HStep _ (unhide HS1)).mono ?_; rintro e' w2 ⟨rfl, hs2⟩; simp only [errS, restS] at hs2 ⊢; have HS2 := hide hs2; clear hs2))
        go_ret
        rw [unhide HF]
        exact ⟨rfl, S, unhide HS2, fun S' e => by cases e⟩
      | ok S2 =>
        rw [hr] at hall HStep
        have hl2 := readStep_len hr hSl
        have HF := hide hall
        clear hall hr
        go_wp2_with (first | (go_at_call 83; refine (unhide HC _).mono ?_; rintro e' w1 ⟨rfl, b1⟩; have HS1 := hide ((unhide HS).grown b1); clear b1) | (go_at_call 37; refine (unhide HStep _ (unhide HS1)).mono ?_; rintro e' w2 ⟨rfl, hs2⟩; simp only [errS, restS] at hs2 ⊢; have HS2 := hide hs2; clear hs2))
        go_roundw
        case rel => exact ⟨rest.getD [], rest.isSome, S2, rfl, rfl, by omega, hl2, (by rw [unhide HF]; cases rest <;> rfl), unhide HS2⟩
        case measure =>
          cases rest with
          | none => simp [leftM]
          | some r =>
            have := hlt r rfl
            show r.length + 1 < tl.length + 1
            omega
end Go.Proofs.YtkgepklmhdjjnaaGreatDoor

/-
  DERIVED. Fields in a row of one's own; lists of fields by rising names.
-/
namespace Go.Proofs.YtkgepklmhdjjnaaGreatDoor
open Go.RowKit Go.Maps
set_option linter.unusedVariables false

/-- Fields by rising names. -/
def Rising (R : List Fld) : Prop := R.Pairwise (fun a b => a.name < b.name)
/-- The record of these fields. -/
def IsRec (S R : List Fld) : Prop := Rising R ∧ ∀ f, f ∈ R ↔ f ∈ S

theorem rising_tail {a : Fld} {r : List Fld} (h : Rising (a :: r)) : Rising r := (List.pairwise_cons.1 h).2

theorem rising_eq : ∀ {A B : List Fld}, Rising A → Rising B → (∀ f, f ∈ A ↔ f ∈ B) → A = B
  | [], [], _, _, _ => rfl
  | [], b :: r, _, _, h => absurd ((h b).2 (by simp)) (by simp)
  | a :: r, [], _, _, h => absurd ((h a).1 (by simp)) (by simp)
  | a :: r, b :: q, hA, hB, h => by
    obtain ⟨a1, a2⟩ := List.pairwise_cons.1 hA
    obtain ⟨b1, b2⟩ := List.pairwise_cons.1 hB
    have e : a = b := by
      rcases List.mem_cons.1 ((h a).1 (by simp)) with e | e
      · exact e
      · rcases List.mem_cons.1 ((h b).2 (by simp)) with e2 | e2
        · exact e2.symm
        · exact absurd (List.lt_trans (b1 a e) (a1 b e2)) (List.lt_irrefl _)
    subst e
    have : r = q := rising_eq a2 b2 (fun f => by
      constructor
      · intro hf
        rcases List.mem_cons.1 ((h f).1 (by simp [hf])) with e | e
        · subst e; exact absurd (a1 f hf) (List.lt_irrefl _)
        · exact e
      · intro hf
        rcases List.mem_cons.1 ((h f).2 (by simp [hf])) with e | e
        · subst e; exact absurd (b1 f hf) (List.lt_irrefl _)
        · exact e)
    rw [this]
theorem IsRec.unique {S A B : List Fld} (h : IsRec S A) (k : IsRec S B) : A = B := rising_eq h.1 k.1 (fun f => (h.2 f).trans (k.2 f).symm)

/-! ### Cells -/
def fcs (R : List Fld) : List Value := R.flatMap (fun f => (fv f).toList)
theorem fcs_cons (f : Fld) (r : List Fld) : fcs (f :: r) = sv f.name :: .bool f.text :: .int .i64 f.n :: sv f.s :: fcs r := by simp [fcs]
theorem fcs_len (R : List Fld) : (fcs R).length = R.length * 4 := by
  induction R with
  | nil => rfl
  | cons f r ih => rw [fcs_cons]; simp [ih]; omega
theorem fcs_append (A B : List Fld) : fcs (A ++ B) = fcs A ++ fcs B := by simp [fcs]
theorem fcs_one (R : List Fld) : ∀ u ∈ fcs R, u.oneCell' = true := by
  induction R with
  | nil => intro u hu; simp [fcs] at hu
  | cons f r ih =>
    intro u hu
    rw [fcs_cons] at hu
    simp only [List.mem_cons] at hu
    rcases hu with rfl | rfl | rfl | rfl | hu
    · rfl
    · rfl
    · rfl
    · rfl
    · exact ih u hu
theorem fcs_get : ∀ (R : List Fld) (i : Nat) (h : i < R.length), (fcs R)[i * 4]? = some (sv R[i].name) ∧ (fcs R)[i * 4 + 1]? = some (.bool R[i].text) ∧ (fcs R)[i * 4 + 2]? = some (.int .i64 R[i].n) ∧ (fcs R)[i * 4 + 3]? = some (sv R[i].s)
  | [], i, h => by simp at h
  | f :: r, 0, h => by rw [fcs_cons]; simp
  | f :: r, i + 1, h => by
    have := fcs_get r i (by simp at h; omega)
    rw [fcs_cons]
    have e : (i + 1) * 4 = i * 4 + 1 + 1 + 1 + 1 := by omega
    have e1 : (i + 1) * 4 + 1 = (i * 4 + 1) + 1 + 1 + 1 + 1 := by omega
    have e2 : (i + 1) * 4 + 2 = (i * 4 + 2) + 1 + 1 + 1 + 1 := by omega
    have e3 : (i + 1) * 4 + 3 = (i * 4 + 3) + 1 + 1 + 1 + 1 := by omega
    rw [e1, e2, e3, e]
    simp only [List.getElem?_cons_succ, List.getElem_cons_succ]
    exact this

/-- A slice of fields that a call made for itself. -/
def FOwn (w : World) (base : Nat) (v : Value) (R : List Fld) : Prop := w.ownsRow base 33 4 v R.length (fcs R)
theorem Tryz.infoField : (Tryz.prog.info? 33).map (fun i => (i.zero, i.size, i.bytes)) = some (some (.agg (fv fld0)), 4, 48) := by kernel_rfl

theorem FOwn.below {B base : Nat} {w w' : World} {v : Value} {l : List Fld} (h : FOwn w base v l) (hb : Below B w w') (hB : w.heap.size ≤ B) : FOwn w' base v l := by
  obtain ⟨h1, h2⟩ := h
  refine ⟨h1, ?_⟩
  rcases h2 with h | ⟨g, cap, cur, a, b, c, r⟩
  · exact .inl h
  · exact .inr ⟨g, cap, cur, a, b, (hb.block g (by have := lt_of_block c; omega)).trans c, r⟩

theorem FOwn.fdl {w : World} {base : Nat} {v : Value} {R : List Fld} (h : FOwn w base v R) : FdL w v R := by
  obtain ⟨h1, h2⟩ := h
  rcases h2 with ⟨rfl, h⟩ | ⟨g, cap, cur, rfl, hb, hg, hn, hm, hs, ht⟩
  · exact ⟨none, 0, by rw [h], by omega, by omega, fun hz => absurd h hz⟩
  · refine ⟨some ⟨g, 0, none⟩, cap, rfl, hn, by unfold maxLen at hm; omega, fun _ => ⟨g, 0, rfl, lt_of_block hg, fun i hi => ?_⟩⟩
    have at' : ∀ j x, j < R.length * 4 → (fcs R)[j]? = some x → w.cell? ⟨g, 0 + j, none⟩ = some x := by
      intro j x hj hx
      have e : (cur.toList.take (R.length * 4))[j]? = (fcs R)[j]? := by rw [ht]
      rw [List.getElem?_take_of_lt hj, hx] at e
      simp only [World.cell?, hg, Nat.zero_add]
      simpa using e
    obtain ⟨g0, g1, g2, g3⟩ := fcs_get R i hi
    exact ⟨at' _ _ (by omega) g0, at' _ _ (by omega) g1, at' _ _ (by omega) g2, at' _ _ (by omega) g3⟩

/-- make([]Field, 0, m) -/
theorem make_flds (w : World) (m : Nat) (hm : m ≤ 100000) : ∃ o, (Instr.makeSlice 23 (.int .i64 0) (.int .i64 (m : Int))).run Tryz.prog w = .ok (.slice (some ⟨w.heap.size, 0, none⟩) 0 m) (w.alloc o) ∧ FOwn (w.alloc o) w.heap.size (.slice (some ⟨w.heap.size, 0, none⟩) 0 m) [] := by
  obtain ⟨i, hi, hh⟩ := Option.map_eq_some_iff.1 Tryz.infoField
  simp only [Prod.mk.injEq] at hh
  have h := run_make (P := Tryz.prog) w 23 33 i _ Tryz.underlying23 hi hh.1 .i64 .i64 0 m (by omega) (by omega) (by rw [hh.2.2]; omega) (by omega)
  rw [Int.toNat_natCast, hh.2.1] at h
  refine ⟨_, h, ?_⟩
  refine ⟨rfl, .inr ⟨w.heap.size, m, madeCells (Value.agg (fv fld0)).cells (m * 4), rfl, Nat.le_refl _, ?_, by simp, by unfold maxLen; omega, ?_, by simp [fcs]⟩⟩
  · show (w.heap.push _)[w.heap.size]? = _
    simp
  · simp [madeCells]

/-- An append of a field to a slice of one's own. -/
theorem wpList_append_fld {w : World} {ops : Array Oper} {rest : List Oper} {o : Oper} {a : Act} {Q : Exit → Act → World → Prop} (hgd : o.guard = none) (s x : Operand)
    (ho : o.op = .call { callee := .builtin .append, args := #[s, x], argTypes := #[23, 23] })
    (base : Nat) (v : Value) (R : List Fld) (hs : a.eval s = v) (hown : FOwn w base v R) (q : Nat) (f : Fld) (hx : a.eval x = .slice (some ⟨q, 0, none⟩) 1 1) (hq : FBox w q f) (hlen : R.length ≤ 2000000000) (hbase : base ≤ w.heap.size)
    (h : ∀ v' w', FOwn w' base v' (R ++ [f]) → Below base w w' → (∀ (p : Nat) (cur : Array Value) (t : TypeId) (fr : Nat × Nat), w.heap[p]? = some (.cells cur t fr) → t ≠ 33 → w'.heap[p]? = w.heap[p]?) → wpList Tryz.prog ops Q rest (a.put o.dst v') w') : wpList Tryz.prog ops Q (o :: rest) a w := by
  obtain ⟨i0, hi, hh⟩ := Option.map_eq_some_iff.1 Tryz.infoField
  simp only [Prod.mk.injEq] at hh
  refine wpList_append_own w hgd s x 23 ho base 33 i0 (.agg (fv fld0)) 4 48 Tryz.underlying23 hi hh.1 hh.2.1 hh.2.2 rfl (by decide) v R.length (fcs R) hs hown ⟨q, 0, none⟩ 1 1 (fcs [f]) hx (by simp [fcs]) (fun j u hj => by
    rw [addr_add, Nat.zero_add, cell_of_row _ _ _ _ _ _ hq]
    rw [← hj]; simp [fcs]) (fcs_one [f]) (by unfold maxLen; omega) (by omega) hbase ?_
  intro v' w' ho' hgr _
  refine h v' w' (by unfold FOwn; rw [fcs_append, List.length_append]; exact ho') ((Below.refl _ _).grown hgr hbase ?_) ?_
  · intro k hk
    rcases hown.2 with ⟨rfl, _⟩ | ⟨g, cap', cur, rfl, hb, _⟩
    · cases hk
    · simp only [Value.ownBlock, Option.some.injEq] at hk; omega
  · intro p cur t fr hp ht
    refine hgr.block p (lt_of_block hp) (fun e => ?_)
    rcases hown.2 with ⟨rfl, _⟩ | ⟨g, cap', cur', rfl, hb, hg, _⟩
    · cases e
    · simp only [Value.ownBlock, Option.some.injEq] at e
      subst e
      rw [hp] at hg
      simp only [Option.some.injEq, Obj.cells.injEq] at hg
      exact ht hg.2.1
end Go.Proofs.YtkgepklmhdjjnaaGreatDoor

/-
  DERIVED. The numbers of this dump for the library's slices.Sorted(maps.Keys(m)), written out by the guide's own tool.
-/
namespace Go.Proofs.YtkgepklmhdjjnaaGreatDoor
open Go.Shelf
def Tryz.keysA_ren : Go.Shelf.Ren := ⟨fun | 7 => 40 | 10 => 88 | n => n, fun | 23 => 66 | 26 => 9 | 3 => 33 | 28 => 73 | 0 => 0 | 27 => 72 | 33 => 31 | 4 => 4 | n => n, fun | n => n⟩
theorem Tryz.keysA : Go.Proofs.SlLaysZ.n7 Tryz.prog Tryz.keysA_ren := {
  mixed := by kernel_rfl
  f7 := ⟨Tryz.f40.name, by decide, Tryz.func40.trans (congrArg some (by kernel_rfl))⟩
  f10 := ⟨Tryz.f88.name, by decide, Tryz.func88.trans (congrArg some (by kernel_rfl))⟩
  t0 := Tryz.underlying0
  a0 := Tryz.isAgg0
  z0 := Tryz.sizeOf0
  v0 := Tryz.zeroValue0
  t4 := Tryz.underlying4
  a4 := Tryz.isAgg4
  z4 := Tryz.sizeOf4
  v4 := Tryz.zeroValue4
  t23 := Tryz.underlying66
  a23 := Tryz.isAgg66
  z23 := Tryz.sizeOf66
  v23 := Tryz.zeroValue66
  t26 := Tryz.underlying9
  a26 := Tryz.isAgg9
  z26 := Tryz.sizeOf9
  v26 := Tryz.zeroValue9
  t27 := Tryz.underlying72
  a27 := Tryz.isAgg72
  z27 := Tryz.sizeOf72
  v27 := Tryz.zeroValue72
  t28 := Tryz.underlying73
  a28 := Tryz.isAgg73
  z28 := Tryz.sizeOf73
  v28 := Tryz.zeroValue73
  t33 := Tryz.underlying31
  a33 := Tryz.isAgg31
  z33 := Tryz.sizeOf31
  v33 := Tryz.zeroValue31 }
def Tryz.sortedA_ren : Go.Shelf.Ren := ⟨fun | 6 => 39 | 8 => 86 | 9 => 87 | 11 => 145 | 13 => 147 | 12 => 146 | 23 => 192 | 24 => 193 | 14 => 183 | 15 => 184 | 16 => 185 | 17 => 186 | 18 => 187 | 19 => 188 | 20 => 189 | 21 => 190 | 22 => 191 | 25 => 211 | 26 => 212 | 27 => 213 | 28 => 214 | 29 => 215 | 30 => 216 | 31 => 226 | n => n, fun | 26 => 9 | 28 => 73 | 24 => 70 | 0 => 0 | 3 => 3 | 37 => 81 | 48 => 230 | 50 => 232 | 4 => 4 | 40 => 223 | 39 => 222 | 45 => 126 | 5 => 5 | 9 => 9 | 51 => 246 | 55 => 249 | 57 => 262 | 58 => 84 | 33 => 31 | n => n, fun | n => n⟩
theorem Tryz.sortedA : Go.Proofs.SlLaysZ.n6 Tryz.prog Tryz.sortedA_ren := {
  mixed := by kernel_rfl
  f6 := ⟨Tryz.f39.name, by decide, Tryz.func39.trans (congrArg some (by kernel_rfl))⟩
  f8 := ⟨Tryz.f86.name, by decide, Tryz.func86.trans (congrArg some (by kernel_rfl))⟩
  f11 := ⟨Tryz.f145.name, by decide, Tryz.func145.trans (congrArg some (by kernel_rfl))⟩
  t0 := Tryz.underlying0
  a0 := Tryz.isAgg0
  z0 := Tryz.sizeOf0
  v0 := Tryz.zeroValue0
  t24 := Tryz.underlying70
  a24 := Tryz.isAgg70
  z24 := Tryz.sizeOf70
  v24 := Tryz.zeroValue70
  t26 := Tryz.underlying9
  a26 := Tryz.isAgg9
  z26 := Tryz.sizeOf9
  v26 := Tryz.zeroValue9
  t28 := Tryz.underlying73
  a28 := Tryz.isAgg73
  z28 := Tryz.sizeOf73
  v28 := Tryz.zeroValue73
  i26 := by kernel_rfl }
def Tryz.sortA_ren : Go.Shelf.Ren := ⟨fun | 6 => 87 | 8 => 147 | 9 => 146 | 19 => 192 | 20 => 193 | 21 => 183 | 22 => 184 | 23 => 185 | 24 => 186 | 25 => 187 | 26 => 188 | 27 => 189 | 28 => 190 | 29 => 191 | 36 => 211 | 31 => 212 | 32 => 213 | 37 => 214 | 38 => 215 | 39 => 216 | 41 => 226 | n => n, fun | 27 => 70 | 29 => 9 | 3 => 3 | 32 => 81 | 26 => 70 | 0 => 0 | 44 => 230 | 46 => 232 | 4 => 4 | 36 => 223 | 35 => 222 | 41 => 126 | 5 => 5 | 9 => 9 | 53 => 246 | 57 => 249 | 63 => 262 | 64 => 84 | n => n, fun | n => n⟩
theorem Tryz.sortA : Go.Proofs.SlLaysM.n6 Tryz.prog Tryz.sortA_ren := {
  mixed := by kernel_rfl
  f6 := ⟨Tryz.f87.name, by decide, Tryz.func87.trans (congrArg some (by kernel_rfl))⟩
  f8 := Tryz.func147.trans (congrArg some (by kernel_rfl))
  f9 := ⟨Tryz.f146.name, by decide, Tryz.func146.trans (congrArg some (by kernel_rfl))⟩
  f19 := Tryz.func192.trans (congrArg some (by kernel_rfl))
  f20 := Tryz.func193.trans (congrArg some (by kernel_rfl))
  f21 := ⟨Tryz.f183.name, by decide, Tryz.func183.trans (congrArg some (by kernel_rfl))⟩
  f22 := ⟨Tryz.f184.name, by decide, Tryz.func184.trans (congrArg some (by kernel_rfl))⟩
  f23 := ⟨Tryz.f185.name, by decide, Tryz.func185.trans (congrArg some (by kernel_rfl))⟩
  f24 := ⟨Tryz.f186.name, by decide, Tryz.func186.trans (congrArg some (by kernel_rfl))⟩
  f25 := ⟨Tryz.f187.name, by decide, Tryz.func187.trans (congrArg some (by kernel_rfl))⟩
  f26 := ⟨Tryz.f188.name, by decide, Tryz.func188.trans (congrArg some (by kernel_rfl))⟩
  f27 := ⟨Tryz.f189.name, by decide, Tryz.func189.trans (congrArg some (by kernel_rfl))⟩
  f28 := ⟨Tryz.f190.name, by decide, Tryz.func190.trans (congrArg some (by kernel_rfl))⟩
  f29 := ⟨Tryz.f191.name, by decide, Tryz.func191.trans (congrArg some (by kernel_rfl))⟩
  f31 := Tryz.func212.trans (congrArg some (by kernel_rfl))
  f32 := Tryz.func213.trans (congrArg some (by kernel_rfl))
  f36 := ⟨Tryz.f211.name, by decide, Tryz.func211.trans (congrArg some (by kernel_rfl))⟩
  f37 := ⟨Tryz.f214.name, by decide, Tryz.func214.trans (congrArg some (by kernel_rfl))⟩
  f38 := ⟨Tryz.f215.name, by decide, Tryz.func215.trans (congrArg some (by kernel_rfl))⟩
  f39 := ⟨Tryz.f216.name, by decide, Tryz.func216.trans (congrArg some (by kernel_rfl))⟩
  f41 := ⟨Tryz.f226.name, by decide, Tryz.func226.trans (congrArg some (by kernel_rfl))⟩
  t0 := Tryz.underlying0
  a0 := Tryz.isAgg0
  z0 := Tryz.sizeOf0
  v0 := Tryz.zeroValue0
  t3 := Tryz.underlying3
  a3 := Tryz.isAgg3
  z3 := Tryz.sizeOf3
  v3 := Tryz.zeroValue3
  t4 := Tryz.underlying4
  a4 := Tryz.isAgg4
  z4 := Tryz.sizeOf4
  v4 := Tryz.zeroValue4
  t5 := Tryz.underlying5
  a5 := Tryz.isAgg5
  z5 := Tryz.sizeOf5
  v5 := Tryz.zeroValue5
  t9 := Tryz.underlying9
  a9 := Tryz.isAgg9
  z9 := Tryz.sizeOf9
  v9 := Tryz.zeroValue9
  t26 := Tryz.underlying70
  a26 := Tryz.isAgg70
  z26 := Tryz.sizeOf70
  v26 := Tryz.zeroValue70
  t27 := Tryz.underlying70
  a27 := Tryz.isAgg70
  z27 := Tryz.sizeOf70
  v27 := Tryz.zeroValue70
  t29 := Tryz.underlying9
  a29 := Tryz.isAgg9
  z29 := Tryz.sizeOf9
  v29 := Tryz.zeroValue9
  t32 := Tryz.underlying81
  a32 := Tryz.isAgg81
  z32 := Tryz.sizeOf81
  v32 := Tryz.zeroValue81
  t35 := Tryz.underlying222
  a35 := Tryz.isAgg222
  z35 := Tryz.sizeOf222
  v35 := Tryz.zeroValue222
  t36 := Tryz.underlying223
  a36 := Tryz.isAgg223
  z36 := Tryz.sizeOf223
  v36 := Tryz.zeroValue223
  t41 := Tryz.underlying126
  a41 := Tryz.isAgg126
  z41 := Tryz.sizeOf126
  v41 := Tryz.zeroValue126
  t44 := Tryz.underlying230
  a44 := Tryz.isAgg230
  z44 := Tryz.sizeOf230
  v44 := Tryz.zeroValue230
  t46 := Tryz.underlying232
  a46 := Tryz.isAgg232
  z46 := Tryz.sizeOf232
  v46 := Tryz.zeroValue232
  t53 := Tryz.underlying246
  a53 := Tryz.isAgg246
  z53 := Tryz.sizeOf246
  v53 := Tryz.zeroValue246
  t57 := Tryz.underlying249
  a57 := Tryz.isAgg249
  z57 := Tryz.sizeOf249
  v57 := Tryz.zeroValue249
  t63 := Tryz.underlying262
  a63 := Tryz.isAgg262
  z63 := Tryz.sizeOf262
  v63 := Tryz.zeroValue262
  t64 := Tryz.underlying84
  a64 := Tryz.isAgg84
  z64 := Tryz.sizeOf84
  v64 := Tryz.zeroValue84 }
end Go.Proofs.YtkgepklmhdjjnaaGreatDoor

/-
  DERIVED. The names of the map, sorted; the walk of Read.
-/
namespace Go.Proofs.YtkgepklmhdjjnaaGreatDoor
open Go.RowKit Go.Maps Go.Sort Go.Shelf
set_option linter.unusedVariables false

/-- slices.Sort's two contracts here, at the fence that asks nothing. -/
theorem Tryz.sortsA (m : Nat) : AnyZ.SortsIn Tryz.prog Tryz.sortedA_ren Fence.wide m :=
  ⟨fun blk off cap ss W hH hblk hsz => callsIn_wide.2 (AnyM.slices_Sort_string Tryz.sortA blk off cap ss W hH hblk hsz),
   fun p cap W => callsIn_wide.2 (AnyM.slices_Sort_string_none Tryz.sortA p cap W)⟩

theorem keys_go (q : Option Nat) (W : World) : Calls Tryz.prog 40 #[.map q] W fun e w' => e = .returned (.func (.func 88) #[] #[.pointer (some ⟨W.heap.size, 0, none⟩)]) ∧ w' = W.alloc (.cells #[.map q] 66) := callsIn_wide.1 (AnyZ.keys_in Tryz.keysA Fence.wide 5 trivial rfl q W)

set_option maxHeartbeats 1000000 in
theorem sorted_own (mb nn : Nat) (D0 : DataW Value) (w : World) (hown : w.ownsMap Tryz.prog 9 rawE mb nn D0) (hmax : Maps.size D0 ≤ maxLen) (hbytes : Maps.size D0 * 16 ≤ 140737488355328) :
    CallsIn Fence.wide 5 Tryz.prog 39 #[.func (.func 88) #[] #[.pointer (some ⟨w.heap.size, 0, none⟩)]] (w.alloc (.cells #[.map (some mb)] 66)) fun e w' => ∃ (v : Value) (ss : List (List UInt8)), e = .returned v ∧ ss.Perm (strKeys D0) ∧ w'.ownsRow 0 9 1 v ss.length ((ss.mergeSort (fun x y => decide (x ≤ y))).map encStr) ∧ (∀ q, v.ownBlock = some q → w.heap.size ≤ q) ∧ Below w.heap.size w w' := by
  have hbl := hown.lt
  have hseq : SeqGives Fence.wide 2 Tryz.prog 88 #[.pointer (some ⟨w.heap.size, 0, none⟩)] encStr (fun ss : List (List UInt8) => ss.Perm (strKeys D0)) (Maps.size D0) (w.alloc (.cells #[.map (some mb)] 66)) :=
    AnyZ.keys_gives (ρ := Tryz.keysA_ren) { Tryz.keysA with } Fence.wide _ trivial rfl (by omega) w.heap.size mb nn D0 (R := rawE) _ (by simp) (by simp) (by
      obtain ⟨es, clock, hb, Ft, hs, hD⟩ := hown
      exact ⟨es, clock, (Below.heap_alloc _ _ mb hbl).trans hb, Ft, hs, hD⟩)
  have cS := AnyZ.sorted_in Tryz.sortedA Fence.wide 5 trivial trivial trivial trivial rfl (by omega) (Tryz.sortsA _) (enters_of Tryz.func87 (by kernel_rfl) rfl) 88 #[.pointer (some ⟨w.heap.size, 0, none⟩)] trivial (enters_of Tryz.func88 (by kernel_rfl) rfl) _ _ hmax hbytes _ hseq
  change CallsIn _ _ Tryz.prog 39 _ _ _ at cS
  refine cS.mono ?_
  rintro e w' ⟨v, ss, rfl, hS, hrow, hnil, hb⟩
  have hz : w.heap.size ≤ (w.alloc (.cells #[.map (some mb)] 66)).heap.size := by simp
  refine ⟨v, ss, rfl, hS, ?_, fun q hq => Nat.le_trans hz (hrow.lt q hq).1, ((Below.refl _ w).alloc (Nat.le_refl _) _).trans (hb.mono hz)⟩
  obtain ⟨h1, h2⟩ := hrow
  refine ⟨h1, ?_⟩
  rcases h2 with h2 | ⟨g, cap, cur, e, _, r⟩
  · exact .inl h2
  · exact .inr ⟨g, cap, cur, e, Nat.zero_le _, r⟩

theorem strKeys_mem {S : List Fld} {w : World} {mp N : Nat} {D : DataW Value} (hown : w.ownsMap Tryz.prog 9 rawE mp N D) (h : ∀ kl, Maps.has D kl = true ↔ ∃ f ∈ S, kl = lit f.name) (s : List UInt8) : s ∈ strKeys D ↔ ∃ f ∈ S, f.name = s := by
  obtain ⟨es, rfl, hko⟩ := hown.keysOf
  show s ∈ es.map (fun p => strOf p.1) ↔ _
  constructor
  · intro hs
    obtain ⟨p, hp, rfl⟩ := List.mem_map.1 hs
    obtain ⟨v, hv⟩ := hko p hp
    obtain ⟨y, _, hy, hl⟩ := Maps.keyOf_str Tryz.underlying9 hv
    obtain ⟨f, h1, h2⟩ := (h p.1).1 (by simp only [Maps.has, List.any_eq_true]; exact ⟨p, hp, by rw [hy]; simp [Lit.sameKey]⟩)
    exact ⟨f, h1, by rw [h2]; rfl⟩
  · rintro ⟨f, hf, rfl⟩
    have := (h (lit f.name)).2 ⟨f, hf, rfl⟩
    simp only [Maps.has, List.any_eq_true] at this
    obtain ⟨p, hp, he⟩ := this
    refine List.mem_map.2 ⟨p, hp, ?_⟩
    obtain ⟨v, hv⟩ := hko p hp
    obtain ⟨y, _, hy, hl⟩ := Maps.keyOf_str Tryz.underlying9 hv
    rw [hy] at he ⊢
    simpa [Lit.sameKey, lit, strOf] using he

theorem strKeys_nodup {w : World} {mp N : Nat} {D : DataW Value} (hown : w.ownsMap Tryz.prog 9 rawE mp N D) : (strKeys D).Pairwise (· ≠ ·) := by
  obtain ⟨es, e1, hp⟩ := hown.tidy keyedS
  obtain ⟨es', e2, hko⟩ := hown.keysOf
  rw [e1] at e2 ⊢
  cases e2
  show (es.map (fun p => strOf p.1)).Pairwise (· ≠ ·)
  rw [List.pairwise_map]
  refine hp.imp_of_mem ?_
  intro p q hp hq hne e
  obtain ⟨v, hv⟩ := hko p hp
  obtain ⟨y, _, hy, _⟩ := Maps.keyOf_str Tryz.underlying9 hv
  obtain ⟨v', hv'⟩ := hko q hq
  obtain ⟨y', _, hy', _⟩ := Maps.keyOf_str Tryz.underlying9 hv'
  rw [hy, hy'] at e
  apply hne
  rw [hy, hy']
  simpa [strOf] using e

theorem le_lt {a b : List UInt8} (h : a ≤ b) (hne : a ≠ b) : a < b := (List.le_iff_lt_or_eq.1 h).resolve_right hne

/-- The names, rising. -/
theorem sorted_sn {w : World} {m : Nat} {S : List Fld} (h : SnAt w m S) (hS : S.length ≤ 1000) :
    Calls Tryz.prog 39 #[.func (.func 88) #[] #[.pointer (some ⟨w.heap.size, 0, none⟩)]] (w.alloc (.cells #[.map (some m)] 66)) fun e w' => ∃ (v : Value) (T : List (List UInt8)), e = .returned v ∧ SOwn w' 0 v T ∧ T.Pairwise (· < ·) ∧ (∀ k, k ∈ T ↔ ∃ f ∈ S, f.name = k) ∧ T.length ≤ 1000 ∧ Below w.heap.size w w' := by
  obtain ⟨D, h1, h2, h3, h4⟩ := h
  refine (callsIn_wide.1 (sorted_own m S.length D w h1 (by unfold maxLen; omega) (by omega))).mono ?_
  rintro e w' ⟨v, ss, rfl, hp, hrow, hq, hb⟩
  have pm := List.mergeSort_perm ss (fun x y => decide (x ≤ y))
  have hsz : (strKeys D).length = Maps.size D := by
    obtain ⟨es, e1, _⟩ := h1.keysOf
    rw [e1]; simp [strKeys, Maps.size]
  refine ⟨v, ss.mergeSort (fun x y => decide (x ≤ y)), rfl, ?_, ?_, ?_, ?_, hb⟩
  · unfold SOwn
    rw [pm.length_eq]
    exact hrow
  · have sd := List.pairwise_mergeSort (le := fun x y : List UInt8 => decide (x ≤ y)) (fun a b c h1 h2 => by
      simp only [decide_eq_true_eq] at *; exact List.le_trans h1 h2) (fun a b => by
      rcases List.le_total a b with h | h <;> simp [h]) ss
    have nd : (ss.mergeSort (fun x y => decide (x ≤ y))).Pairwise (· ≠ ·) := ((pm.trans hp).pairwise_iff (fun {a b} h => Ne.symm h)).2 (strKeys_nodup h1)
    exact (sd.and nd).imp (fun {a b} h => le_lt (by simpa using h.1) h.2)
  · intro k
    rw [(pm.trans hp).mem_iff]
    exact strKeys_mem h1 h3 k
  · rw [(pm.trans hp).length_eq, hsz, h4]; omega

/-! ### Names once -/
def Once (S : List Fld) : Prop := S.Pairwise (fun a b => a.name ≠ b.name)
theorem Once.snoc {S : List Fld} {f : Fld} (h : Once S) (hf : S.any (fun g => g.name == f.name) = false) : Once (S ++ [f]) := by
  refine List.pairwise_append.2 ⟨h, List.pairwise_singleton _ _, ?_⟩
  intro a ha b hb
  rw [List.mem_singleton.1 hb]
  have := List.any_eq_false.1 hf a ha
  simpa using this
theorem readStep_once {S S' : List Fld} {p : List UInt8} (h : readStep S p = .ok S') (ho : Once S) : Once S' := by
  unfold readStep at h
  split at h
  · cases h
  · split at h
    · cases h
    · split at h
      · cases h
      · rename_i hn; cases h; exact ho.snoc (by simpa using hn)
theorem foldParts_once : ∀ (ps : List (List UInt8)) {S S' : List Fld}, foldParts S ps = .ok S' → Once S → Once S'
  | [], S, S', h, ho => by cases h; exact ho
  | p :: ps, S, S', h, ho => by
    rw [foldParts] at h
    split at h
    · cases h
    · rename_i S2 hr; exact foldParts_once ps h (readStep_once hr ho)
theorem foldParts_len : ∀ (ps : List (List UInt8)) {S S' : List Fld}, foldParts S ps = .ok S' → S.length ≤ 16 → S'.length ≤ 16
  | [], S, S', h, ho => by cases h; exact ho
  | p :: ps, S, S', h, ho => by
    rw [foldParts] at h
    split at h
    · cases h
    · rename_i S2 hr; exact foldParts_len ps h (readStep_len hr ho)
theorem readAll_once {t : List UInt8} {S : List Fld} (h : readAll t = .ok S) : Once S ∧ S.length ≤ 16 := by
  unfold readAll at h
  split at h
  · cases h; exact ⟨List.Pairwise.nil, by simp⟩
  · exact ⟨foldParts_once _ h List.Pairwise.nil, foldParts_len _ h (by simp)⟩

theorem getF_once {S : List Fld} (ho : Once S) {f : Fld} (hf : f ∈ S) : getF S f.name = some f := by
  unfold getF
  induction S with
  | nil => cases hf
  | cons a r ih =>
    obtain ⟨h1, h2⟩ := List.pairwise_cons.1 ho
    rcases List.mem_cons.1 hf with rfl | hf
    · simp
    · rw [List.find?_cons_of_neg (by simpa using h1 f hf)]
      exact ih h2 hf

theorem isRec_of {S : List Fld} {T : List (List UInt8)} (ho : Once S) (hT : T.Pairwise (· < ·)) (hm : ∀ k, k ∈ T ↔ ∃ f ∈ S, f.name = k) : IsRec S (T.map (fun k => (getF S k).getD fld0)) := by
  have nm : ∀ k ∈ T, ((getF S k).getD fld0).name = k ∧ (getF S k).getD fld0 ∈ S := by
    intro k hk
    obtain ⟨f, hf, rfl⟩ := (hm k).1 hk
    rw [getF_once ho hf]
    exact ⟨rfl, hf⟩
  refine ⟨?_, ?_⟩
  · unfold Rising
    rw [List.pairwise_map]
    exact hT.imp_of_mem (fun {a b} ha hb h => by rw [(nm a ha).1, (nm b hb).1]; exact h)
  · intro f
    rw [List.mem_map]
    constructor
    · rintro ⟨k, hk, rfl⟩; exact (nm k hk).2
    · intro hf
      exact ⟨f.name, (hm _).2 ⟨f, hf, rfl⟩, by rw [getF_once ho hf]; rfl⟩
end Go.Proofs.YtkgepklmhdjjnaaGreatDoor

/-
  DERIVED. The walk of Read.
-/
namespace Go.Proofs.YtkgepklmhdjjnaaGreatDoor
open Go.RowKit Go.Maps Go.Sort Go.Shelf
set_option linter.unusedVariables false

theorem mm1 (w : World) : (Instr.makeMap 66 none).run Tryz.prog w = .ok (.map (some w.heap.size)) (w.alloc (.map #[] 0)) := rfl

theorem rd_start (w : World) : RdSt w ((w.alloc (.map #[] 0)).alloc (.cells #[.map (some w.heap.size)] 66)) (w.heap.size + 1) w.heap.size [] := by
  have e1 : (w.alloc (.map #[] 0)).heap.size = w.heap.size + 1 := by simp
  have hc := heap_alloc_new (w.alloc (.map #[] 0)) (.cells #[.map (some w.heap.size)] 66)
  rw [e1] at hc
  refine ⟨((Below.refl _ _).alloc (Nat.le_refl _) _).alloc (by simp) _, hc, by omega, by omega, (SnAt.made w).frame ?_⟩
  exact Below.heap_alloc _ _ _ (by simp)

/-- What Read reads. -/
def RdPost (w : World) (r : Except Int (List Fld)) (e : Ending) (w' : World) : Prop :=
  match r with
  | .error n => e = .returned (.tuple #[.slice none 0 0, .int .i64 n]) ∧ Below w.heap.size w w'
  | .ok S => ∃ (v : Value) (R : List Fld), e = .returned (.tuple #[v, .int .i64 0]) ∧ FOwn w' w.heap.size v R ∧ IsRec S R ∧ R.length ≤ 1000 ∧ Below w.heap.size w w'

theorem readAll_err {t : List UInt8} {n : Int} (h : readAll t = .error n) : n ≠ 0 := by
  unfold readAll at h
  split at h
  · cases h
  · have : ∀ (ps : List (List UInt8)) (S : List Fld), foldParts S ps = .error n → n ≠ 0 := by
      intro ps
      induction ps with
      | nil => intro S h; cases h
      | cons p ps ih =>
        intro S h
        rw [foldParts] at h
        split at h
        · rename_i e he; cases h; exact readStep_err he
        · exact ih _ h
    exact this _ _ h

set_option maxHeartbeats 2000000 in
theorem Read_bad (t : List UInt8) (w : World) (ht : t.length ≤ 140737488355328) (hva : Vars w) (n : Int) (hr : readAll t = .error n) :
    Calls Tryz.prog 10 #[sv t] w (RdPost w (.error n)) := by
  have hn : (n != 0) = true := by simp [readAll_err hr]
  have mk := mm1
  have HS := hide (rd_start w)
  have HE : Hid (∀ W, RdSt w W (w.heap.size + 1) w.heap.size [] → Calls Tryz.prog 36 #[sv t, .func (.func 37) #[] #[.pointer (some ⟨w.heap.size + 1, 0, none⟩)]] W (EachPost w (w.heap.size + 1) w.heap.size (.error n))) := hide (fun W hW => by have := eachPart_any w W _ _ t hW hva ht; rwa [hr] at this)
  clear hr hva
  go_enter Tryz.func10, Tryz.ntmps10
  go_wp2_with (go_at_call 36; refine (unhide HE _ (unhide HS)).mono ?_; rintro e w1 ⟨rfl, S, hs, -⟩; simp only [errS]; have HS1 := hide hs; clear hs)
  go_ret2
  exact ⟨rfl, (unhide HS1).bel⟩

theorem SOwn.slice {w : World} {base : Nat} {v : Value} {T : List (List UInt8)} (h : SOwn w base v T) : ∃ a c, v = .slice a T.length c ∧ T.length ≤ c ∧ (T.length ≠ 0 → ∃ g, a = some ⟨g, 0, none⟩ ∧ ∀ i x, T[i]? = some x → w.cell? ⟨g, i, none⟩ = some (sv x)) := by
  rcases h.2 with ⟨rfl, h0⟩ | ⟨g, cap, cur, rfl, hb, hg, hn, hm, hs, ht⟩
  · exact ⟨none, 0, by rw [h0], by omega, fun hz => absurd h0 hz⟩
  · refine ⟨_, cap, rfl, hn, fun _ => ⟨g, rfl, fun i x hx => ?_⟩⟩
    have hil := (List.getElem?_eq_some_iff.1 hx).1
    have e : (cur.toList.take (T.length * 1))[i]? = (T.map sv)[i]? := by rw [ht]
    rw [List.getElem?_take_of_lt (by omega), List.getElem?_map, hx] at e
    simp only [World.cell?, hg]
    simpa using e
theorem SOwn.frame {w w' : World} {base : Nat} {v : Value} {T : List (List UInt8)} (h : SOwn w base v T) (hk : ∀ (p : Nat) (cur : Array Value) (t : TypeId) (fr : Nat × Nat), w.heap[p]? = some (.cells cur t fr) → t ≠ 33 → w'.heap[p]? = w.heap[p]?) : SOwn w' base v T := by
  obtain ⟨h1, h2⟩ := h
  refine ⟨h1, ?_⟩
  rcases h2 with h | ⟨g, cap, cur, a, b, c, r⟩
  · exact .inl h
  · exact .inr ⟨g, cap, cur, a, b, (hk g _ _ _ c (by decide)).trans c, r⟩
theorem RdSt.append {w0 w w' : World} {C m B : Nat} {S : List Fld} (h : RdSt w0 w C m S) (hb : Below B w w') (hB : w0.heap.size ≤ B) (hm : m < B) (hk : ∀ (p : Nat) (cur : Array Value) (t : TypeId) (fr : Nat × Nat), w.heap[p]? = some (.cells cur t fr) → t ≠ 33 → w'.heap[p]? = w.heap[p]?) : RdSt w0 w' C m S :=
  ⟨h.bel.trans (hb.mono hB), (hk C _ _ _ h.cell (by decide)).trans h.cell, h.geC, h.gem, h.sn.frame (hb.block m hm)⟩

/-- Where Read stands in its loop. -/
structure RlSt (w0 wr : World) (C m B : Nat) (S : List Fld) (v : Value) (T : List (List UInt8)) (r : Value) (k : Nat) : Prop where
  rd : RdSt w0 wr C m S
  row : SOwn wr 0 v T
  out : FOwn wr B r ((T.take k).map (fun k => (getF S k).getD fld0))
  le : B ≤ wr.heap.size

theorem rl_next {w0 wr w' : World} {C m B : Nat} {S : List Fld} {v r r' : Value} {T : List (List UInt8)} {k : Nat} {x : List UInt8} (h : RlSt w0 wr C m B S v T r k) (hx : T[k]? = some x) (o : Obj) (hm : m < B) (hB : w0.heap.size ≤ B)
    (ho : FOwn w' B r' ((T.take k).map (fun k => (getF S k).getD fld0) ++ [(getF S x).getD fld0])) (hb : Below B (wr.alloc o) w') (hk : ∀ (p : Nat) (cur : Array Value) (t : TypeId) (fr : Nat × Nat), (wr.alloc o).heap[p]? = some (.cells cur t fr) → t ≠ 33 → w'.heap[p]? = (wr.alloc o).heap[p]?) : RlSt w0 w' C m B S v T r' (k + 1) := by
  have ha := (Below.refl wr.heap.size wr).alloc (Nat.le_refl _) o
  refine ⟨(h.rd.grown ha).append hb hB hm hk, (h.row.below ha (Nat.le_refl _)).frame hk, ?_, Nat.le_trans (Nat.le_trans h.le ha.size) hb.size⟩
  rw [List.take_add_one, hx]
  simpa using ho

theorem readStep_names {S S' : List Fld} {p : List UInt8} (h : readStep S p = .ok S') (hS : ∀ f ∈ S, nameB f.name = true) : ∀ f ∈ S', nameB f.name = true := by
  unfold readStep at h
  split at h
  · cases h
  · split at h
    · cases h
    · rename_i g hg
      split at h
      · cases h
      · cases h
        intro f hf
        rcases List.mem_append.1 hf with hf | hf
        · exact hS f hf
        · rw [List.mem_singleton.1 hf]; exact readP_name hg
theorem foldParts_names : ∀ (ps : List (List UInt8)) {S S' : List Fld}, foldParts S ps = .ok S' → (∀ f ∈ S, nameB f.name = true) → ∀ f ∈ S', nameB f.name = true
  | [], S, S', h, ho => by cases h; exact ho
  | p :: ps, S, S', h, ho => by
    rw [foldParts] at h
    split at h
    · cases h
    · rename_i S2 hr; exact foldParts_names ps h (readStep_names hr ho)
theorem readAll_nameB {t : List UInt8} {S : List Fld} (h : readAll t = .ok S) : ∀ f ∈ S, nameB f.name = true := by
  unfold readAll at h
  split at h
  · cases h; intro f hf; cases hf
  · exact foldParts_names _ h (fun f hf => by cases hf)
theorem readAll_names {t : List UInt8} {S : List Fld} (h : readAll t = .ok S) : ∀ f ∈ S, f.name.length ≤ maxLen := fun f hf => by
  have := (nameB_len (readAll_nameB h f hf)).2
  unfold maxLen; omega
theorem FOwn.mono {w : World} {base b2 : Nat} {v : Value} {l : List Fld} (h : FOwn w base v l) (hb : b2 ≤ base) : FOwn w b2 v l := by
  obtain ⟨h1, h2⟩ := h
  refine ⟨h1, ?_⟩
  rcases h2 with h | ⟨g, cap, cur, a, b, c⟩
  · exact .inl h
  · exact .inr ⟨g, cap, cur, a, by omega, c⟩

set_option maxHeartbeats 4000000 in
theorem Read_ok (t : List UInt8) (w : World) (ht : t.length ≤ 140737488355328) (hva : Vars w) (S : List Fld) (hr : readAll t = .ok S) :
    Calls Tryz.prog 10 #[sv t] w (RdPost w (.ok S)) := by
  obtain ⟨ho, hS16⟩ := readAll_once hr
  have mk := mm1
  have HS := hide (rd_start w)
  have HE : Hid (∀ W, RdSt w W (w.heap.size + 1) w.heap.size [] → Calls Tryz.prog 36 #[sv t, .func (.func 37) #[] #[.pointer (some ⟨w.heap.size + 1, 0, none⟩)]] W (EachPost w (w.heap.size + 1) w.heap.size (.ok S))) := hide (fun W hW => by have := eachPart_any w W _ _ t hW hva ht; rwa [hr] at this)
  have HOnce := hide ho
  have HFit : Hid (∀ f ∈ S, f.name.length ≤ maxLen) := hide (readAll_names hr)
  clear hr hva ho
  go_enter Tryz.func10, Tryz.ntmps10
  go_upto_region 5 with (go_at_call 36; refine (unhide HE _ (unhide HS)).mono ?_; rintro e w1 ⟨rfl, S0, hs, he⟩; rw [he _ rfl] at hs; simp only [errS]; have HS1 := hide hs; clear hs he)
  obtain ⟨C, hC⟩ : ∃ C, C = w.heap.size + 1 := ⟨_, rfl⟩
  obtain ⟨m, hm⟩ : ∃ m, m = w.heap.size := ⟨_, rfl⟩
  rw [← hC, ← hm] at HS1
  rw [← hC]
  have c1 := (unhide HS1).at
  have l1 := (unhide HS1).sn.len 3
  obtain ⟨o, mkf, own2⟩ := make_flds w1 S.length (by omega)
  have HO2 := hide own2
  have HS2 := hide ((unhide HS1).grown ((Below.refl _ _).alloc (Nat.le_refl _) o))
  have hw1 := (unhide HS1).bel.size
  have hmB : m < w1.heap.size := (unhide HS1).sn.lt
  have hz2 : w1.heap.size ≤ (w1.alloc o).heap.size := by simp
  obtain ⟨w2, hw2⟩ : ∃ w2, w2 = w1.alloc o := ⟨_, rfl⟩
  rw [← hw2] at mkf HO2 HS2 hz2
  clear own2 hw2 mk HE HS hC hm
  go_upto_region 6 with fail
  clear c1 l1 mkf
  have c2 := (unhide HS2).at
  have HSort := hide (sorted_sn (unhide HS2).sn (by omega))
  go_upto_region 7 with (first | (go_at_call 40; refine (keys_go _ _).mono ?_; rintro e w' ⟨rfl, rfl⟩) | (go_at_call 39; refine (unhide HSort).mono ?_; rintro e w3 ⟨v, T, rfl, hrow, hT, hmem, hTl, b3⟩; have HRow := hide hrow; have HT := hide hT; have HMem := hide hmem; have HS3 := hide ((unhide HS2).grown b3); have HO3 := hide ((unhide HO2).below b3 (Nat.le_refl _)); have hz3 := Nat.le_trans hz2 b3.size; obtain ⟨va, vc, rfl, hvc, -⟩ := (unhide HRow).slice; clear hrow hT hmem b3))
  have HSt : Hid (RlSt w w3 C m w1.heap.size S (.slice va T.length vc) T (.slice (some ⟨w1.heap.size, 0, none⟩) 0 S.length) 0) := hide ⟨unhide HS3, unhide HRow, unhide HO3, hz3⟩
  obtain ⟨N, hN⟩ : ∃ N, N = T.length := ⟨_, rfl⟩
  have HN := hide hN
  rw [← hN] at hvc hTl HSt ⊢
  clear HS1 HS2 HS3 HO2 HO3 HRow HSort c2 hN
  go_loopw [6, 8, 23] (fun r _ i wr => ∃ (k : Nat), k ≤ N ∧ i = .int .i64 k ∧ Hid (RlSt w wr C m w1.heap.size S (.slice va N vc) T r k)) (fun _ _ i _ => N - (intOf i).toNat)
  case atStart => exact ⟨0, by omega, rfl, HSt⟩
  case round =>
    obtain ⟨k, hk, rfl, HR⟩ := hrel
    clear HSt
    by_cases hlt : k < N
    · have hkl : k < T.length := by have := unhide HN; omega
      obtain ⟨x, hx⟩ : ∃ x, T[k]? = some x := ⟨_, List.getElem?_eq_getElem hkl⟩
      obtain ⟨a', c', e, _, hg⟩ := (unhide HR).row.slice
      cases e
      obtain ⟨g, rfl, hcell⟩ := hg (by omega)
      have cx := hcell k x hx
      have c3 := (unhide HR).rd.at
      have hxl : x.length ≤ maxLen := by
        obtain ⟨f, hf, e⟩ := (unhide HMem x).1 (List.mem_of_getElem? hx)
        have := unhide HFit f hf
        rw [← e]; exact this
      have lk := (unhide HR).rd.sn.look1 x hxl
      obtain ⟨⟨an, ak, ai, az⟩, hgf⟩ : ∃ f, f = (getF S x).getD fld0 := ⟨_, rfl⟩
      rw [← hgf] at lk
      have HX := hide hx
      have HGF := hide hgf
      have HOut := hide ((unhide HR).out.below ((Below.refl _ _).alloc (Nat.le_refl _) (.cells (fv ⟨an, ak, ai, az⟩) 33)) (Nat.le_refl _))
      have HBx := hide (FBox.new wr ⟨an, ak, ai, az⟩)
      have hle := (unhide HR).le
      have hzz : wr.heap.size ≤ (wr.alloc (.cells (fv ⟨an, ak, ai, az⟩) 33)).heap.size := by simp
      have hrl : ((T.take k).map (fun k => (getF S k).getD fld0)).length ≤ 2000000000 := by simp; omega
      clear hx hgf hcell hg
      go_wp2_with (at_builtin; refine wpList_append_fld rfl (.tmp 27) (.tmp 31) rfl w1.heap.size _ ((T.take k).map (fun k => (getF S k).getD fld0)) rfl (unhide HOut) wr.heap.size ⟨an, ak, ai, az⟩ rfl (unhide HBx) hrl (Nat.le_trans hle hzz) ?_; intro v' w5 own5 b5 k5; have HR5 := hide (rl_next (unhide HR) (unhide HX) _ hmB hw1 (by rw [← unhide HGF]; exact own5) b5 k5); clear own5 b5 k5)
      go_roundw
      case rel => exact ⟨k + 1, by omega, by go_num, HR5⟩
      case measure => simp [intOf]; omega
    · have HF : Hid (T.take k = T) := hide (List.take_of_length_le (by have := unhide HN; omega))
      have HOut := hide (unhide HR).out
      rw [unhide HF] at HOut
      have HRec := hide (isRec_of (unhide HOnce) (unhide HT) (unhide HMem))
      have HBel := hide (unhide HR).rd.bel
      have HNT := hide (unhide HN)
      go_wp2_with fail
      go_ret2
      exact ⟨_, _, rfl, (unhide HOut).mono hw1, unhide HRec, (by have := unhide HNT; simp; omega), unhide HBel⟩
end Go.Proofs.YtkgepklmhdjjnaaGreatDoor
