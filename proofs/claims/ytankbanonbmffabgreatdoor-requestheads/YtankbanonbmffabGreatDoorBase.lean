/-
  DERIVED. Words shared by all walks of this seat: bytes as cells, slices that are read, slices that are grown.
-/
import Derived.Test.YtankbanonbmffabGreatDoorProg
import Derived.Test.YtankbanonbmffabGreatDoorMath
import Derived.WalkKit
import Derived.ProofKit
import Derived.ArgAppend
import Derived.Laws.AppendOwnNone
import Derived.Laws.BytesString
import Derived.Laws.IdiomStrings
import Derived.Laws.BytesArg
import Derived.WalkLawsBesides
import Derived.KernelRfl
namespace Go.Proofs.YtankbanonbmffabGreatDoor
open Go.RowKit

theorem hide {p : Prop} (h : p) : Hid p := h
theorem unhide {p : Prop} (h : Hid p) : p := h.out

/-- A byte as a cell. -/
abbrev bv (c : UInt8) : Value := .int .u8 (c.toNat : Int)

/-- A slice value that reads as these bytes. (Where it has no room nothing is known of its address.) -/
def Sl (w : World) (v : Value) (l : List UInt8) : Prop :=
  ∃ ao cap, v = .slice ao l.length cap ∧ l.length ≤ cap ∧ cap ≤ maxLen ∧
    (cap ≠ 0 → ∃ b off, ao = some ⟨b, off, none⟩ ∧ b < w.heap.size ∧ ∀ i, (h : i < l.length) → w.cell? ⟨b, off + i, none⟩ = some (bv l[i]))

theorem Tryz.info5 : (Tryz.prog.info? 5).map (fun i => (i.zero, i.size, i.bytes)) = some (some (.int .u8 0), 1, 1) := by kernel_rfl

/-- A slice that a call made for itself. -/
def Own (w : World) (base : Nat) (v : Value) (l : List UInt8) : Prop := w.ownsRow base 5 1 v l.length (l.map bv)

/-- A slice to which can be appended without a write to what was there below 'base'. -/
def Room (w : World) (base : Nat) (v : Value) (l : List UInt8) : Prop :=
  Own w base v l ∨ (Sl w v l ∧ ∃ ao, v = .slice ao l.length l.length)

theorem bv_one (l : List UInt8) : ∀ u ∈ l.map bv, u.oneCell' = true := by
  intro u hu; obtain ⟨c, _, rfl⟩ := List.mem_map.1 hu; rfl

theorem Own.mono {w : World} {base b2 : Nat} {v : Value} {l : List UInt8} (h : Own w base v l) (hb : b2 ≤ base) : Own w b2 v l := by
  obtain ⟨h1, h2⟩ := h
  refine ⟨h1, ?_⟩
  rcases h2 with h | ⟨g, cap, cur, a, b, c⟩
  · exact .inl h
  · exact .inr ⟨g, cap, cur, a, by omega, c⟩

theorem Own.sl {w : World} {base : Nat} {v : Value} {l : List UInt8} (h : Own w base v l) : Sl w v l := by
  obtain ⟨h1, h2⟩ := h
  rcases h2 with ⟨rfl, h⟩ | ⟨g, cap, cur, rfl, hb, hg, hn, hm, hs, ht⟩
  · exact ⟨none, 0, by rw [h], by omega, by unfold maxLen; omega, fun h => absurd rfl h⟩
  · refine ⟨some ⟨g, 0, none⟩, cap, rfl, hn, hm, fun _ => ⟨g, 0, rfl, lt_of_block hg, fun i hi => ?_⟩⟩
    have e : (cur.toList.take (l.length * 1))[i]? = (l.map bv)[i]? := by rw [ht]
    rw [List.getElem?_take_of_lt (by omega)] at e
    simp only [World.cell?, hg]
    simpa [hi] using e

theorem Own.below {B base : Nat} {w w' : World} {v : Value} {l : List UInt8} (h : Own w base v l) (hb : Below B w w') (hB : w.heap.size ≤ B) : Own w' base v l := by
  obtain ⟨h1, h2⟩ := h
  refine ⟨h1, ?_⟩
  rcases h2 with h | ⟨g, cap, cur, a, b, c, r⟩
  · exact .inl h
  · exact .inr ⟨g, cap, cur, a, b, (hb.block g (by have := lt_of_block c; omega)).trans c, r⟩

theorem Sl.below {B : Nat} {w w' : World} {v : Value} {l : List UInt8} (h : Sl w v l) (hb : Below B w w') (hB : w.heap.size ≤ B) : Sl w' v l := by
  obtain ⟨ao, cap, rfl, h1, h2, h4⟩ := h
  refine ⟨ao, cap, rfl, h1, h2, fun hc => ?_⟩
  obtain ⟨b, off, e, a, c⟩ := h4 hc
  exact ⟨b, off, e, by have := hb.size; omega, fun i hi => (hb.cell (p := ⟨b, off + i, none⟩) (by show b < B; omega)).trans (c i hi)⟩

theorem addr_add (b o j : Nat) : (⟨b, o, none⟩ : Addr).add j = ⟨b, o + j, none⟩ := by
  by_cases h : j = 0
  · subst h; simp [Addr.add]
  · simp [Addr.add, h]

/-- THE ONE LAW ON append THAT THE WALKS USE: to a slice with room, bytes that lie somewhere, one at least. -/
theorem wpList_append_room {w : World} {ops : Array Oper} {rest : List Oper} {o : Oper} {a : Act} {Q : Exit → Act → World → Prop} (hgd : o.guard = none) (s x : Operand)
    (ho : o.op = .call { callee := .builtin .append, args := #[s, x], argTypes := #[24, 24] })
    (base : Nat) (v : Value) (l : List UInt8) (hs : a.eval s = v) (hroom : Room w base v l)
    (y : Value) (m : List UInt8) (hx : a.eval x = y) (hy : Sl w y m) (hm : m ≠ []) (hlen : l.length + m.length ≤ 140737488355328) (hbase : base ≤ w.heap.size)
    (h : ∀ v' w', Own w' base v' (l ++ m) → Below base w w' → wpList Tryz.prog ops Q rest (a.put o.dst v') w') : wpList Tryz.prog ops Q (o :: rest) a w := by
  obtain ⟨i0, hi, hz0, hz1, hz2⟩ := info_parts Tryz.info5
  have hmp : 0 < m.length := List.length_pos_iff.2 hm
  obtain ⟨ao, cap, rfl, h1, h2, h4⟩ := hy
  obtain ⟨bk, off, rfl, hlt, hc⟩ := h4 (by omega)
  have hnews : ∀ j u, (m.map bv)[j]? = some u → w.cell? ((⟨bk, off, none⟩ : Addr).add j) = some u := by
    intro j u hj
    rw [List.getElem?_map] at hj
    by_cases hjl : j < m.length
    · rw [List.getElem?_eq_getElem hjl] at hj
      simp only [Option.map_some, Option.some.injEq] at hj
      subst hj
      rw [addr_add]; exact hc j hjl
    · rw [List.getElem?_eq_none (by omega)] at hj; cases hj
  rcases hroom with hown | ⟨hsl, ao2, hv⟩
  · refine wpList_append_own w hgd s x 24 ho base 5 i0 (.int .u8 0) 1 1 Tryz.underlying24 hi hz0 hz1 hz2 rfl (by decide) v l.length (l.map bv) hs hown ⟨bk, off, none⟩ m.length cap (m.map bv) hx (by simp) hnews (bv_one m) (by unfold maxLen; omega) (by omega) hbase ?_
    intro v' w' ho' hgr _
    refine h v' w' (by simpa [Own] using ho') ((Below.refl _ _).grown hgr hbase ?_)
    intro k hk
    rcases hown.2 with ⟨rfl, _⟩ | ⟨g, cap', cur, rfl, hb, _⟩
    · cases hk
    · simp only [Value.ownBlock, Option.some.injEq] at hk; omega
  · subst hv
    obtain ⟨ao3, cap3, hv3, _, _, h4'⟩ := hsl
    cases hv3
    refine wpList_append_grows w hgd s x 24 ho 5 i0 (.int .u8 0) 1 1 Tryz.underlying24 hi hz0 hz1 hz2 rfl (by decide) ao2 l.length l.length (l.map bv) hs ?_ (by simp) ?_ ⟨bk, off, none⟩ m.length cap (m.map bv) hx (by simp) hnews (bv_one m) (by omega) (by unfold maxLen; omega) (by omega) ?_
    · intro hn
      by_cases hz : l.length = 0
      · exact ⟨hz, hz⟩
      · obtain ⟨b, o, e, _⟩ := h4' hz
        rw [hn] at e; cases e
    · intro b hb j u hj
      rw [List.getElem?_map] at hj
      by_cases hjl : j < l.length
      · obtain ⟨bb, bo, e, a2, a3⟩ := h4' (by omega)
        rw [hb] at e
        cases e
        rw [List.getElem?_eq_getElem hjl] at hj
        simp only [Option.map_some, Option.some.injEq] at hj
        subst hj
        rw [addr_add]; exact a3 j hjl
      · rw [List.getElem?_eq_none (by omega)] at hj; cases hj
    · intro v' w' ho' hgr
      have ho2 : Own w' w.heap.size v' (l ++ m) := by simpa [Own] using ho'
      exact h v' w' (ho2.mono hbase) ((Below.refl _ _).grown hgr hbase (fun k hk => by cases hk))

theorem Sl.cases {w : World} {v : Value} {l : List UInt8} (h : Sl w v l) : (l = [] ∧ ∃ ao, v = .slice ao 0 0) ∨ ∃ b off cap, v = .slice (some ⟨b, off, none⟩) l.length cap ∧ l.length ≤ cap ∧ cap ≤ 9223372036854775807 ∧ b < w.heap.size ∧ ∀ i, (h : i < l.length) → w.cell? ⟨b, off + i, none⟩ = some (bv l[i]) := by
  obtain ⟨ao, cap, rfl, h1, h2, h4⟩ := h
  unfold maxLen at h2
  by_cases hz : cap = 0
  · subst hz
    obtain rfl : l = [] := List.eq_nil_of_length_eq_zero (by omega)
    exact .inl ⟨rfl, ao, rfl⟩
  · obtain ⟨b, off, rfl, a, c⟩ := h4 hz
    exact .inr ⟨b, off, cap, rfl, h1, by omega, a, c⟩

theorem Sl.alloc {w : World} {v : Value} {l : List UInt8} (h : Sl w v l) (o : Obj) : Sl (w.alloc o) v l :=
  h.below ((Below.refl w.heap.size w).alloc (Nat.le_refl _) o) (Nat.le_refl _)

theorem Sl.drew {w : World} {v : Value} {l : List UInt8} (h : Sl w v l) : Sl w.drew v l := h.below ((Below.refl w.heap.size w).drew) (Nat.le_refl _)
theorem after_drew {B : Nat} {w w' : World} (h : Below B w.drew w') : Below B w w' := ((Below.refl B w).drew).trans h

theorem Room.alloc {w : World} {base : Nat} {v : Value} {l : List UInt8} (h : Room w base v l) (o : Obj) : Room (w.alloc o) base v l := by
  rcases h with h | ⟨h, e⟩
  · exact .inl (World.ownsRow.alloc h o)
  · exact .inr ⟨h.alloc o, e⟩

/-- A new block of bytes. -/
theorem Sl.new (w : World) (l : List UInt8) (hl : l.length ≤ maxLen) (fz : Nat × Nat) : Sl (w.alloc (.cells (l.map bv).toArray 5 fz)) (.slice (some ⟨w.heap.size, 0, none⟩) l.length l.length) l := by
  refine ⟨_, _, rfl, Nat.le_refl _, hl, fun _ => ⟨w.heap.size, 0, rfl, by simp, fun i hi => ?_⟩⟩
  have : (w.alloc (.cells (l.map bv).toArray 5 fz)).heap[w.heap.size]? = some (.cells (l.map bv).toArray 5 fz) := by
    show (w.heap.push _)[w.heap.size]? = _
    simp
  simp only [World.cell?, this]
  simp [hi]

/-! ### Bits of a byte -/
theorem byte_all (p : Nat → Bool) (h : (List.range 256).all p = true) : ∀ k, k < 256 → p k = true := fun k hk => List.all_eq_true.1 h k (List.mem_range.2 hk)
theorem or128 (m : Int) (h : 0 ≤ m) : bits BinOp.or IntKind.u8 (m % 256) 128 = ((UInt8.ofNat (128 + m.toNat % 128)).toNat : Int) := by
  obtain ⟨k, rfl⟩ := Int.eq_ofNat_of_zero_le h
  have hk : k % 256 < 256 := Nat.mod_lt _ (by decide)
  have := byte_all (fun k => bits BinOp.or IntKind.u8 (k : Int) 128 == ((128 + k % 128 : Nat) : Int)) (by decide +kernel) (k % 256) hk
  have e : ((k : Int) % 256) = ((k % 256 : Nat) : Int) := by omega
  rw [e, beq_iff_eq.1 this, Int.toNat_natCast]
  simp only [UInt8.toNat_ofNat']
  omega
theorem byte_of (m : Int) (h : 0 ≤ m) (h2 : m < 128) : m % 256 = ((UInt8.ofNat m.toNat).toNat : Int) := by
  simp only [UInt8.toNat_ofNat']
  omega

theorem not_i64 (n : Int) (h0 : -9223372036854775808 ≤ n) (h1 : n ≤ 9223372036854775807) : bits BinOp.xor IntKind.i64 (-1) n = -n - 1 := by
  have e1 : BitVec.ofInt 64 (-1) = BitVec.allOnes 64 := by decide
  show IntKind.i64.wrap ((BitVec.ofInt 64 (-1) ^^^ BitVec.ofInt 64 n).toNat : Int) = _
  rw [e1, BitVec.allOnes_xor, BitVec.toNat_not, BitVec.toNat_ofInt, IntKind.wrap_i64]
  omega


/-- An append to a slice of one's own, of whatever bytes: none, too. -/
theorem wpList_append_mine {w : World} {ops : Array Oper} {rest : List Oper} {o : Oper} {a : Act} {Q : Exit → Act → World → Prop} (hgd : o.guard = none) (s x : Operand)
    (ho : o.op = .call { callee := .builtin .append, args := #[s, x], argTypes := #[24, 24] })
    (base : Nat) (v : Value) (l : List UInt8) (hs : a.eval s = v) (hown : Own w base v l)
    (y : Value) (m : List UInt8) (hx : a.eval x = y) (hy : Sl w y m) (hlen : l.length + m.length ≤ 140737488355328) (hbase : base ≤ w.heap.size)
    (h : ∀ v' w', Own w' base v' (l ++ m) → Below base w w' → wpList Tryz.prog ops Q rest (a.put o.dst v') w') : wpList Tryz.prog ops Q (o :: rest) a w := by
  by_cases hm : m = []
  · subst hm
    obtain ⟨i0, hi, hz0, hz1, hz2⟩ := info_parts Tryz.info5
    obtain ⟨ao, cap, rfl, h1, h2, h4⟩ := hy
    cases ao with
    | none =>
      obtain rfl : cap = 0 := by
        by_cases hz : cap = 0
        · exact hz
        · obtain ⟨_, _, e, _⟩ := h4 hz; cases e
      refine wpList_append_own_none hgd s x 24 ho base 5 i0 1 Tryz.underlying24 hi v l.length (l.map bv) hs hown hx ?_
      exact h v w (by simpa using hown) (Below.refl _ _)
    | some ad =>
      refine wpList_append_own w hgd s x 24 ho base 5 i0 (.int .u8 0) 1 1 Tryz.underlying24 hi hz0 hz1 hz2 rfl (by decide) v l.length (l.map bv) hs hown ad 0 cap [] hx (by simp) (fun j u hj => by simp at hj) (fun u hu => by simp at hu) (by unfold maxLen; omega) (by omega) hbase ?_
      intro v' w' ho' hgr _
      refine h v' w' (by simpa [Own] using ho') ((Below.refl _ _).grown hgr hbase ?_)
      intro k hk
      rcases hown.2 with ⟨rfl, _⟩ | ⟨g, cap', cur, rfl, hb, _⟩
      · cases hk
      · simp only [Value.ownBlock, Option.some.injEq] at hk; omega
  · exact wpList_append_room hgd s x ho base v l hs (.inl hown) y m hx hy hm hlen hbase h
end Go.Proofs.YtankbanonbmffabGreatDoor
