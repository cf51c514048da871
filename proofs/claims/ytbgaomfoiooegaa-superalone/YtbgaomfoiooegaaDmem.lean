/-
  DERIVED. The device in memory: what is flushed, what is pending, and which blocks of memory are its own.
-/
import Derived.Test.YtbgaomfoiooegaaDblock
import Derived.Maps.OwnSet
import Derived.Maps.AppendAt
namespace Go.Proofs.Ytbgaomfoiooegaa
open Go.RowKit Go.Maps
set_option linter.unusedVariables false

abbrev nilS : Value := .slice none 0 0
/-- A map's element, as it is. -/
def rawE (v : Value) : Option (DataW Value × List MemPlace) := some (.held v, [])
/-- Blocks as cells. -/
def cellsOf (bs : List (List UInt8)) : List Value := bs.flatMap fun L => L.map bv
/-- Each is a whole block. -/
def Wide (bs : List (List UInt8)) : Prop := ∀ L ∈ bs, L.length = 512

theorem cellsOf_cons (L : List UInt8) (bs : List (List UInt8)) : cellsOf (L :: bs) = L.map bv ++ cellsOf bs := rfl
theorem cellsOf_append (xs bs : List (List UInt8)) : cellsOf (xs ++ bs) = cellsOf xs ++ cellsOf bs := by simp [cellsOf]
theorem cellsOf_snoc (xs : List (List UInt8)) (L : List UInt8) : cellsOf (xs ++ [L]) = cellsOf xs ++ L.map bv := by simp [cellsOf]
theorem Wide.cons {L : List UInt8} {bs : List (List UInt8)} (h : Wide (L :: bs)) : L.length = 512 ∧ Wide bs := ⟨h L (by simp), fun M hM => h M (by simp [hM])⟩
theorem Wide.snoc {L : List UInt8} {bs : List (List UInt8)} (h : Wide bs) (hL : L.length = 512) : Wide (bs ++ [L]) := by
  intro M hM
  rcases List.mem_append.1 hM with h1 | h1
  · exact h M h1
  · rw [List.mem_singleton.1 h1]; exact hL
theorem Wide.set {L : List UInt8} {bs : List (List UInt8)} (h : Wide bs) (hL : L.length = 512) (k : Nat) : Wide (bs.set k L) := by
  intro M hM
  rcases List.mem_or_eq_of_mem_set hM with h1 | h1
  · exact h M h1
  · rw [h1]; exact hL
theorem cellsOf_len : ∀ {bs : List (List UInt8)}, Wide bs → (cellsOf bs).length = bs.length * 512
  | [], _ => rfl
  | L :: r, h => by
    rw [cellsOf_cons, List.length_append, List.length_map, h.cons.1, cellsOf_len h.cons.2, List.length_cons]; omega
theorem cellsOf_one (bs : List (List UInt8)) : ∀ v ∈ cellsOf bs, v.oneCell' = true := by
  intro v hv
  obtain ⟨L, _, h⟩ := List.mem_flatMap.1 hv
  exact bv_one L v h
/-- The k-th block among the cells. -/
theorem cellsOf_at : ∀ {bs : List (List UInt8)}, Wide bs → ∀ (k : Nat) (hk : k < bs.length) (j : Nat), j < 512 → (cellsOf bs)[k * 512 + j]? = (bs[k].map bv)[j]?
  | [], _, k, hk, _, _ => by simp at hk
  | L :: r, h, 0, _, j, hj => by
    have hl : (L.map bv).length = 512 := by rw [List.length_map]; exact h.cons.1
    rw [cellsOf_cons, Nat.zero_mul, Nat.zero_add, List.getElem?_append_left (by rw [hl]; exact hj)]; rfl
  | L :: r, h, k + 1, hk, j, hj => by
    have hl : (L.map bv).length = 512 := by rw [List.length_map]; exact h.cons.1
    rw [cellsOf_cons, List.getElem?_append_right (by rw [hl]; omega), hl]
    have e : (k + 1) * 512 + j - 512 = k * 512 + j := by omega
    rw [e, cellsOf_at h.cons.2 k (by simpa using hk) j hj]
    rfl
theorem cellsOf_set : ∀ {bs : List (List UInt8)}, Wide bs → ∀ (k : Nat), k < bs.length → ∀ (L : List UInt8), L.length = 512 → cellsOf (bs.set k L) = (cellsOf bs).take (k * 512) ++ L.map bv ++ (cellsOf bs).drop (k * 512 + 512)
  | [], _, k, hk, _, _ => by simp at hk
  | M :: r, h, 0, _, L, hL => by
    have hl : (M.map bv).length = 512 := by rw [List.length_map]; exact h.cons.1
    have e : (M.map bv ++ cellsOf r).drop (0 * 512 + 512) = cellsOf r := by
      rw [List.drop_append_of_le_length (by rw [hl]; omega), List.drop_eq_nil_of_le (by rw [hl]; omega)]; rfl
    rw [List.set_cons_zero, cellsOf_cons, cellsOf_cons, e, Nat.zero_mul, List.take_zero]
    rfl
  | M :: r, h, k + 1, hk, L, hL => by
    have hl : (M.map bv).length = 512 := by rw [List.length_map]; exact h.cons.1
    rw [List.set_cons_succ, cellsOf_cons, cellsOf_cons, cellsOf_set h.cons.2 k (by simpa using hk) L hL]
    have e1 : (k + 1) * 512 = (M.map bv).length + k * 512 := by omega
    have e2 : (k + 1) * 512 + 512 = (M.map bv).length + (k * 512 + 512) := by rw [e1, Nat.add_assoc]
    rw [e2, e1, List.take_length_add_append, List.drop_length_add_append]
    simp [List.append_assoc]

/-- A row of blocks in memory. -/
abbrev Blks (w : World) (v : Value) (bs : List (List UInt8)) : Prop := w.ownsRow 0 72 512 v bs.length (cellsOf bs)

theorem Blks.range {w : World} {q cap : Nat} {bs : List (List UInt8)} {n : Nat} (hw : Wide bs) (h : Blks w (.slice (some ⟨q, 0, none⟩) n cap) bs) (k : Nat) (hk : k < bs.length) : w.rangeAt q (k * 512) (bs[k].map bv) := by
  intro j v hj
  have hjl : j < 512 := by
    have := (List.getElem?_eq_some_iff.1 hj).1
    rw [List.length_map, hw _ (List.getElem_mem hk)] at this
    exact this
  have h1 := World.ownsRow.cells h (g := q) rfl (k * 512 + j) v (by rw [cellsOf_at hw k hk j hjl]; exact hj)
  rw [addr_add, Nat.zero_add] at h1
  exact h1

/-- The writes that are pending: the map, and for each block the row of its writes. -/
structure PendAt (w : World) (F : Nat → Prop) (m g n N : Nat) (pend : Nat → List (List UInt8)) (vf : Nat → Value) (D : DataW Value) : Prop where
  own : w.ownsMap Try.prog 3 rawE m N D
  at_ : ∀ k : Nat, k < n → D.atKey (.int .i64 k) (.held nilS) = .held (vf k)
  has : ∀ kl, Maps.has D kl = true ↔ ∃ k : Nat, k < n ∧ pend k ≠ [] ∧ kl = .int .i64 k
  rows : ∀ k, Blks w (vf k) (pend k)
  len : ∀ k, (pend k).length ≤ N
  foot : ∀ k q, (vf k).ownBlock = some q → F q ∧ q ≠ g
  apart : ∀ k k' q, (vf k).ownBlock = some q → (vf k').ownBlock = some q → k = k'
  wide : ∀ k, Wide (pend k)
  out : ∀ k, n ≤ k → pend k = []

/-- What a device is. -/
structure St where
  safe : List (List UInt8)
  pend : Nat → List (List UInt8)
  fused : Bool
  fuse : Int
  down : Bool
  ops : Int

structure DevIn (w : World) (b : Nat) (F : Nat → Prop) (N : Nat) (S : St) (g c m : Nat) (vf : Nat → Value) (D : DataW Value) : Prop where
  dev : DevAt w b (.slice (some ⟨g, 0, none⟩) S.safe.length c) (.map (some m)) S.fused S.fuse S.down S.ops
  safe : Blks w (.slice (some ⟨g, 0, none⟩) S.safe.length c) S.safe
  wide : Wide S.safe
  pend : PendAt w F m g S.safe.length N S.pend vf D
  fb : F b
  fg : F g
  fm : F m
  f1 : 0 ≤ S.fuse
  f2 : S.fuse < 9223372036854775808
  o1 : 0 ≤ S.ops
  o2 : S.ops ≤ N
  n1 : 64 ≤ S.safe.length
  n2 : S.safe.length ≤ 512

/-- The device at block b, all that it has among the blocks of F; N: no list is longer. -/
def Dev (w : World) (b : Nat) (F : Nat → Prop) (N : Nat) (S : St) : Prop := ∃ g c m vf D, DevIn w b F N S g c m vf D

/-- Nothing that was there has turned but blocks of F. -/
structure Kept (F : Nat → Prop) (w w' : World) : Prop where
  os : w'.os = w.os
  tape : w'.tape = w.tape
  output : w'.output = w.output
  size : w.heap.size ≤ w'.heap.size
  block : ∀ k, k < w.heap.size → ¬ F k → w'.heap[k]? = w.heap[k]?

theorem Kept.refl (F : Nat → Prop) (w : World) : Kept F w w := ⟨rfl, rfl, rfl, Nat.le_refl _, fun _ _ _ => rfl⟩
theorem Kept.trans {F : Nat → Prop} {a b c : World} (h : Kept F a b) (k : Kept F b c) : Kept F a c :=
  ⟨k.os.trans h.os, k.tape.trans h.tape, k.output.trans h.output, Nat.le_trans h.size k.size, fun i hi hn => (k.block i (Nat.lt_of_lt_of_le hi h.size) hn).trans (h.block i hi hn)⟩
theorem Kept.mono {F G : Nat → Prop} {a b : World} (h : Kept F a b) (hFG : ∀ k, k < a.heap.size → F k → G k) : Kept G a b :=
  ⟨h.os, h.tape, h.output, h.size, fun i hi hn => h.block i hi fun hf => hn (hFG i hi hf)⟩
theorem Kept.below {F : Nat → Prop} {a b : World} {B : Nat} (h : Kept F a b) (hB : B ≤ a.heap.size) (hF : ∀ k, F k → B ≤ k) : Below B a b :=
  ⟨h.os, h.tape, h.output, h.size, fun i hi => h.block i (by omega) fun hf => by have := hF i hf; omega⟩
theorem Kept.of_below {F : Nat → Prop} {a b : World} (h : Below a.heap.size a b) : Kept F a b := ⟨h.os, h.tape, h.output, h.size, fun i hi _ => h.block i hi⟩
theorem Kept.of_only {F : Nat → Prop} {a b : World} {k : Nat} (h : Only k a b) (hk : F k) : Kept F a b :=
  ⟨(h.below 0 (Nat.zero_le _)).os, (h.below 0 (Nat.zero_le _)).tape, (h.below 0 (Nat.zero_le _)).output, by rw [h.size]; exact Nat.le_refl _, fun i hi hn => h.other i fun e => hn (e ▸ hk)⟩
theorem Kept.of_grown {F : Nat → Prop} {a b : World} {row : Option Nat} (h : a.grownBy b row) (hk : ∀ k, row = some k → F k) : Kept F a b :=
  ⟨h.os, h.tape, h.output, h.size, fun i hi hn => h.block i hi fun e => hn (hk i e.symm)⟩

/-- A row of blocks, where its block of memory stands. -/
theorem Blks.frame {w w' : World} {v : Value} {bs : List (List UInt8)} (h : Blks w v bs) (hk : ∀ q, v.ownBlock = some q → q < w.heap.size → w'.heap[q]? = w.heap[q]?) : Blks w' v bs := by
  obtain ⟨h1, h2⟩ := h
  refine ⟨h1, ?_⟩
  rcases h2 with h2 | ⟨q, cap, cur, rfl, hb, hg, r⟩
  · exact .inl h2
  · exact .inr ⟨q, cap, cur, rfl, hb, (hk q rfl (lt_of_block hg)).trans hg, r⟩

theorem ownsMap_frame {H : Type} {P : Program} {k : TypeId} {R : Value → Option (DataW H × List MemPlace)} {w w' : World} {b n : Nat} {D : DataW H} (h : w.ownsMap P k R b n D) (hk : w'.heap[b]? = w.heap[b]?) : w'.ownsMap P k R b n D := by
  obtain ⟨es, clock, hb, r⟩ := h
  exact ⟨es, clock, hk.trans hb, r⟩

theorem PendAt.frame {w w' : World} {F : Nat → Prop} {m g n N : Nat} {pend : Nat → List (List UInt8)} {vf : Nat → Value} {D : DataW Value} (h : PendAt w F m g n N pend vf D) (hm : F m) (hk : ∀ k, F k → k < w.heap.size → w'.heap[k]? = w.heap[k]?) : PendAt w' F m g n N pend vf D :=
  { h with own := ownsMap_frame h.own (hk m hm h.own.lt), rows := fun k => Blks.frame (h.rows k) fun q hq hlt => hk q (h.foot k q hq).1 hlt }

theorem DevIn.frame {w w' : World} {b : Nat} {F : Nat → Prop} {N : Nat} {S : St} {g c m : Nat} {vf : Nat → Value} {D : DataW Value} (h : DevIn w b F N S g c m vf D) (hk : ∀ k, F k → k < w.heap.size → w'.heap[k]? = w.heap[k]?) : DevIn w' b F N S g c m vf D :=
  { h with dev := (hk b h.fb h.dev.lt).trans h.dev, safe := Blks.frame h.safe fun q hq hlt => hk q (by cases hq; exact h.fg) hlt, pend := h.pend.frame h.fm hk }
theorem Dev.frame {w w' : World} {b : Nat} {F : Nat → Prop} {N : Nat} {S : St} (h : Dev w b F N S) (hk : ∀ k, F k → k < w.heap.size → w'.heap[k]? = w.heap[k]?) : Dev w' b F N S := by
  obtain ⟨g, c, m, vf, D, h⟩ := h
  exact ⟨g, c, m, vf, D, h.frame hk⟩
theorem Dev.grown {w w' : World} {b : Nat} {F : Nat → Prop} {N : Nat} {S : St} (h : Dev w b F N S) (hb : Below w.heap.size w w') : Dev w' b F N S := h.frame fun k _ hk => hb.block k hk
theorem PendAt.mono {w : World} {F G : Nat → Prop} {m g n N M : Nat} {pend : Nat → List (List UInt8)} {vf : Nat → Value} {D : DataW Value} (h : PendAt w F m g n N pend vf D) (hF : ∀ k, F k → G k) (hN : N ≤ M) : PendAt w G m g n M pend vf D :=
  { h with own := h.own.mono hN, len := fun k => Nat.le_trans (h.len k) hN, foot := fun k q hq => ⟨hF _ (h.foot k q hq).1, (h.foot k q hq).2⟩ }
theorem Dev.mono {w : World} {b : Nat} {F G : Nat → Prop} {N M : Nat} {S : St} (h : Dev w b F N S) (hF : ∀ k, F k → G k) (hN : N ≤ M) : Dev w b G M S := by
  obtain ⟨g, c, m, vf, D, h⟩ := h
  exact ⟨g, c, m, vf, D, { h with pend := h.pend.mono hF hN, fb := hF _ h.fb, fg := hF _ h.fg, fm := hF _ h.fm, o2 := by have := h.o2; omega }⟩

theorem keyedInt : Keyed Try.prog 3 := int_keyed Try.underlying3
theorem zeroBlocks (w : World) : (zeroValue 55).run Try.prog w = .ok nilS w := by kernel_rfl
theorem key_int (k : Nat) (h : k < 9223372036854775808) : keyOf Try.prog 3 (.int .i64 k) = some (.int .i64 k) := keyOf_int_mk Try.underlying3 (WalkArith.wf_i64 (by omega))

/-- What the map holds at a block's number. -/
theorem look_of {w : World} {m N : Nat} {D : DataW Value} {v : Value} (h : w.ownsMap Try.prog 3 rawE m N D) (k : Nat) (hk : k < 9223372036854775808) (hat : D.atKey (.int .i64 k) (.held nilS) = .held v) :
    (Instr.lookup 56 (.map (some m)) (.int .i64 k) false).run Try.prog w = .ok v w := by
  obtain ⟨u, ps, hrun, hv⟩ := h.lookup keyedInt Try.underlying56 (zeroBlocks w) (zd := .held nilS) (zp := []) rfl (key_int k hk)
  rw [hat] at hv
  simp only [rawE, Option.some.injEq, Prod.mk.injEq, DataW.held.injEq] at hv
  rw [hrun, hv.1]
theorem PendAt.look {w : World} {F : Nat → Prop} {m g n N : Nat} {pend : Nat → List (List UInt8)} {vf : Nat → Value} {D : DataW Value} (h : PendAt w F m g n N pend vf D) (k : Nat) (hk : k < n) (hn : n ≤ 512) :
    (Instr.lookup 56 (.map (some m)) (.int .i64 k) false).run Try.prog w = .ok (vf k) w := look_of h.own k (by omega) (h.at_ k hk)
end Go.Proofs.Ytbgaomfoiooegaa
