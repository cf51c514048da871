/-
  DERIVED. The cache in memory, and the walk of find (its deferred closure finds nothing to recover), at one instance.
-/
import Derived.Test.YtmhlfbgchhmffaaClist2Ii
import Derived.Defers
import Derived.Recover
namespace Go.Proofs.Ytmhlfbgchhmffaa.Ii
open Go.RowKit Go.Maps Go.Proofs.Ytmhlfbgchhmffaa
set_option linter.unusedVariables false

abbrev good (k : Int) : Prop := -9223372036854775808 ≤ k ∧ k ≤ 9223372036854775807
def lit (k : Int) : Lit := .int .i64 k
theorem lit_inj {a b : Int} (h : lit a = lit b) : a = b := by cases h; rfl
theorem lit_key {k : Int} (h : good k) : keyOf Try.prog 3 (.int .i64 k) = some (lit k) := keyOf_int_mk Try.underlying3 (by
  have hmin : IntKind.i64.min = -9223372036854775808 := rfl
  have hmax : IntKind.i64.max = 9223372036854775807 := rfl
  simp only [Lit.wf, Bool.and_eq_true, decide_eq_true_eq]
  omega)
theorem lit_is (k : Int) : WideAt.IsKeyLit (lit k) := trivial
theorem keyed : Keyed Try.prog 3 := int_keyed Try.underlying3

/-- The block of a key's thing. -/
def fnd (L : List T) (k : Int) : Option Nat := (L.find? (fun t => decide (t.k = k))).map (·.b)
theorem fnd_none {L : List T} {k : Int} : fnd L k = none ↔ ∀ t ∈ L, t.k ≠ k := by
  unfold fnd
  rw [Option.map_eq_none_iff, List.find?_eq_none]
  simp
theorem fnd_some {L : List T} {k : Int} {b : Nat} (h : fnd L k = some b) : ∃ L1 t L2, L = L1 ++ t :: L2 ∧ t.k = k ∧ t.b = b ∧ ∀ x ∈ L1, x.k ≠ k := by
  unfold fnd at h
  rw [Option.map_eq_some_iff] at h
  obtain ⟨t, h1, h2⟩ := h
  rw [List.find?_eq_some_iff_append] at h1
  obtain ⟨h1, A, B, h3, h4⟩ := h1
  exact ⟨A, t, B, h3, by simpa using h1, h2, fun x hx => by simpa using h4 x hx⟩
/-- Which block holds a key is told by the things, not by their order. -/
theorem fnd_mid {L1 L2 : List T} {t : T} (h : ∀ x ∈ L1, x.k ≠ t.k) : fnd (L1 ++ t :: L2) t.k = some t.b := by
  unfold fnd
  rw [List.find?_append, List.find?_eq_none.2 (by simpa using h)]
  simp
theorem fnd_mem {L : List T} (hn : (L.map (·.k)).Nodup) {t : T} (h : t ∈ L) : fnd L t.k = some t.b := by
  obtain ⟨L1, L2, rfl⟩ := List.append_of_mem h
  refine fnd_mid (fun x hx e => ?_)
  rw [List.map_append] at hn
  exact (List.nodup_append.1 hn).2.2 x.k (List.mem_map.2 ⟨x, hx, rfl⟩) t.k (by simp) e
theorem fnd_same {L L' : List T} (hn : (L.map (·.k)).Nodup) (hn' : (L'.map (·.k)).Nodup) (h : ∀ b k, (∃ t ∈ L, t.b = b ∧ t.k = k) ↔ ∃ t ∈ L', t.b = b ∧ t.k = k) (k : Int) : fnd L k = fnd L' k := by
  cases e : fnd L k with
  | none =>
    symm
    rw [fnd_none] at e ⊢
    intro t ht hk
    obtain ⟨s, hs, _, h2⟩ := (h t.b t.k).2 ⟨t, ht, rfl, rfl⟩
    exact e s hs (h2.trans hk)
  | some b =>
    obtain ⟨L1, t, L2, rfl, rfl, rfl, _⟩ := fnd_some e
    obtain ⟨s, hs, h1, h2⟩ := (h t.b t.k).1 ⟨t, by simp, rfl, rfl⟩
    rw [← h2, ← h1]
    exact (fnd_mem hn' hs).symm

/-- A map's element, as it is. -/
def rawE (v : Value) : Option (DataW Value × List MemPlace) := some (.held v, [])

structure CIn (w : World) (N c M Z m l n : Nat) (D : DataW Value) (L : List T) : Prop where
  cb : w.heap[c]? = some (.cells #[.int .i64 (M : Int), .map (some m), .pointer (some ⟨l, 0, none⟩)] 74 (0, 0))
  ls : LsAt w l L
  own : w.ownsMap Try.prog 3 rawE m n D
  at_ : ∀ k, D.atKey (lit k) (.held (.pointer none)) = .held (ptr (fnd L k))
  keys : (L.map (·.k)).Nodup
  nc : N ≤ c
  nm : N ≤ m
  nl : N ≤ l
  nb : ∀ t ∈ L, N ≤ t.b
  len : L.length ≤ M
  m1 : 1 ≤ M
  m2 : M ≤ 1024
  nz : n ≤ Z
  pz : ∀ t ∈ L, t.p ≤ Z
  gk : ∀ t ∈ L, good t.k
/-- The cache at block c: at most M things, these; all its blocks from N on. Z: no more calls were made. -/
def CAt (w : World) (N c M Z : Nat) (L : List T) : Prop := ∃ m l n D, CIn w N c M Z m l n D L

abbrev tcI : TypeId := 74
abbrev tlI : TypeId := 72
abbrev ttI : TypeId := 111
def mineO : Obj → Prop
  | .cells _ t _ => t = 74 ∨ t = 72 ∨ t = 111
  | .map _ _ => True
  | _ => False
/-- A block of a cache's kinds. -/
def mine (w : World) (k : Nat) : Prop := ∃ o, w.heap[k]? = some o ∧ mineO o
/-- Nothing below N has turned, and nothing of other kinds. -/
structure Fr (N : Nat) (w w' : World) : Prop where
  os : w'.os = w.os
  tape : w'.tape = w.tape
  output : w'.output = w.output
  size : w.heap.size ≤ w'.heap.size
  block : ∀ k, k < w.heap.size → (k < N ∨ ¬ mine w k) → w'.heap[k]? = w.heap[k]?
theorem Fr.refl (N : Nat) (w : World) : Fr N w w := ⟨rfl, rfl, rfl, Nat.le_refl _, fun _ _ _ => rfl⟩
theorem Fr.trans {N : Nat} {a b c : World} (h : Fr N a b) (k : Fr N b c) : Fr N a c :=
  ⟨k.os.trans h.os, k.tape.trans h.tape, k.output.trans h.output, Nat.le_trans h.size k.size, fun i hi hn => by
    have e := h.block i hi hn
    refine (k.block i (Nat.lt_of_lt_of_le hi h.size) ?_).trans e
    rcases hn with hn | hn
    · exact .inl hn
    · exact .inr (fun ⟨o, h1, h2⟩ => hn ⟨o, e ▸ h1, h2⟩)⟩
theorem Fr.of_below {N : Nat} {a b : World} (h : Below a.heap.size a b) : Fr N a b := ⟨h.os, h.tape, h.output, h.size, fun i hi _ => h.block i hi⟩
theorem Fr.of_but {N : Nat} {F : Nat → Prop} {a b : World} (h : But F a b) (hF : ∀ k, F k → N ≤ k ∧ mine a k) : Fr N a b :=
  ⟨h.os, h.tape, h.output, by rw [h.size]; exact Nat.le_refl _, fun i hi hn => h.block i (fun hf => by
    obtain ⟨h1, h2⟩ := hF i hf
    rcases hn with hn | hn
    · omega
    · exact hn h2)⟩
theorem Fr.below {N : Nat} {a b : World} (h : Fr N a b) (hN : N ≤ a.heap.size) : Below N a b := ⟨h.os, h.tape, h.output, h.size, fun i hi => h.block i (by omega) (.inl hi)⟩

theorem CIn.grown {w w' : World} {N c M Z m l n : Nat} {D : DataW Value} {L : List T} (h : CIn w N c M Z m l n D L) (hb : ∀ k, k < w.heap.size → mine w k → w'.heap[k]? = w.heap[k]?) : CIn w' N c M Z m l n D L := by
  obtain ⟨es, clock, hm, hF, hs, hD⟩ := h.own
  refine ⟨(hb c (lt_of_block h.cb) ⟨_, h.cb, .inl rfl⟩).trans h.cb, h.ls.kept (hb l h.ls.lt ⟨_, h.ls.blk, .inr (.inl rfl)⟩) (fun t ht => ?_), ⟨es, clock, (hb m (lt_of_block hm) ⟨_, hm, trivial⟩).trans hm, hF, hs, hD⟩, h.at_, h.keys, h.nc, h.nm, h.nl, h.nb, h.len, h.m1, h.m2, h.nz, h.pz, h.gk⟩
  obtain ⟨C, hC⟩ := h.ls.seg.blk t ht
  exact hb t.b (lt_of_block hC) ⟨_, hC, .inr (.inr rfl)⟩
theorem CAt.grown {w w' : World} {N c M Z : Nat} {L : List T} (h : CAt w N c M Z L) (hb : ∀ k, k < w.heap.size → mine w k → w'.heap[k]? = w.heap[k]?) : CAt w' N c M Z L := by
  obtain ⟨m, l, n, D, h⟩ := h
  exact ⟨m, l, n, D, h.grown hb⟩
theorem CAt.below {w w' : World} {N c M Z : Nat} {L : List T} (h : CAt w N c M Z L) (hb : Below w.heap.size w w') : CAt w' N c M Z L := h.grown (fun k hk _ => hb.block k hk)
theorem CAt.mono {w : World} {N c M Z Z' : Nat} {L : List T} (h : CAt w N c M Z L) (hz : Z ≤ Z') : CAt w N c M Z' L := by
  obtain ⟨m, l, n, D, h⟩ := h
  exact ⟨m, l, n, D, h.cb, h.ls, h.own, h.at_, h.keys, h.nc, h.nm, h.nl, h.nb, h.len, h.m1, h.m2, Nat.le_trans h.nz hz, fun t ht => Nat.le_trans (h.pz t ht) hz, h.gk⟩

theorem zeroP (w : World) : (zeroValue 70).run Try.prog w = .ok (.pointer none) w := by kernel_rfl
theorem CIn.look {w W : World} {N c M Z m l n : Nat} {D : DataW Value} {L : List T} (h : CIn w N c M Z m l n D L) (hW : W.ownsMap Try.prog 3 rawE m n D) (k : Int) (hk : good k) :
    (Instr.lookup 68 (.map (some m)) (.int .i64 k) false).run Try.prog W = .ok (ptr (fnd L k)) W := by
  obtain ⟨v, ps, hrun, hv⟩ := hW.lookup keyed Try.underlying68 (zeroP W) (zd := .held (.pointer none)) (zp := []) rfl (lit_key hk)
  rw [h.at_ k] at hv
  have e : v = ptr (fnd L k) := by
    unfold rawE at hv
    simp at hv
    exact hv.1
  rw [hrun, e]

theorem catch_idle (p q : Addr) (w : World) :
    CallsD Try.prog 93 #[.pointer (some p), .pointer (some q)] .returning w fun e u' w' => e = .returned (.tuple #[]) ∧ u' = .returning ∧ w' = w := by
  refine callsD_of_wpS Try.func93 rfl fun c₀ cs hu => ?_
  apply wpS_seq
  apply wpS_region
  simp [wpOpsS, go_sem, recoverD, hu, Try.ntmps93, Exit.thenS]
  refine wpS_cond (t := false) (by simp [Act.eval, Array.replicate]) ?_
  simp only [Bool.false_eq_true, if_false]
  refine wpS_of_wp (wp_skip ?_)
  cases c₀
  simp_all [bodyPostS, results, Try.results93]

theorem below_set {B : Nat} {a w : World} (h : Below B a w) {b i : Nat} (hb : B ≤ b) (v : Value) : Below B a (w.setCell ⟨b, i, none⟩ v) := h.setCell hb v
set_option maxHeartbeats 1000000 in
theorem find_any (w : World) (N c M Z : Nat) (L : List T) (k : Int) (h : CAt w N c M Z L) (hk : good k) :
    Calls Try.prog 74 #[.pointer (some ⟨c, 0, none⟩), .int .i64 k] w fun e w' => e = .returned (.tuple #[ptr (fnd L k), .bool true]) ∧ Below w.heap.size w w' := by
  obtain ⟨m, l, n, D, h⟩ := h
  have hlk := h.look (h.own.alloc (.cells #[.pointer none] 70) |>.alloc (.cells #[.bool false] 4)) k hk
  have c1 : w.cell? ⟨c, 1, none⟩ = some (.map (some m)) := (cell_of_row _ _ _ _ _ _ h.cb).trans rfl
  have hc := lt_of_block h.cb
  have hmf : ∀ (fn : Fn) (first cap : Array Value) (w : World), (Instr.makeFunc fn first cap).run Try.prog w = .ok (.func fn first cap) w := fun _ _ _ _ => rfl
  clear h
  cases e : fnd L k with
  | none =>
    rw [e] at hlk
    unfold ptr at hlk
    clear e
    go_enter_defers Try.func74, Try.ntmps74
    go_wp2
    refine leaves_cons (f := 93) (args := #[.pointer (some ⟨w.heap.size, 0, none⟩), .pointer (some ⟨w.heap.size + 1, 0, none⟩)]) (by simp) (by simp [go_sem]) ?_
    refine (catch_idle ⟨w.heap.size, 0, none⟩ ⟨w.heap.size + 1, 0, none⟩ _).mono ?_
    rintro e u' w'' ⟨rfl, rfl, rfl⟩
    simp [Leaves, settle, results, Try.results74, go_sem, ptr]
    exact ((Below.refl w.heap.size w).alloc (Nat.le_refl _) _).alloc (by simp) _
  | some b =>
    rw [e] at hlk
    unfold ptr at hlk
    clear e
    go_enter_defers Try.func74, Try.ntmps74
    go_wp2
    refine leaves_cons (f := 93) (args := #[.pointer (some ⟨w.heap.size, 0, none⟩), .pointer (some ⟨w.heap.size + 1, 0, none⟩)]) (by simp) (by simp [go_sem]) ?_
    refine (catch_idle ⟨w.heap.size, 0, none⟩ ⟨w.heap.size + 1, 0, none⟩ _).mono ?_
    rintro e u' w'' ⟨rfl, rfl, rfl⟩
    simp [Leaves, settle, results, Try.results74, go_sem, ptr]
    exact ((Below.refl w.heap.size w).alloc (Nat.le_refl _) _).alloc (by simp) _
end Go.Proofs.Ytmhlfbgchhmffaa.Ii
