/-
  DERIVED. Things in a list that is linked by pointers, both ways: what lies where, and how it is taken out and put to the end.
-/
import Derived.Test.YtmhlfbgchhmffaaCbase
import Derived.Maps.OwnSet
import Derived.Maps.AppendAt
namespace Go.Proofs.Ytmhlfbgchhmffaa
open Go.RowKit Go.Maps
set_option linter.unusedVariables false

/-- A thing: its block, key, value, whether it is dirty, its pins. -/
structure Th (κ ν : Type) where
  b : Nat
  k : κ
  v : ν
  d : Bool
  p : Nat

def ptr : Option Nat → Value
  | none => .pointer none
  | some b => .pointer (some ⟨b, 0, none⟩)

section
variable {κ ν : Type}
def hd : List (Th κ ν) → Option Nat → Option Nat
  | [], n => n
  | t :: _, _ => some t.b
def lst : Option Nat → List (Th κ ν) → Option Nat
  | p, [] => p
  | _, t :: r => lst (some t.b) r
theorem ptr_none : ptr none = .pointer none := rfl
theorem ptr_some (b : Nat) : ptr (some b) = .pointer (some ⟨b, 0, none⟩) := rfl
theorem hd_nil (n : Option Nat) : hd ([] : List (Th κ ν)) n = n := rfl
theorem hd_append : ∀ (A B : List (Th κ ν)) (n : Option Nat), hd (A ++ B) n = hd A (hd B n)
  | [], _, _ => rfl
  | _ :: _, _, _ => rfl
theorem lst_append : ∀ (A B : List (Th κ ν)) (p : Option Nat), lst p (A ++ B) = lst (lst p A) B
  | [], _, _ => rfl
  | t :: r, B, _ => lst_append r B (some t.b)
theorem lst_snoc (A : List (Th κ ν)) (x : Th κ ν) (p : Option Nat) : lst p (A ++ [x]) = some x.b := by rw [lst_append]; rfl
theorem hd_cons (x : Th κ ν) (B : List (Th κ ν)) (n : Option Nat) : hd (x :: B) n = some x.b := rfl
theorem hd_mem : ∀ (L : List (Th κ ν)), L ≠ [] → ∃ t r, L = t :: r ∧ hd L none = some t.b
  | [], h => absurd rfl h
  | t :: r, _ => ⟨t, r, rfl, rfl⟩

variable (kv : κ → Value) (vv : ν → Value) (tt tl : TypeId)
def tcells (t : Th κ ν) (p n : Option Nat) : Array Value := #[kv t.k, vv t.v, .bool t.d, .int .i64 (t.p : Int), ptr p, ptr n]
def Seg (w : World) : Option Nat → List (Th κ ν) → Option Nat → Prop
  | _, [], _ => True
  | p, t :: r, n => w.heap[t.b]? = some (.cells (tcells kv vv t p (hd r n)) tt (0, 0)) ∧ Seg w (some t.b) r n
variable {kv vv tt tl}
theorem Seg_append {w : World} : ∀ (A B : List (Th κ ν)) (p n : Option Nat), Seg kv vv tt w p (A ++ B) n ↔ Seg kv vv tt w p A (hd B n) ∧ Seg kv vv tt w (lst p A) B n
  | [], B, p, n => by simp [Seg, lst]
  | t :: r, B, p, n => by
    rw [List.cons_append, Seg, Seg, Seg_append r B (some t.b) n, hd_append, and_assoc]
    rfl
theorem Seg.kept {w w' : World} : ∀ {L : List (Th κ ν)} {p n : Option Nat}, Seg kv vv tt w p L n → (∀ t ∈ L, w'.heap[t.b]? = w.heap[t.b]?) → Seg kv vv tt w' p L n
  | [], _, _, _, _ => trivial
  | t :: r, p, n, h, k => ⟨(k t (by simp)).trans h.1, Seg.kept h.2 (fun x hx => k x (by simp [hx]))⟩
theorem Seg.blk {w : World} : ∀ {L : List (Th κ ν)} {p n : Option Nat}, Seg kv vv tt w p L n → ∀ t ∈ L, ∃ C, w.heap[t.b]? = some (.cells C tt (0, 0))
  | t :: r, p, n, h, x, hx => by
    rcases List.mem_cons.1 hx with rfl | hx
    · exact ⟨_, h.1⟩
    · exact h.2.blk x hx
/-- The last one's newer one is another. -/
theorem Seg.last {w w' : World} {A : List (Th κ ν)} {x : Th κ ν} {p n n' : Option Nat} (h : Seg kv vv tt w p (A ++ [x]) n) (hx : w'.heap[x.b]? = some (.cells (tcells kv vv x (lst p A) n') tt (0, 0))) (k : ∀ t ∈ A, w'.heap[t.b]? = w.heap[t.b]?) : Seg kv vv tt w' p (A ++ [x]) n' := by
  rw [Seg_append] at h ⊢
  exact ⟨h.1.kept k, hx, trivial⟩
/-- The first one's older one is another. -/
theorem Seg.first {w w' : World} {B : List (Th κ ν)} {y : Th κ ν} {p p' n : Option Nat} (h : Seg kv vv tt w p (y :: B) n) (hy : w'.heap[y.b]? = some (.cells (tcells kv vv y p' (hd B n)) tt (0, 0))) (k : ∀ t ∈ B, w'.heap[t.b]? = w.heap[t.b]?) : Seg kv vv tt w' p' (y :: B) n :=
  ⟨hy, h.2.kept k⟩

variable (kv vv tt tl)
/-- The list at block l. -/
structure Ls (w : World) (l : Nat) (L : List (Th κ ν)) : Prop where
  blk : w.heap[l]? = some (.cells #[ptr (hd L none), ptr (lst none L), .int .i64 (L.length : Int)] tl (0, 0))
  seg : Seg kv vv tt w none L none
  nd : (L.map (·.b)).Nodup
variable {kv vv tt tl}
theorem Ls.lt {w : World} {l : Nat} {L : List (Th κ ν)} (h : Ls kv vv tt tl w l L) : l < w.heap.size := lt_of_block h.blk
theorem Ls.kept {w w' : World} {l : Nat} {L : List (Th κ ν)} (h : Ls kv vv tt tl w l L) (hl : w'.heap[l]? = w.heap[l]?) (k : ∀ t ∈ L, w'.heap[t.b]? = w.heap[t.b]?) : Ls kv vv tt tl w' l L := ⟨hl.trans h.blk, h.seg.kept k, h.nd⟩
theorem Ls.ne {w : World} {l : Nat} {L : List (Th κ ν)} (h : Ls kv vv tt tl w l L) (ht : tl ≠ tt) : ∀ t ∈ L, t.b ≠ l := fun t hm e => by
  obtain ⟨C, hc⟩ := h.seg.blk t hm
  rw [e, h.blk] at hc
  cases hc
  exact ht rfl
/-- A thing of it, as it lies. -/
theorem Ls.at {w : World} {l : Nat} {L1 L2 : List (Th κ ν)} {t : Th κ ν} (h : Ls kv vv tt tl w l (L1 ++ t :: L2)) : w.heap[t.b]? = some (.cells (tcells kv vv t (lst none L1) (hd L2 none)) tt (0, 0)) := by
  have := h.seg
  rw [Seg_append] at this
  exact this.2.1
theorem Ls.split {w : World} {l : Nat} {L1 L2 : List (Th κ ν)} {t : Th κ ν} (h : Ls kv vv tt tl w l (L1 ++ t :: L2)) : Seg kv vv tt w none L1 (some t.b) ∧ Seg kv vv tt w (some t.b) L2 none := by
  have := h.seg
  rw [Seg_append] at this
  exact ⟨this.1, this.2.2⟩
theorem nd_mid {L1 L2 : List (Th κ ν)} {t : Th κ ν} (h : ((L1 ++ t :: L2).map (·.b)).Nodup) : (∀ x ∈ L1, x.b ≠ t.b) ∧ (∀ x ∈ L2, x.b ≠ t.b) ∧ (∀ x ∈ L1, ∀ y ∈ L2, x.b ≠ y.b) ∧ ((L1 ++ L2).map (·.b)).Nodup := by
  rw [List.map_append, List.map_cons] at h
  have h1 := List.nodup_append.1 h
  obtain ⟨a1, a2, a3⟩ := h1
  have a4 := List.nodup_cons.1 a2
  refine ⟨fun x hx => a3 _ (List.mem_map.2 ⟨x, hx, rfl⟩) _ (by simp), fun x hx e => a4.1 (e ▸ List.mem_map.2 ⟨x, hx, rfl⟩), fun x hx y hy => a3 _ (List.mem_map.2 ⟨x, hx, rfl⟩) _ (List.mem_cons_of_mem _ (List.mem_map.2 ⟨y, hy, rfl⟩)), ?_⟩
  rw [List.map_append]
  exact List.nodup_append.2 ⟨a1, a4.2, fun x hx y hy => a3 x hx y (List.mem_cons_of_mem _ hy)⟩
theorem nd_snoc {A : List (Th κ ν)} {x : Th κ ν} (h : ((A ++ [x]).map (·.b)).Nodup) : ∀ y ∈ A, y.b ≠ x.b := (nd_mid (L2 := []) h).1

theorem set4 (t : Th κ ν) (p p' n : Option Nat) (tt : TypeId) : (tcells kv vv t p n).setIfInBounds 4 (ptr p') = tcells kv vv t p' n := rfl
theorem set5 (t : Th κ ν) (p n n' : Option Nat) (tt : TypeId) : (tcells kv vv t p n).setIfInBounds 5 (ptr n') = tcells kv vv t p n' := rfl

/-- Nothing but these blocks has turned. -/
structure But (F : Nat → Prop) (w w' : World) : Prop where
  os : w'.os = w.os
  tape : w'.tape = w.tape
  output : w'.output = w.output
  size : w'.heap.size = w.heap.size
  block : ∀ k, ¬ F k → w'.heap[k]? = w.heap[k]?
theorem But.refl (F : Nat → Prop) (w : World) : But F w w := ⟨rfl, rfl, rfl, rfl, fun _ _ => rfl⟩
theorem But.set {F : Nat → Prop} {w w' : World} (h : But F w w') {b i : Nat} (hb : F b) (v : Value) : But F w (w'.setCell ⟨b, i, none⟩ v) :=
  ⟨h.os, h.tape, h.output, by simpa using h.size, fun k hk => (Below.heap_setCell w' ⟨b, i, none⟩ v k (fun e => hk (by rw [e]; exact hb))).trans (h.block k hk)⟩
theorem But.drewN {F : Nat → Prop} {w w' : World} (h : But F w w') (n : Nat) : But F w (w'.drewN n) := ⟨h.os, h.tape, h.output, h.size, h.block⟩
theorem But.drew {F : Nat → Prop} {w w' : World} (h : But F w w') : But F w w'.drew := ⟨h.os, h.tape, h.output, h.size, h.block⟩
theorem But.trans {F G : Nat → Prop} {a b c : World} (h : But F a b) (k : But G b c) (hFG : ∀ i, G i → F i) : But F a c :=
  ⟨k.os.trans h.os, k.tape.trans h.tape, k.output.trans h.output, k.size.trans h.size, fun i hi => (k.block i (fun e => hi (hFG i e))).trans (h.block i hi)⟩
theorem But.mono {F G : Nat → Prop} {a b : World} (h : But F a b) (hFG : ∀ i, F i → G i) : But G a b := ⟨h.os, h.tape, h.output, h.size, fun i hi => h.block i (fun e => hi (hFG i e))⟩
/-- The blocks of a list. -/
def lsB (l : Nat) (L : List (Th κ ν)) : Nat → Prop := fun k => k = l ∨ ∃ x ∈ L, x.b = k
end
end Go.Proofs.Ytmhlfbgchhmffaa
