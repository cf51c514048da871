/-
  DERIVED. The index of streams in plain words and in memory.
-/
import Derived.Test.YtabcmmhmghgliaaXaparts
import Derived.Maps.OwnSet
import Derived.Maps.AppendAt
namespace Go.Proofs.Ytabcmmhmghgliaa
open Go.RowKit Go.Maps
set_option linter.unusedVariables false

/-- An event of the index: its stream, its number there. -/
structure Ent where
  s : List UInt8
  num : Nat
  e : Evn
/-- What the append of a key came to. -/
structure Kd where
  s : List UInt8
  first : Nat
  pos : Nat
  cnt : Nat
structure Ix where
  all : List Ent
  key : List UInt8 → Option Kd
def Ix.new : Ix := ⟨[], fun _ => none⟩

/-- A stream's places. -/
def plc (l : List Ent) (s : List UInt8) : List Nat := (l.zipIdx.filter fun x => x.1.s == s).map (·.2)
theorem plc_snoc (l : List Ent) (x : Ent) (s : List UInt8) : plc (l ++ [x]) s = plc l s ++ if x.s = s then [l.length] else [] := by
  unfold plc
  rw [List.zipIdx_append, List.filter_append, List.map_append]
  congr 1
  by_cases h : x.s = s
  · simp [h]
  · simp [h]
def Ix.ver (I : Ix) (s : List UInt8) : Nat := (plc I.all s).length
theorem plc_len (l : List Ent) (s : List UInt8) : (plc l s).length ≤ l.length := by
  unfold plc
  rw [List.length_map]
  have := List.length_filter_le (fun x : Ent × Nat => x.1.s == s) l.zipIdx
  simpa using this

abbrev nilS : Value := .slice none 0 0
/-- A map's element, as it is. -/
def rawE (v : Value) : Option (DataW Value × List MemPlace) := some (.held v, [])
def natV (n : Nat) : Value := .int .i64 (n : Int)
abbrev kdA (s : List UInt8) (f p c : Int) (b : Bool) : Array Value := #[sv s, .int .i64 f, .int .i64 p, .int .i64 c, .bool b]
def kdV : Option Kd → Value
  | none => .agg (kdA [] 0 0 0 false)
  | some k => .agg (kdA k.s k.first k.pos k.cnt false)

/-- Nothing that was there has turned but blocks of F. -/
structure Kept (F : Nat → Prop) (w w' : World) : Prop where
  os : w'.os = w.os
  tape : w'.tape = w.tape
  output : w'.output = w.output
  size : w.heap.size ≤ w'.heap.size
  block : ∀ k, k < w.heap.size → ¬ F k → w'.heap[k]? = w.heap[k]?
theorem Kept.refl (F : Nat → Prop) (w : World) : Kept F w w := ⟨rfl, rfl, rfl, Nat.le_refl _, fun _ _ _ => rfl⟩
theorem Kept.trans {F : Nat → Prop} {a b c : World} (h : Kept F a b) (k : Kept F b c) : Kept F a c :=
  ⟨k.os.trans h.os, k.tape.trans h.tape, k.output.trans h.output, Nat.le_trans h.size k.size, fun i hi hn => (k.block i (Nat.lt_of_lt_of_le hi h.size) hn).trans (h.block i hi hn)⟩
theorem Kept.mono {F G : Nat → Prop} {a b : World} (h : Kept F a b) (hFG : ∀ k, k < a.heap.size → F k → G k) : Kept G a b :=
  ⟨h.os, h.tape, h.output, h.size, fun i hi hn => h.block i hi fun hf => hn (hFG i hi hf)⟩
theorem Kept.below {F : Nat → Prop} {a b : World} {B : Nat} (h : Kept F a b) (hB : B ≤ a.heap.size) (hF : ∀ k, F k → B ≤ k) : Below B a b :=
  ⟨h.os, h.tape, h.output, h.size, fun i hi => h.block i (by omega) fun hf => by have := hF i hf; omega⟩
theorem Kept.of_below {F : Nat → Prop} {a b : World} (h : Below a.heap.size a b) : Kept F a b := ⟨h.os, h.tape, h.output, h.size, fun i hi _ => h.block i hi⟩
theorem Kept.of_grown {F : Nat → Prop} {a b : World} {row : Option Nat} (h : a.grownBy b row) (hk : ∀ k, row = some k → F k) : Kept F a b :=
  ⟨h.os, h.tape, h.output, h.size, fun i hi hn => h.block i hi fun e => hn (hk i e.symm)⟩
theorem ownsMap_frame {H : Type} {P : Program} {k : TypeId} {R : Value → Option (DataW H × List MemPlace)} {w w' : World} {b n : Nat} {D : DataW H} (h : w.ownsMap P k R b n D) (hk : w'.heap[b]? = w.heap[b]?) : w'.ownsMap P k R b n D := by
  obtain ⟨es, clock, hb, r⟩ := h
  exact ⟨es, clock, hk.trans hb, r⟩
theorem ownsRow_frame {w w' : World} {e : TypeId} {s n : Nat} {v : Value} {cs : List Value} (h : w.ownsRow 0 e s v n cs) (hk : ∀ q, v.ownBlock = some q → q < w.heap.size → w'.heap[q]? = w.heap[q]?) : w'.ownsRow 0 e s v n cs := by
  obtain ⟨h1, h2⟩ := h
  refine ⟨h1, ?_⟩
  rcases h2 with h2 | ⟨q, cap, cur, rfl, hb, hg, r⟩
  · exact .inl h2
  · exact .inr ⟨q, cap, cur, rfl, hb, (hk q rfl (lt_of_block hg)).trans hg, r⟩
theorem ownsRow_mark {w : World} {e : TypeId} {s n : Nat} {v : Value} {cs : List Value} (h : w.ownsRow 0 e s v n cs) {q : Nat} (hq : v.ownBlock = some q) : ∃ cur, w.heap[q]? = some (.cells cur e (0, 0)) := by
  rcases h.2 with ⟨rfl, _⟩ | ⟨g, cap, cur, rfl, hb, hg, r⟩
  · cases hq
  · cases hq; exact ⟨cur, hg⟩
theorem mark_ne {w : World} {b k : Nat} {A C : Array Value} {s t : TypeId} {p q : Nat × Nat} (h1 : w.heap[b]? = some (.cells A s p)) (h2 : w.heap[k]? = some (.cells C t q)) (hne : s ≠ t) : k ≠ b := by
  rintro rfl
  rw [h1] at h2
  simp only [Option.some.injEq, Obj.cells.injEq] at h2
  exact hne h2.2.1

/-- An entry's cells; the block of its fields. -/
def ecell (i : Nat) (x : Ent × Nat) : List Value := [natV i, sv x.1.s, natV x.1.num, sv x.1.e.type, .int .i64 x.1.e.ver, .slice (some ⟨x.2, 0, none⟩) x.1.e.fields.length x.1.e.fields.length]
def ecells : List (Ent × Nat) → Nat → List Value
  | [], _ => []
  | x :: r, i => ecell i x ++ ecells r (i + 1)
theorem ecells_snoc : ∀ (l : List (Ent × Nat)) (x : Ent × Nat) (i : Nat), ecells (l ++ [x]) i = ecells l i ++ ecell (i + l.length) x
  | [], x, i => by simp [ecells]
  | y :: r, x, i => by
    show ecell i y ++ ecells (r ++ [x]) (i + 1) = ecell i y ++ ecells r (i + 1) ++ ecell (i + (r.length + 1)) x
    rw [ecells_snoc r x (i + 1), List.append_assoc, Nat.add_right_comm, Nat.add_assoc]

def lit (k : List UInt8) : Lit := .string k
theorem lit_inj {a b : List UInt8} (h : lit a = lit b) : a = b := by unfold lit at h; injection h
theorem lit_key {k : List UInt8} (h : k.length ≤ maxLen) : keyOf Try.prog 9 (sv k) = some (lit k) := by
  have hz : (⟨k.toArray⟩ : ByteArray).size ≤ maxLen := h
  exact WideMaps.keyOf_string_mk Try.underlying9 hz
theorem lit_is (k : List UInt8) : WideAt.IsKeyLit (lit k) := trivial
theorem keyedS : Keyed Try.prog 9 := string_keyed Try.underlying9

structure IxIn (w : World) (F : Nat → Prop) (st mp mk N : Nat) (I : Ix) (xs : List (Ent × Nat)) (av : Value) (pf : List UInt8 → Value) (D1 D2 : DataW Value) : Prop where
  stc : w.heap[st]? = some (.cells #[av, .map (some mp), .map (some mk)] 68 (0, 0))
  row : w.ownsRow 0 64 6 av xs.length (ecells xs 0)
  all : xs.map (·.1) = I.all
  fds : ∀ x ∈ xs, FdBlk w x.2 x.1.e.fields.length x.1.e.fields ∧ x.1.e.fields.length ≤ 16 ∧ F x.2
  mpo : w.ownsMap Try.prog 9 rawE mp N D1
  mpa : ∀ s, D1.atKey (lit s) (.held nilS) = .held (pf s)
  mph : ∀ kl, Maps.has D1 kl = true ↔ ∃ s, plc I.all s ≠ [] ∧ kl = lit s
  rows : ∀ s, w.ownsRow 0 3 1 (pf s) (plc I.all s).length ((plc I.all s).map natV)
  apart : ∀ s s' q, (pf s).ownBlock = some q → (pf s').ownBlock = some q → s = s'
  mko : w.ownsMap Try.prog 9 rawE mk N D2
  mka : ∀ k, D2.atKey (lit k) (.held (kdV none)) = .held (kdV (I.key k))
  mkh : ∀ k, Maps.has D2 (lit k) = (I.key k).isSome
  mne : mp ≠ mk
  fst : F st
  fmp : F mp
  fmk : F mk
  fav : ∀ q, av.ownBlock = some q → F q
  fpf : ∀ s q, (pf s).ownBlock = some q → F q
  len : I.all.length ≤ N
  nil : I.key [] = none
  avs : ∃ a c, av = .slice a xs.length c

/-- The index at block x, all its memory among F; N bounds all that is counted. -/
def IxAt (w : World) (F : Nat → Prop) (x N : Nat) (I : Ix) : Prop := ∃ st, w.heap[x]? = some (.cells #[.pointer (some ⟨st, 0, none⟩)] 56 (0, 0)) ∧ F x ∧ ∃ mp mk xs av pf D1 D2, IxIn w F st mp mk N I xs av pf D1 D2

theorem IxIn.frame {w w' : World} {F : Nat → Prop} {st mp mk N : Nat} {I : Ix} {xs : List (Ent × Nat)} {av : Value} {pf : List UInt8 → Value} {D1 D2 : DataW Value} (h : IxIn w F st mp mk N I xs av pf D1 D2) (hk : ∀ k, F k → k < w.heap.size → w'.heap[k]? = w.heap[k]?) : IxIn w' F st mp mk N I xs av pf D1 D2 :=
  { h with
    stc := (hk st h.fst (lt_of_block h.stc)).trans h.stc
    row := ownsRow_frame h.row fun q hq hl => hk q (h.fav q hq) hl
    fds := fun x hx => ⟨(h.fds x hx).1.same (hk _ (h.fds x hx).2.2 (h.fds x hx).1.lt), (h.fds x hx).2⟩
    mpo := ownsMap_frame h.mpo (hk mp h.fmp h.mpo.lt)
    rows := fun s => ownsRow_frame (h.rows s) fun q hq hl => hk q (h.fpf s q hq) hl
    mko := ownsMap_frame h.mko (hk mk h.fmk h.mko.lt) }
theorem IxAt.frame {w w' : World} {F : Nat → Prop} {x N : Nat} {I : Ix} (h : IxAt w F x N I) (hk : ∀ k, F k → k < w.heap.size → w'.heap[k]? = w.heap[k]?) : IxAt w' F x N I := by
  obtain ⟨st, h1, h2, mp, mk, xs, av, pf, D1, D2, h⟩ := h
  exact ⟨st, (hk x h2 (lt_of_block h1)).trans h1, h2, mp, mk, xs, av, pf, D1, D2, h.frame hk⟩
theorem IxAt.grown {w w' : World} {F : Nat → Prop} {x N : Nat} {I : Ix} (h : IxAt w F x N I) (hb : Below w.heap.size w w') : IxAt w' F x N I := h.frame fun k _ hk => hb.block k hk

theorem zeroInts (w : World) : (zeroValue 87).run Try.prog w = .ok nilS w := by kernel_rfl
theorem zeroKeyed (w : World) : (zeroValue 96).run Try.prog w = .ok (kdV none) w := by kernel_rfl
theorem IxIn.look {w W : World} {F : Nat → Prop} {st mp mk N : Nat} {I : Ix} {xs : List (Ent × Nat)} {av : Value} {pf : List UInt8 → Value} {D1 D2 : DataW Value} (h : IxIn w F st mp mk N I xs av pf D1 D2) (hW : W.heap[mp]? = w.heap[mp]?) (s : List UInt8) (hs : s.length ≤ maxLen) :
    (Instr.lookup 65 (.map (some mp)) (sv s) false).run Try.prog W = .ok (pf s) W := by
  obtain ⟨u, ps, hrun, hv⟩ := (ownsMap_frame h.mpo hW).lookup keyedS Try.underlying65 (zeroInts W) (zd := .held nilS) (zp := []) rfl (lit_key hs)
  rw [h.mpa s] at hv
  simp only [rawE, Option.some.injEq, Prod.mk.injEq, DataW.held.injEq] at hv
  rw [hrun, hv.1]
theorem IxIn.lookK {w W : World} {F : Nat → Prop} {st mp mk N : Nat} {I : Ix} {xs : List (Ent × Nat)} {av : Value} {pf : List UInt8 → Value} {D1 D2 : DataW Value} (h : IxIn w F st mp mk N I xs av pf D1 D2) (hW : W.heap[mk]? = w.heap[mk]?) (k : List UInt8) (hk : k.length ≤ maxLen) :
    (Instr.lookup 66 (.map (some mk)) (sv k) true).run Try.prog W = .ok (.tuple #[kdV (I.key k), .bool (I.key k).isSome]) W := by
  obtain ⟨u, ps, hrun, hv⟩ := (ownsMap_frame h.mko hW).look_ok keyedS Try.underlying66 (zeroKeyed W) (zd := .held (kdV none)) (zp := []) rfl (lit_key hk)
  rw [h.mka k] at hv
  simp only [rawE, Option.some.injEq, Prod.mk.injEq, DataW.held.injEq] at hv
  rw [hrun, hv.1, h.mkh]
theorem IxIn.pfs {w : World} {F : Nat → Prop} {st mp mk N : Nat} {I : Ix} {xs : List (Ent × Nat)} {av : Value} {pf : List UInt8 → Value} {D1 D2 : DataW Value} (h : IxIn w F st mp mk N I xs av pf D1 D2) (s : List UInt8) : ∃ a c, pf s = .slice a (I.ver s) c := by
  obtain ⟨h1, h2⟩ := h.rows s
  rcases h2 with ⟨e, h3⟩ | ⟨q, cap, cur, e, _⟩
  · refine ⟨none, 0, ?_⟩
    rw [e]
    first | (rw [show I.ver s = 0 from h3.1]) | (rw [show I.ver s = 0 from h3]) | (unfold Ix.ver; simp_all)
  · exact ⟨_, _, e⟩
end Go.Proofs.Ytabcmmhmghgliaa

namespace Go.Proofs.Ytabcmmhmghgliaa
open Go.RowKit Go.Maps
set_option linter.unusedVariables false

theorem mm1 (w : World) : (Instr.makeMap 65 none).run Try.prog w = .ok (.map (some w.heap.size)) (w.alloc (.map #[] 0)) := rfl
theorem mm2 (w : World) : (Instr.makeMap 66 none).run Try.prog w = .ok (.map (some w.heap.size)) (w.alloc (.map #[] 0)) := rfl
theorem sizeState : (Try.prog.info? 68).map (·.size) = some 3 := by kernel_rfl
abbrev stV (av : Value) (m k : Option Nat) : Array Value := #[av, .map m, .map k]

theorem empty_go (w : World) : Calls Try.prog 15 #[] w fun e w' => e = .returned (.pointer (some ⟨w.heap.size + 2, 0, none⟩)) ∧ w' = ((w.alloc (.map #[] 0)).alloc (.map #[] 0)).alloc (.cells (stV nilS (some w.heap.size) (some (w.heap.size + 1))) 68) := by
  have h1 := mm1
  have h2 := mm2
  go_enter Try.func15, Try.ntmps15
  go_wp2
  go_ret
  exact ⟨by first | rfl | simp, by first | rfl | simp⟩

def NewPost (w : World) (e : Ending) (w' : World) : Prop := ∃ x, e = .returned (.pointer (some ⟨x, 0, none⟩)) ∧ IxAt w' (fun k => w.heap.size ≤ k ∧ k < w'.heap.size) x 0 Ix.new ∧ Below w.heap.size w w'

theorem new_mem (w : World) : NewPost w (.returned (.pointer (some ⟨w.heap.size + 3, 0, none⟩))) ((((w.alloc (.map #[] 0)).alloc (.map #[] 0)).alloc (.cells (stV nilS (some w.heap.size) (some (w.heap.size + 1))) 68)).alloc (.cells #[.pointer (some ⟨w.heap.size + 2, 0, none⟩)] 56)) := by
  obtain ⟨W, hW⟩ : ∃ W, W = (((w.alloc (.map #[] 0)).alloc (.map #[] 0)).alloc (.cells (stV nilS (some w.heap.size) (some (w.heap.size + 1))) 68)).alloc (.cells #[.pointer (some ⟨w.heap.size + 2, 0, none⟩)] 56) := ⟨_, rfl⟩
  have hz : W.heap.size = w.heap.size + 4 := by rw [hW]; simp
  have hm := World.ownsMap_made (H := Value) w Try.prog 9 rawE
  have hk := World.ownsMap_made (H := Value) (w.alloc (.map #[] 0)) Try.prog 9 rawE
  have e1 : (w.alloc (.map #[] 0)).heap.size = w.heap.size + 1 := by simp
  rw [e1] at hk
  have hst := heap_alloc_self ((w.alloc (.map #[] 0)).alloc (.map #[] 0)) (.cells (stV nilS (some w.heap.size) (some (w.heap.size + 1))) 68)
  have e2 : ((w.alloc (.map #[] 0)).alloc (.map #[] 0)).heap.size = w.heap.size + 2 := by simp
  rw [e2] at hst
  have hix := heap_alloc_self (((w.alloc (.map #[] 0)).alloc (.map #[] 0)).alloc (.cells (stV nilS (some w.heap.size) (some (w.heap.size + 1))) 68)) (.cells #[.pointer (some ⟨w.heap.size + 2, 0, none⟩)] 56)
  have e3 : (((w.alloc (.map #[] 0)).alloc (.map #[] 0)).alloc (.cells (stV nilS (some w.heap.size) (some (w.heap.size + 1))) 68)).heap.size = w.heap.size + 3 := by simp
  rw [e3] at hix
  rw [← hW]
  have no : ∀ (n : Nat) (e : TypeId) (s : Nat), W.ownsRow 0 e s nilS 0 [] := fun n e s => World.ownsRow_nil _ _ _ _
  refine ⟨w.heap.size + 3, rfl, ⟨w.heap.size + 2, by rw [hW]; exact hix, by omega, w.heap.size, w.heap.size + 1, [], nilS, fun _ => nilS, .map [], .map [], ?_⟩, ?_⟩
  · exact
      { stc := by rw [hW, Below.heap_alloc _ _ _ (by rw [e3]; omega)]; exact hst
        row := no 0 _ _
        all := rfl
        fds := fun x hx => by simp at hx
        mpo := by rw [hW]; exact ((hm.alloc _).alloc _).alloc _
        mpa := fun s => rfl
        mph := fun kl => by simp [Ix.new, plc, Maps.has]
        rows := fun s => no 0 _ _
        apart := fun s s' q h => by cases h
        mko := by rw [hW]; exact (hk.alloc _).alloc _
        mka := fun k => rfl
        mkh := fun k => by simp [Ix.new, Maps.has]
        mne := by omega
        fst := by omega
        fmp := by omega
        fmk := by omega
        fav := fun q h => by cases h
        fpf := fun s q h => by cases h
        len := Nat.le_refl _
        nil := rfl
        avs := ⟨none, 0, rfl⟩ }
  · rw [hW]
    exact ((((Below.refl w.heap.size w).alloc (Nat.le_refl _) _).alloc (by rw [e1]; omega) _).alloc (by rw [e2]; omega) _).alloc (by rw [e3]; omega) _

theorem New_go (w : World) : Calls Try.prog 5 #[] w (NewPost w) := by
  have HP := hide (new_mem w)
  go_enter Try.func5, Try.ntmps5
  go_wp2_with fail
  refine (empty_go w).mono ?_
  rintro e w1 ⟨rfl, rfl⟩
  go_wp2
  go_ret
  have := unhide HP
  simpa using this

theorem now_go {w : World} {x st mp mk : Nat} {av : Value} (hx : w.heap[x]? = some (.cells #[.pointer (some ⟨st, 0, none⟩)] 56 (0, 0))) (hs : w.heap[st]? = some (.cells (stV av (some mp) (some mk)) 68 (0, 0))) (ha : ∃ a n c, av = .slice a n c) :
    Calls Try.prog 25 #[.pointer (some ⟨x, 0, none⟩)] w fun e w' => e = .returned (.agg (stV av (some mp) (some mk))) ∧ w' = w.alloc (.cells (stV av (some mp) (some mk)) 68) := by
  obtain ⟨a, n, c, rfl⟩ := ha
  have c0 : w.cell? ⟨x, 0, none⟩ = some (.pointer (some ⟨st, 0, none⟩)) := (cell_of_row _ _ _ _ _ _ hx).trans rfl
  have d0 : w.cell? ⟨st, 0, none⟩ = some (.slice a n c) := (cell_of_row _ _ _ _ _ _ hs).trans rfl
  have d1 : w.cell? ⟨st, 1, none⟩ = some (.map (some mp)) := (cell_of_row _ _ _ _ _ _ hs).trans rfl
  have d2 : w.cell? ⟨st, 2, none⟩ = some (.map (some mk)) := (cell_of_row _ _ _ _ _ _ hs).trans rfl
  have hxl := lt_of_block hx
  have hsl := lt_of_block hs
  clear hx hs
  go_enter Try.func25, Try.ntmps25
  go_wp2
  exact bodyPost_ret (results_cell_row rfl _ _ w.heap.size 68 (stV (.slice a n c) (some mp) (some mk)) (0, 0) _ rfl (heap_alloc_new _ _) Try.underlying68 rfl sizeState) rfl ⟨rfl, by first | rfl | simp⟩

theorem now_nil (w : World) : Calls Try.prog 25 #[.pointer none] w fun e w' => e = .returned (.agg (stV nilS none none)) ∧ w' = w.alloc (.cells (stV nilS none none) 68) := by
  go_enter Try.func25, Try.ntmps25
  go_wp2
  exact bodyPost_ret (results_cell_row rfl _ _ w.heap.size 68 (stV nilS none none) (0, 0) _ rfl (heap_alloc_new _ _) Try.underlying68 rfl sizeState) rfl ⟨rfl, by first | rfl | simp⟩
end Go.Proofs.Ytabcmmhmghgliaa
