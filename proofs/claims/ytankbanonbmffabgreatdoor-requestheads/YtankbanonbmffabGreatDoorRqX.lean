/-
  DERIVED. Parse.
-/
import Derived.Test.YtankbanonbmffabGreatDoorRqW
import Derived.Deep.RegionHeld3
namespace Go.Proofs.YtankbanonbmffabGreatDoor
open Go.RowKit
set_option linter.unusedVariables false

theorem qHeader_len {l : List UInt8} {h : Hd} (hh : qHeader l = some h) : h.1.length ≤ l.length ∧ h.2.length ≤ l.length := by
  unfold qHeader at hh
  have hl := qCut_len 58 l
  rcases hp : qCut 58 l with ⟨p1, p2⟩
  rw [hp] at hh hl
  cases p2 with
  | none => cases hh
  | some v =>
    simp only at hh hl
    split at hh
    · cases hh
      have h1 := hl.1
      have h2 := hl.2 v rfl
      have h3 := qBare_len v
      exact ⟨by simp [qSmall]; exact h1, by simp only; omega⟩
    · cases hh
theorem qHeaders_ok : ∀ (k : Nat) (acc : List Hd) (s : List UInt8) (hs : List Hd) (n : Nat), qHeaders k acc s = .ok hs n → acc.length ≤ 16 → (∀ x ∈ acc, x.1.length ≤ 256 ∧ x.2.length ≤ 256) → hs.length ≤ 16 ∧ (∀ x ∈ hs, x.1.length ≤ 256 ∧ x.2.length ≤ 256) ∧ n ≤ s.length
  | 0, acc, s, hs, n, h, _, _ => by cases h
  | k + 1, acc, s, hs, n, h, ha, hx => by
    rw [qHeaders_succ] at h
    cases hl : qLine 0 s with
    | no e => rw [then_no hl] at h; cases h
    | ok l m =>
      obtain ⟨_, hm, h256, _, _⟩ := qLine_ok _ _ _ _ hl
      rw [then_ok hl] at h
      by_cases hle : l = []
      · rw [if_pos hle] at h
        cases h
        exact ⟨ha, hx, by omega⟩
      · rw [if_neg hle] at h
        by_cases h16 : acc.length < 16
        · rw [if_pos h16] at h
          cases hh : qHeader l with
          | none => rw [hh] at h; cases h
          | some y =>
            rw [hh] at h
            simp only at h
            cases hq : qHeaders k (acc ++ [y]) (s.drop m) with
            | no e => rw [hq] at h; cases h
            | ok hs' n' =>
              rw [hq] at h
              simp only [Rs.up, Rs.ok.injEq] at h
              obtain ⟨rfl, rfl⟩ := h
              have hy := qHeader_len hh
              have hl2 : l.length ≤ 256 := by have := h256 (by omega); omega
              obtain ⟨r1, r2, r3⟩ := qHeaders_ok k (acc ++ [y]) (s.drop m) hs' n' hq (by simp; omega) (fun x hx' => by
                rcases List.mem_append.1 hx' with hx' | hx'
                · exact hx x hx'
                · rw [List.mem_singleton.1 hx']; omega)
              rw [List.length_drop] at r3
              exact ⟨r1, r2, by omega⟩
        · rw [if_neg h16] at h; cases h

theorem parse_no1 {s : List UInt8} {e : Int} (h : qLine 0 s = .no e) : qParse s = .no e := then_no h _ _
theorem parse_no2 {s l : List UInt8} {n : Nat} {e : Int} (h : qLine 0 s = .ok l n) (hf : qFirst l = .error e) : qParse s = .no e := by
  unfold qParse; rw [then_ok h, hf]; rfl
theorem parse_two {s l : List UInt8} {n : Nat} {m p q : List UInt8} (h : qLine 0 s = .ok l n) (hf : qFirst l = .ok (m, p, q)) : qParse s = ((qHeaders 17 [] (s.drop n)).then (s.drop n) fun hs s => match qHead hs with
    | .error e => .no e
    | .ok o => (qBody o s).then s fun b _ => .ok ⟨m, p, q, hs, b, qCloses hs⟩ 0).up n := by
  unfold qParse; rw [then_ok h, hf]; rfl
theorem parse_no3 {s l : List UInt8} {n : Nat} {m p q : List UInt8} {e : Int} (h : qLine 0 s = .ok l n) (hf : qFirst l = .ok (m, p, q)) (hh : qHeaders 17 [] (s.drop n) = .no e) : qParse s = .no e := by
  rw [parse_two h hf, then_no hh]; rfl
theorem parse_no4 {s l : List UInt8} {n n2 : Nat} {m p q : List UInt8} {hs : List Hd} {e : Int} (h : qLine 0 s = .ok l n) (hf : qFirst l = .ok (m, p, q)) (hh : qHeaders 17 [] (s.drop n) = .ok hs n2) (hd : qHead hs = .error e) : qParse s = .no e := by
  rw [parse_two h hf, then_ok hh, hd]; rfl
theorem parse_no5 {s l : List UInt8} {n n2 : Nat} {m p q : List UInt8} {hs : List Hd} {o : Option Nat} {e : Int} (h : qLine 0 s = .ok l n) (hf : qFirst l = .ok (m, p, q)) (hh : qHeaders 17 [] (s.drop n) = .ok hs n2) (hd : qHead hs = .ok o) (hb : qBody o (s.drop (n + n2)) = .no e) : qParse s = .no e := by
  rw [parse_two h hf, then_ok hh, hd, List.drop_drop]
  simp only
  rw [then_no hb]; rfl
theorem parse_ok {s l : List UInt8} {n n2 n3 : Nat} {m p q b : List UInt8} {hs : List Hd} {o : Option Nat} (h : qLine 0 s = .ok l n) (hf : qFirst l = .ok (m, p, q)) (hh : qHeaders 17 [] (s.drop n) = .ok hs n2) (hd : qHead hs = .ok o) (hb : qBody o (s.drop (n + n2)) = .ok b n3) : qParse s = .ok ⟨m, p, q, hs, b, qCloses hs⟩ (n + n2 + n3) := by
  rw [parse_two h hf, then_ok hh, hd, List.drop_drop]
  simp only
  rw [then_ok hb]
  simp [Rs.up, Nat.add_assoc]

theorem results_ccc {P : Program} {fn : Func} {p u t : Tmp} {ty ty2 ty3 : TypeId} (h : fn.results = #[.cell p ty, .cell u ty2, .cell t ty3]) (tmps : Array Value) (w : World) (g g2 g3 : Nat) (tt : TypeId) (cs : Array Value) (fr : Nat × Nat) (d : TypeDesc) {x y : Value}
    (hp : tmps.getD p undef = .pointer (some ⟨g, 0, none⟩)) (hx : tmps.getD u undef = .pointer (some ⟨g2, 0, none⟩)) (hy : tmps.getD t undef = .pointer (some ⟨g3, 0, none⟩)) (hg : w.heap[g]? = some (.cells cs tt fr))
    (hu : P.underlying ty = some d) (hd : (match d with | .struct _ | .array _ _ => true | _ => false) = true) (hi : (P.info? ty).map (·.size) = some cs.size)
    (hl : (loadVar ty2 ⟨g2, 0, none⟩).run P w = .ok x w) (hl3 : (loadVar ty3 ⟨g3, 0, none⟩).run P w = .ok y w) :
    (results fn tmps).run P w = .ok (.tuple #[.agg cs, x, y]) w := by
  have hp' : tmps[p]?.getD undef = .pointer (some ⟨g, 0, none⟩) := by rw [← hp]; simp
  have hx' : tmps[u]?.getD undef = .pointer (some ⟨g2, 0, none⟩) := by rw [← hx]; simp
  have hy' : tmps[t]?.getD undef = .pointer (some ⟨g3, 0, none⟩) := by rw [← hy]; simp
  simp only [results, h]
  simp [Sem.run_bind, Result.andThen, hp', hx', hy', asAddr, run_loadVar_row w g tt ty cs fr d hg hu hd hi, hl, hl3]
theorem load_int' (w : World) (g : Nat) (n : Int) (h : w.heap[g]? = some (.cells #[.int .i64 n] 3 (0, 0))) : (loadVar 3 ⟨g, 0, none⟩).run Tryz.prog w = .ok (.int .i64 n) w := by
  have hc : w.cell? ⟨g, 0, none⟩ = some (.int .i64 n) := (cell_of_row _ _ _ _ _ _ h).trans rfl
  simp [loadVar, go_sem, hc]

/-- What Parse comes to. -/
def ParsePost (r : Rs Rq) (w : World) (e : Ending) (w' : World) : Prop :=
  (match r with
    | .no s => e = .returned (.tuple #[.agg rq0, .int .i64 0, .int .i64 s])
    | .ok q n => ∃ hv, e = .returned (.tuple #[.agg (rqV q.m q.p q.q hv q.b q.cl), .int .i64 (n : Int), .int .i64 200]) ∧ HOwn w' w.heap.size hv q.hs) ∧ Below w.heap.size w w'

def rd0 (s : List UInt8) : Rd := ⟨s, 0, [], [], [], .slice none 0 0, [], false, .nilFunc, 0⟩
/-- Where Parse stands behind k of its three parts. -/
inductive PaSt (s : List UInt8) (B g : Nat) (W : World) : Nat → Prop
  | zero (h : RdAt W g (rd0 s)) : PaSt s B g W 0
  | one (l : List UInt8) (n : Nat) (m p q : List UInt8) (h1 : qLine 0 s = .ok l n) (h2 : qFirst l = .ok (m, p, q)) (h : RdAt W g { rd0 s with at' := n, m := m, p := p, q := q }) : PaSt s B g W 1
  | two (l : List UInt8) (n n2 : Nat) (m p q : List UInt8) (hs : List Hd) (hv : Value) (h1 : qLine 0 s = .ok l n) (h2 : qFirst l = .ok (m, p, q)) (h3 : qHeaders 17 [] (s.drop n) = .ok hs n2) (h : RdAt W g { rd0 s with at' := n + n2, m := m, p := p, q := q, hv := hv }) (ho : HOwn W B hv hs) : PaSt s B g W 2
  | three (l : List UInt8) (n n2 : Nat) (m p q : List UInt8) (hs : List Hd) (hv : Value) (o : Option Nat) (fn : Value) (ln : Int) (h1 : qLine 0 s = .ok l n) (h2 : qFirst l = .ok (m, p, q)) (h3 : qHeaders 17 [] (s.drop n) = .ok hs n2) (h4 : qHead hs = .ok o) (h : RdAt W g { rd0 s with at' := n + n2, m := m, p := p, q := q, hv := hv, cl := qCloses hs, fn := fn, ln := ln }) (ho : HOwn W B hv hs) (hb : BodyFn o g fn ln) : PaSt s B g W 3

theorem qf_below {g : Nat} {a b c : World} {B : Nat} (h : Below B a b) (k : QF g b c) (hg : B ≤ g) (hB : B ≤ b.heap.size) : Below B a c := h.trans (k.below hg hB)
theorem PBx.qf {g : Nat} {w w' : World} {rb : Nat} {cs : Array Value} {n s : Int} (h : PBx w rb cs n s) (k : QF g w w') (hg : rb + 3 ≤ g) : PBx w' rb cs n s :=
  ⟨(k.block rb (lt_of_block h.r) (by omega)).trans h.r, (k.block (rb + 1) (lt_of_block h.n_) (by omega)).trans h.n_, (k.block (rb + 2) (lt_of_block h.s_) (by omega)).trans h.s_⟩
def pfn (k g : Nat) : Value := .func (.func (if k = 0 then 8 else if k = 1 then 9 else 10)) #[.pointer (some ⟨g, 0, none⟩)] #[]

theorem four_new (w : World) (x1 x2 x3 x4 : Obj) : ((((w.alloc x1).alloc x2).alloc x3).alloc x4).heap[w.heap.size]? = some x1 ∧ ((((w.alloc x1).alloc x2).alloc x3).alloc x4).heap[w.heap.size + 1]? = some x2 ∧ ((((w.alloc x1).alloc x2).alloc x3).alloc x4).heap[w.heap.size + 2]? = some x3 ∧ ((((w.alloc x1).alloc x2).alloc x3).alloc x4).heap[w.heap.size + 3]? = some x4 ∧ Below w.heap.size w ((((w.alloc x1).alloc x2).alloc x3).alloc x4) ∧ ((((w.alloc x1).alloc x2).alloc x3).alloc x4).heap.size = w.heap.size + 4 := by
  have s1 : (w.alloc x1).heap.size = w.heap.size + 1 := by simp
  have s2 : ((w.alloc x1).alloc x2).heap.size = w.heap.size + 2 := by simp
  have s3 : (((w.alloc x1).alloc x2).alloc x3).heap.size = w.heap.size + 3 := by simp
  have n1 := heap_alloc_new w x1
  have n2 := heap_alloc_new (w.alloc x1) x2
  have n3 := heap_alloc_new ((w.alloc x1).alloc x2) x3
  have n4 := heap_alloc_new (((w.alloc x1).alloc x2).alloc x3) x4
  rw [s1] at n2
  rw [s2] at n3
  rw [s3] at n4
  refine ⟨?_, ?_, ?_, n4, ?_, by simp⟩
  · rw [Below.heap_alloc _ _ _ (by rw [s3]; omega), Below.heap_alloc _ _ _ (by rw [s2]; omega), Below.heap_alloc _ _ _ (by rw [s1]; omega)]; exact n1
  · rw [Below.heap_alloc _ _ _ (by rw [s3]; omega), Below.heap_alloc _ _ _ (by rw [s2]; omega)]; exact n2
  · rw [Below.heap_alloc _ _ _ (by rw [s3]; omega)]; exact n3
  · exact ((((Below.refl _ _).alloc (Nat.le_refl _) _).alloc (by omega) _).alloc (by omega) _).alloc (by omega) _

def pdef (b : Nat) : Deferred := { target := .fn (.func 7) #[.pointer (some ⟨b, 0, none⟩), .pointer (some ⟨b + 1, 0, none⟩), .pointer (some ⟨b + 1 + 1, 0, none⟩)], args := #[] }
theorem sizeReq : (Tryz.prog.info? 27).map (·.size) = some 6 := by kernel_rfl
theorem pan_end {s : List UInt8} {n : Int} {w w3 : World} {b : Nat} {tmps : Array Value} (hb : b = w.heap.size) (h2 : tmps.getD 2 undef = .pointer (some ⟨b, 0, none⟩)) (h3 : tmps.getD 3 undef = .pointer (some ⟨b + 1, 0, none⟩)) (h4 : tmps.getD 4 undef = .pointer (some ⟨b + 1 + 1, 0, none⟩)) (hP : PBx w3 b rq0 0 0) (hn : qParse s = .no n) (hB : Below b w w3) :
    bodyPostD Tryz.prog Tryz.f5 (ParsePost (qParse s) w) (Exit.panic [{ v := .iface 36 (.int .i64 n), recovered := false }]) { tmps := tmps, defers := [pdef b] } w3 := by
  refine leaves_cons (f := 7) (args := #[.pointer (some ⟨b, 0, none⟩), .pointer (some ⟨b + 1, 0, none⟩), .pointer (some ⟨b + 2, 0, none⟩)]) (by simp) (by simp [go_sem]) ?_
  refine (catchQ_panicking b n [] w3 hP).mono ?_
  rintro e u' w4 ⟨rfl, rfl, hP4, hB4⟩
  refine ⟨.tuple #[.agg rq0, .int .i64 0, .int .i64 n], ?_, ?_, ?_⟩
  · exact results_ccc rfl _ _ b (b + 1) (b + 2) 27 _ (0, 0) _ h2 h3 h4 hP4.r Tryz.underlying27 rfl sizeReq (load_int' _ _ _ hP4.n_) (load_int' _ _ _ hP4.s_)
  · rw [hn]
  · rw [← hb]; exact hB.trans hB4
theorem ok_end {s : List UInt8} {m p q bb : List UInt8} {cl : Bool} {hs : List Hd} {hv : Value} {n : Nat} {w w3 : World} {b : Nat} {tmps : Array Value} (hb : b = w.heap.size) (h2 : tmps.getD 2 undef = .pointer (some ⟨b, 0, none⟩)) (h3 : tmps.getD 3 undef = .pointer (some ⟨b + 1, 0, none⟩)) (h4 : tmps.getD 4 undef = .pointer (some ⟨b + 1 + 1, 0, none⟩)) (hP : PBx w3 b (rqV m p q hv bb cl) n 200) (hn : qParse s = .ok ⟨m, p, q, hs, bb, cl⟩ n) (ho : HOwn w3 b hv hs) (hB : Below b w w3) {x : Exit} (hx : x = .normal ∨ x = .ret) :
    bodyPostD Tryz.prog Tryz.f5 (ParsePost (qParse s) w) x { tmps := tmps, defers := [pdef b] } w3 := by
  have hL : Leaves Tryz.prog Tryz.f5 tmps (ParsePost (qParse s) w) [pdef b] .returning w3 := by
    refine leaves_cons (f := 7) (args := #[.pointer (some ⟨b, 0, none⟩), .pointer (some ⟨b + 1, 0, none⟩), .pointer (some ⟨b + 2, 0, none⟩)]) (by simp) (by simp [go_sem]) ?_
    refine (catchQ_idle b w3).mono ?_
    rintro e u' w4 ⟨rfl, rfl, rfl⟩
    refine ⟨.tuple #[.agg (rqV m p q hv bb cl), .int .i64 n, .int .i64 200], ?_, ?_, ?_⟩
    · exact results_ccc rfl _ _ b (b + 1) (b + 2) 27 _ (0, 0) _ h2 h3 h4 hP.r Tryz.underlying27 rfl sizeReq (load_int' _ _ _ hP.n_) (load_int' _ _ _ hP.s_)
    · rw [hn]; exact ⟨hv, rfl, by rw [← hb]; exact ho⟩
    · rw [← hb]; exact hB
  rcases hx with rfl | rfl <;> exact hL
theorem HOwn.high {base : Nat} {w w' : World} {v : Value} {l : List Hd} (h : HOwn w base v l) (hb : ∀ g, base ≤ g → w'.heap[g]? = w.heap[g]?) : HOwn w' base v l := by
  obtain ⟨h1, h2⟩ := h
  refine ⟨h1, ?_⟩
  rcases h2 with h | ⟨g, cap, cur, a, b, c, r⟩
  · exact .inl h
  · exact .inr ⟨g, cap, cur, a, b, (hb g b).trans c, r⟩
theorem PBx.drew {w : World} {rb : Nat} {cs : Array Value} {n s : Int} (h : PBx w rb cs n s) : PBx w.drew rb cs n s := ⟨h.r, h.n_, h.s_⟩
set_option maxHeartbeats 2000000 in
theorem PBx.put {w : World} {rb : Nat} {n0 s0 : Int} {x0 x1 x2 x3 x4 x5 : Value} (h : PBx w rb #[x0, x1, x2, x3, x4, x5] n0 s0) (v0 v1 v2 v3 v4 v5 : Value) (n s : Int) :
    PBx ((((((((w.setCell ⟨rb, 0, none⟩ v0).setCell ⟨rb, 1, none⟩ v1).setCell ⟨rb, 2, none⟩ v2).setCell ⟨rb, 3, none⟩ v3).setCell ⟨rb, 4, none⟩ v4).setCell ⟨rb, 5, none⟩ v5).setCell ⟨rb + 1, 0, none⟩ (.int .i64 n)).setCell ⟨rb + 1 + 1, 0, none⟩ (.int .i64 s)) rb #[v0, v1, v2, v3, v4, v5] n s ∧
    Below rb w ((((((((w.setCell ⟨rb, 0, none⟩ v0).setCell ⟨rb, 1, none⟩ v1).setCell ⟨rb, 2, none⟩ v2).setCell ⟨rb, 3, none⟩ v3).setCell ⟨rb, 4, none⟩ v4).setCell ⟨rb, 5, none⟩ v5).setCell ⟨rb + 1, 0, none⟩ (.int .i64 n)).setCell ⟨rb + 1 + 1, 0, none⟩ (.int .i64 s)) ∧
    ∀ g, rb + 3 ≤ g → ((((((((w.setCell ⟨rb, 0, none⟩ v0).setCell ⟨rb, 1, none⟩ v1).setCell ⟨rb, 2, none⟩ v2).setCell ⟨rb, 3, none⟩ v3).setCell ⟨rb, 4, none⟩ v4).setCell ⟨rb, 5, none⟩ v5).setCell ⟨rb + 1, 0, none⟩ (.int .i64 n)).setCell ⟨rb + 1 + 1, 0, none⟩ (.int .i64 s)).heap[g]? = w.heap[g]? := by
  refine ⟨⟨?_, ?_, ?_⟩, ?_, ?_⟩
  · rw [Below.heap_setCell _ _ _ _ (by show rb ≠ rb + 1 + 1; omega), Below.heap_setCell _ _ _ _ (by show rb ≠ rb + 1; omega)]
    exact heap_setCell_same _ rb 5 _ _ _ (heap_setCell_same _ rb 4 _ _ _ (heap_setCell_same _ rb 3 _ _ _ (heap_setCell_same _ rb 2 _ _ _ (heap_setCell_same _ rb 1 _ _ _ (heap_setCell_same w rb 0 _ _ _ h.r)))))
  · rw [Below.heap_setCell _ _ _ _ (by show rb + 1 ≠ rb + 1 + 1; omega)]
    refine (heap_setCell_same _ (rb + 1) 0 #[.int .i64 n0] _ _ ?_).trans rfl
    rw [Below.heap_setCell _ _ _ _ (by show rb + 1 ≠ rb; omega), Below.heap_setCell _ _ _ _ (by show rb + 1 ≠ rb; omega), Below.heap_setCell _ _ _ _ (by show rb + 1 ≠ rb; omega), Below.heap_setCell _ _ _ _ (by show rb + 1 ≠ rb; omega), Below.heap_setCell _ _ _ _ (by show rb + 1 ≠ rb; omega), Below.heap_setCell _ _ _ _ (by show rb + 1 ≠ rb; omega)]
    exact h.n_
  · refine (heap_setCell_same _ (rb + 1 + 1) 0 #[.int .i64 s0] _ _ ?_).trans rfl
    rw [Below.heap_setCell _ _ _ _ (by show rb + 1 + 1 ≠ rb + 1; omega), Below.heap_setCell _ _ _ _ (by show rb + 1 + 1 ≠ rb; omega), Below.heap_setCell _ _ _ _ (by show rb + 1 + 1 ≠ rb; omega), Below.heap_setCell _ _ _ _ (by show rb + 1 + 1 ≠ rb; omega), Below.heap_setCell _ _ _ _ (by show rb + 1 + 1 ≠ rb; omega), Below.heap_setCell _ _ _ _ (by show rb + 1 + 1 ≠ rb; omega), Below.heap_setCell _ _ _ _ (by show rb + 1 + 1 ≠ rb; omega)]
    exact h.s_
  · exact ((((((((((Below.refl rb w).setCell (p := ⟨rb, 0, none⟩) (Nat.le_refl _) _).setCell (p := ⟨rb, 1, none⟩) (Nat.le_refl _) _).setCell (p := ⟨rb, 2, none⟩) (Nat.le_refl _) _).setCell (p := ⟨rb, 3, none⟩) (Nat.le_refl _) _).setCell (p := ⟨rb, 4, none⟩) (Nat.le_refl _) _).setCell (p := ⟨rb, 5, none⟩) (Nat.le_refl _) _).setCell (p := ⟨rb + 1, 0, none⟩) (by show rb ≤ rb + 1; omega) _).setCell (p := ⟨rb + 1 + 1, 0, none⟩) (by show rb ≤ rb + 1 + 1; omega) _))
  · intro g hg
    rw [Below.heap_setCell _ _ _ _ (by show g ≠ rb + 1 + 1; omega), Below.heap_setCell _ _ _ _ (by show g ≠ rb + 1; omega), Below.heap_setCell _ _ _ _ (by show g ≠ rb; omega), Below.heap_setCell _ _ _ _ (by show g ≠ rb; omega), Below.heap_setCell _ _ _ _ (by show g ≠ rb; omega), Below.heap_setCell _ _ _ _ (by show g ≠ rb; omega), Below.heap_setCell _ _ _ _ (by show g ≠ rb; omega), Below.heap_setCell _ _ _ _ (by show g ≠ rb; omega)]
theorem HOwn.drew {base : Nat} {w : World} {v : Value} {l : List Hd} (h : HOwn w base v l) : HOwn w.drew base v l := h
def SmG (g : Nat) (a b : World) : Prop := b.heap[g]? = a.heap[g]?
theorem SmG.refl (g : Nat) (a : World) : SmG g a a := rfl
theorem SmG.set {g : Nat} {a b : World} (h : SmG g a b) {p : Addr} (hp : g ≠ p.block) (v : Value) : SmG g a (b.setCell p v) := (Below.heap_setCell b p v g hp).trans h
theorem SmG.drew {g : Nat} {a b : World} (h : SmG g a b) : SmG g a b.drew := h
theorem SmG.drewN {g : Nat} {a b : World} (h : SmG g a b) (n : Nat) : SmG g a (b.drewN n) := h
def paMe (v : Value) : Nat := match v with | .int _ k => 3 - k.toNat | _ => 0
theorem paMe_lt (k : Nat) (h : k < 3) : paMe (.int .i64 ((k + 1 : Nat) : Int)) < paMe (.int .i64 (k : Int)) := by simp [paMe]; omega
def PaOk (s : List UInt8) (B g k : Nat) (w : World) (e : Ending) (w' : World) : Prop := (e = .returned (.tuple #[]) ∧ PaSt s B g w' (k + 1)) ∧ QF g w w'
def PaNo (n : Int) (g : Nat) (w : World) (e : Ending) (w' : World) : Prop := e = panQ n ∧ QF g w w'
theorem pa_zero {s : List UInt8} {B g : Nat} {w : World} (h : PaSt s B g w 0) (hB : B ≤ w.heap.size) : (∃ n, qParse s = .no n ∧ Calls Tryz.prog 8 #[.pointer (some ⟨g, 0, none⟩)] w (PaNo n g w)) ∨ Calls Tryz.prog 8 #[.pointer (some ⟨g, 0, none⟩)] w (PaOk s B g 0 w) := by
  cases h with
  | zero h =>
    have hc := first_any g _ w h
    simp only [rd0, List.drop_zero] at hc
    cases hl : qLine 0 s with
    | no n =>
      rw [hl] at hc
      exact Or.inl ⟨n, parse_no1 hl, hc⟩
    | ok l n =>
      rw [hl] at hc
      cases hf : qFirst l with
      | error e =>
        refine Or.inl ⟨e, parse_no2 hl hf, hc.mono ?_⟩
        rintro e1 w1 ⟨h1, q1⟩
        have h2 : FirstEnd (qFirst l) g _ n e1 w1 := h1
        rw [hf] at h2
        exact ⟨h2, q1⟩
      | ok x =>
        obtain ⟨m, p, q⟩ := x
        refine Or.inr (hc.mono ?_)
        rintro e1 w1 ⟨h1, q1⟩
        have h2 : FirstEnd (qFirst l) g _ n e1 w1 := h1
        rw [hf] at h2
        refine ⟨⟨h2.1, .one l n m p q hl hf ?_⟩, q1⟩
        have := h2.2
        simp only [Nat.zero_add] at this
        exact this
theorem pa_one {s : List UInt8} {B g : Nat} {w : World} (h : PaSt s B g w 1) (hB : B ≤ w.heap.size) : (∃ n, qParse s = .no n ∧ Calls Tryz.prog 9 #[.pointer (some ⟨g, 0, none⟩)] w (PaNo n g w)) ∨ Calls Tryz.prog 9 #[.pointer (some ⟨g, 0, none⟩)] w (PaOk s B g 1 w) := by
  cases h with
  | one l n m p q h1 h2 h =>
    have hc := headers_any g _ w h rfl
    simp only [rd0] at hc
    cases hh : qHeaders 17 [] (s.drop n) with
    | no e =>
      rw [hh] at hc
      exact Or.inl ⟨e, parse_no3 h1 h2 hh, hc⟩
    | ok hs n2 =>
      rw [hh] at hc
      refine Or.inr (hc.mono ?_)
      rintro e1 w1 ⟨⟨r1, hv, r2, r3⟩, q1⟩
      exact ⟨⟨r1, .two l n n2 m p q hs hv h1 h2 hh r2 (r3.mono hB)⟩, q1⟩
theorem pa_two {s : List UInt8} {B g : Nat} {w : World} (h : PaSt s B g w 2) (hB : B ≤ w.heap.size) : (∃ n, qParse s = .no n ∧ Calls Tryz.prog 10 #[.pointer (some ⟨g, 0, none⟩)] w (PaNo n g w)) ∨ Calls Tryz.prog 10 #[.pointer (some ⟨g, 0, none⟩)] w (PaOk s B g 2 w) := by
  cases h with
  | two l n n2 m p q hs hv h1 h2 h3 h ho =>
    have hk := qHeaders_ok _ _ _ _ _ h3 (by simp) (fun x hx => by cases hx)
    have hc := head_any g B _ hs w h ho (fun x hx => by have := hk.2.1 x hx; omega) (by omega)
    cases hd : qHead hs with
    | error e =>
      rw [hd] at hc
      exact Or.inl ⟨e, parse_no4 h1 h2 h3 hd, hc⟩
    | ok o =>
      rw [hd] at hc
      refine Or.inr (hc.mono ?_)
      rintro e1 w1 ⟨⟨r1, fn, ln, r2, r3⟩, q1⟩
      exact ⟨⟨r1, .three l n n2 m p q hs hv o fn ln h1 h2 h3 hd r2 (ho.qf q1 h) r3⟩, q1⟩

set_option maxRecDepth 20000 in
set_option maxHeartbeats 8000000 in
theorem parse_any (s : List UInt8) (w : World) (hs : s.length ≤ 281474976710656) : Calls Tryz.prog 5 #[qv s] w (ParsePost (qParse s) w) := by
  have HLen := hide hs
  clear hs
  go_enter_defers Tryz.func5, Tryz.ntmps5
  go_upto_region 3 with fail
  obtain ⟨W1, hW1⟩ : ∃ W1, W1 = ((((w.alloc (.cells #[.string ⟨#[]⟩, .string ⟨#[]⟩, .string ⟨#[]⟩, .slice none 0 0, .string ⟨#[]⟩, .bool false] 27)).alloc (.cells #[.int .i64 0] 3)).alloc (.cells #[.int .i64 0] 3)).alloc (.cells #[qv s, .int .i64 0, .string ⟨#[]⟩, .string ⟨#[]⟩, .string ⟨#[]⟩, .slice none 0 0, .string ⟨#[]⟩, .bool false, .nilFunc, .int .i64 0] 35)) := ⟨_, rfl⟩
  rw [← hW1]
  have hF := four_new w (.cells #[.string ⟨#[]⟩, .string ⟨#[]⟩, .string ⟨#[]⟩, .slice none 0 0, .string ⟨#[]⟩, .bool false] 27) (.cells #[.int .i64 0] 3) (.cells #[.int .i64 0] 3) (.cells #[qv s, .int .i64 0, .string ⟨#[]⟩, .string ⟨#[]⟩, .string ⟨#[]⟩, .slice none 0 0, .string ⟨#[]⟩, .bool false, .nilFunc, .int .i64 0] 35)
  rw [← hW1] at hF
  have HP1 : Hid (PBx W1 w.heap.size rq0 0 0) := hide ⟨hF.1, hF.2.1, hF.2.2.1⟩
  have HR1 : Hid (RdAt W1 (w.heap.size + 1 + 1 + 1) (rd0 s)) := hide ⟨hF.2.2.2.1, by simp [rd0], unhide HLen⟩
  have HB1 : Hid (Below w.heap.size w W1) := hide hF.2.2.2.2.1
  have HS1 : Hid (W1.heap.size = w.heap.size + 4) := hide hF.2.2.2.2.2
  clear hF
  clear hW1
  obtain ⟨b, hb⟩ : ∃ b, b = w.heap.size := ⟨_, rfl⟩
  rw [← hb] at HP1 HR1 HB1 HS1 ⊢
  obtain ⟨g, hg⟩ : ∃ g, g = b + 1 + 1 + 1 := ⟨_, rfl⟩
  rw [← hg] at HR1 ⊢
  obtain ⟨f, hf⟩ : ∃ f, f = W1.heap.size := ⟨_, rfl⟩
  have HG := hide hg
  have HFs := hide hf
  have HB := hide hb
  have HRow : Hid ((W1.alloc (.cells #[pfn 0 g, pfn 1 g, pfn 2 g] 1)).heap[f]? = some (.cells #[pfn 0 g, pfn 1 g, pfn 2 g] 1)) := hide (by rw [hf]; exact heap_alloc_new _ _)
  clear hg hb
  go_upto_region 4 with fail
  obtain ⟨W2, hW2⟩ : ∃ W2, W2 = W1.alloc (.cells #[pfn 0 g, pfn 1 g, pfn 2 g] 1) := ⟨_, rfl⟩
  have hbl : Below W1.heap.size W1 W2 := by rw [hW2]; exact (Below.refl _ _).alloc (Nat.le_refl _) _
  have HP2 : Hid (PBx W2 b rq0 0 0) := hide ((unhide HP1).below hbl (by have := unhide HS1; omega))
  have HR2 : Hid (RdAt W2 g (rd0 s)) := hide ((unhide HR1).same (hbl.block g (unhide HR1).lt))
  have HB2 : Hid (Below b w W2) := hide ((unhide HB1).trans (hbl.mono (by have := unhide HS1; omega)))
  have HS2 : Hid (g < f ∧ b ≤ g ∧ b + 3 ≤ g) := hide (by have := unhide HS1; have := unhide HG; omega)
  rw [← hW2] at HRow
  rw [show (W1.alloc (.cells #[.func (.func 8) #[.pointer (some ⟨g, 0, none⟩)] #[], .func (.func 9) #[.pointer (some ⟨g, 0, none⟩)] #[], .func (.func 10) #[.pointer (some ⟨g, 0, none⟩)] #[]] 1)) = W2 from hW2.symm, ← hf]
  clear hf hW2 hbl HP1 HR1 HB1 HS1 HFs
  go_loopw [7, 20] (fun _ iv wr => ∃ k : Nat, k ≤ 3 ∧ iv = .int .i64 (k : Int) ∧ Hid (PaSt s g g wr k) ∧ Hid (PBx wr b rq0 0 0) ∧ Hid (wr.heap[f]? = some (.cells #[pfn 0 g, pfn 1 g, pfn 2 g] 1)) ∧ Hid (Below b w wr)) (fun _ iv _ => paMe iv)
  case atStart => exact ⟨0, by omega, rfl, hide (.zero (unhide HR2)), HP2, HRow, HB2⟩
  case round =>
    clear HR2 HP2 HRow HB2
    obtain ⟨k, hk, rfl, HPa, HP, HRow, HBl⟩ := hrel
    have hBs : b ≤ wr.heap.size := by have := (unhide HP).lt; omega
    have hGs : g ≤ wr.heap.size := by have := (unhide HP).lt; have := unhide HG; omega
    by_cases h3 : k = 3
    · subst h3
      have hPa := unhide HPa
      cases hPa with
      | three l n n2 m p q hs hv o fn ln h1 h2 h3 h4 h ho hb =>
        have c8 := h.fn_
        obtain ⟨ha, hcp, rfl⟩ := ho.sl
        rcases hb with ⟨rfl, hfn⟩ | ⟨x, rfl, hx, hfn, hln⟩ | ⟨rfl, hfn⟩
        · simp only [hfn] at c8
          have hC := chunks_any g _ wr h
          simp only [rd0] at hC
          cases hq : qChunks 1001 [] (s.drop (n + n2)) with
          | no e =>
            rw [hq] at hC
            have HC := hide hC
            have HN : Hid (qParse s = .no e) := hide (parse_no5 h1 h2 h3 h4 hq)
            clear hq hC h1 h2 h3 h4 h ho hfn hk hGs
            simp only [Int.cast_ofNat_Int]
            go_wp2_with (go_at_call 22; refine (unhide HC).mono ?_; rintro e w3 ⟨rfl, q3⟩; have HQ3 := hide q3; clear q3)
            exact pan_end (unhide HB) rfl rfl rfl ((unhide HP).qf (unhide HQ3) (unhide HS2).2.2) (unhide HN) ((unhide HBl).trans ((unhide HQ3).below (unhide HS2).2.1 hBs))
          | ok bb n3 =>
            rw [hq] at hC
            have HC := hide hC
            have HN := hide (parse_ok h1 h2 h3 h4 (o := none) hq)
            have HO := hide ho
            have HR := hide h
            clear hq hC h1 h2 h3 h4 h ho hfn hk hGs
            simp only [Int.cast_ofNat_Int]
            go_upto_region 9 with (go_at_call 22; refine (unhide HC).mono ?_; rintro e w3 ⟨⟨rfl, r3⟩, q3⟩; have HQ3 := hide q3; have HR3 := hide r3; clear q3 r3)
            have HP3 := hide ((unhide HP).qf (unhide HQ3) (unhide HS2).2.2)
            have HB3 := hide ((unhide HBl).trans ((unhide HQ3).below (unhide HS2).2.1 hBs))
            have HO3 := hide ((unhide HO).qf (unhide HQ3) (unhide HR))
            have c1 := (unhide HR3).at_
            have c2 := (unhide HR3).c2
            have c3 := (unhide HR3).c3
            have c4 := (unhide HR3).c4
            have c5 := (unhide HR3).hv_
            have c6 := (unhide HR3).c6
            have c7 := (unhide HR3).c7
            have d0 : w3.cell? ⟨b, 0, none⟩ = some (qv []) := (cell_of_row _ _ _ _ _ _ (unhide HP3).r).trans rfl
            have d1 : w3.cell? ⟨b, 1, none⟩ = some (qv []) := (cell_of_row _ _ _ _ _ _ (unhide HP3).r).trans rfl
            have d2 : w3.cell? ⟨b, 2, none⟩ = some (qv []) := (cell_of_row _ _ _ _ _ _ (unhide HP3).r).trans rfl
            have d3 : w3.cell? ⟨b, 3, none⟩ = some (.slice none 0 0) := (cell_of_row _ _ _ _ _ _ (unhide HP3).r).trans rfl
            have d4 : w3.cell? ⟨b, 4, none⟩ = some (qv []) := (cell_of_row _ _ _ _ _ _ (unhide HP3).r).trans rfl
            have d5 : w3.cell? ⟨b, 5, none⟩ = some (.bool false) := (cell_of_row _ _ _ _ _ _ (unhide HP3).r).trans rfl
            have d6 : w3.cell? ⟨b + 1, 0, none⟩ = some (.int .i64 0) := (cell_of_row _ _ _ _ _ _ (unhide HP3).n_).trans rfl
            have d7 : w3.cell? ⟨b + 1 + 1, 0, none⟩ = some (.int .i64 0) := (cell_of_row _ _ _ _ _ _ (unhide HP3).s_).trans rfl
            have f0 : ∀ i, w3.frozen? ⟨b, i, none⟩ = false := fun i => by simp [World.frozen?, (unhide HP3).r]
            have f1 : w3.frozen? ⟨b + 1, 0, none⟩ = false := by simp [World.frozen?, (unhide HP3).n_]
            have f2 : w3.frozen? ⟨b + 1 + 1, 0, none⟩ = false := by have := (unhide HP3).s_; simp [World.frozen?, this]
            have g0 : g ≠ b := by have := unhide HS2; omega
            have g1 : g ≠ b + 1 := by have := unhide HS2; omega
            have g2 : g ≠ b + 1 + 1 := by have := unhide HS2; omega
            have SK : Hid (∀ W, SmG g w3 W → W.cell? ⟨g, 1, none⟩ = some (.int .i64 ((n + n2 + n3 : Nat) : Int)) ∧ W.cell? ⟨g, 2, none⟩ = some (qv m) ∧ W.cell? ⟨g, 3, none⟩ = some (qv p) ∧ W.cell? ⟨g, 4, none⟩ = some (qv q) ∧ W.cell? ⟨g, 5, none⟩ = some (.slice ha hs.length hcp) ∧ W.cell? ⟨g, 6, none⟩ = some (qv bb) ∧ W.cell? ⟨g, 7, none⟩ = some (.bool (qCloses hs))) := hide (fun W hW => by
              have hr := (unhide HR3).same hW
              exact ⟨hr.at_, hr.c2, hr.c3, hr.c4, hr.hv_, hr.c6, hr.c7⟩)
            clear HPa hBs HC c8
            go_region_held3 (fun w' => w'.cell? ⟨g, 1, none⟩ = some (.int .i64 ((n + n2 + n3 : Nat) : Int)) ∧ w'.cell? ⟨g, 2, none⟩ = some (qv m) ∧ w'.cell? ⟨g, 3, none⟩ = some (qv p) ∧ w'.cell? ⟨g, 4, none⟩ = some (qv q) ∧ w'.cell? ⟨g, 5, none⟩ = some (.slice ha hs.length hcp) ∧ w'.cell? ⟨g, 6, none⟩ = some (qv bb) ∧ w'.cell? ⟨g, 7, none⟩ = some (.bool (qCloses hs))) (exact unhide SK _ (by repeat (first | (with_reducible exact SmG.refl _ _) | (with_reducible refine SmG.drew ?_) | (with_reducible refine SmG.drewN ?_ _) | ((with_reducible refine SmG.set ?_ ?hg _); case hg => first | exact g0 | exact g1 | exact g2)))) (fail)
            go_wp2_with fail
            have hput := (unhide HP3).put (qv m) (qv p) (qv q) (.slice ha hs.length hcp) (qv bb) (.bool (qCloses hs)) ((n + n2 + n3 : Nat) : Int) 200
            exact ok_end (unhide HB) rfl rfl rfl hput.1.drew (unhide HN) (((unhide HO3).high (fun gg hgg => hput.2.2 gg (by have := unhide HS2; omega))).mono (unhide HS2).2.1).drew ((unhide HB3).trans hput.2.1).drew (.inr rfl)
        · simp only [hfn] at c8
          have hC := counted_any g _ x wr h (by omega) hln
          simp only [rd0] at hC
          cases hq : qTake x (s.drop (n + n2)) with
          | no e =>
            rw [hq] at hC
            have HC := hide hC
            have HN : Hid (qParse s = .no e) := hide (parse_no5 h1 h2 h3 h4 hq)
            clear hln hx hq hC h1 h2 h3 h4 h ho hfn hk hGs
            simp only [Int.cast_ofNat_Int]
            go_wp2_with (go_at_call 25; refine (unhide HC).mono ?_; rintro e w3 ⟨rfl, q3⟩; have HQ3 := hide q3; clear q3)
            exact pan_end (unhide HB) rfl rfl rfl ((unhide HP).qf (unhide HQ3) (unhide HS2).2.2) (unhide HN) ((unhide HBl).trans ((unhide HQ3).below (unhide HS2).2.1 hBs))
          | ok bb n3 =>
            rw [hq] at hC
            have HC := hide hC
            have HN := hide (parse_ok h1 h2 h3 h4 (o := some x) hq)
            have HO := hide ho
            have HR := hide h
            clear hln hx hq hC h1 h2 h3 h4 h ho hfn hk hGs
            simp only [Int.cast_ofNat_Int]
            go_upto_region 9 with (go_at_call 25; refine (unhide HC).mono ?_; rintro e w3 ⟨⟨rfl, r3⟩, q3⟩; have HQ3 := hide q3; have HR3 := hide r3; clear q3 r3)
            have HP3 := hide ((unhide HP).qf (unhide HQ3) (unhide HS2).2.2)
            have HB3 := hide ((unhide HBl).trans ((unhide HQ3).below (unhide HS2).2.1 hBs))
            have HO3 := hide ((unhide HO).qf (unhide HQ3) (unhide HR))
            have c1 := (unhide HR3).at_
            have c2 := (unhide HR3).c2
            have c3 := (unhide HR3).c3
            have c4 := (unhide HR3).c4
            have c5 := (unhide HR3).hv_
            have c6 := (unhide HR3).c6
            have c7 := (unhide HR3).c7
            have d0 : w3.cell? ⟨b, 0, none⟩ = some (qv []) := (cell_of_row _ _ _ _ _ _ (unhide HP3).r).trans rfl
            have d1 : w3.cell? ⟨b, 1, none⟩ = some (qv []) := (cell_of_row _ _ _ _ _ _ (unhide HP3).r).trans rfl
            have d2 : w3.cell? ⟨b, 2, none⟩ = some (qv []) := (cell_of_row _ _ _ _ _ _ (unhide HP3).r).trans rfl
            have d3 : w3.cell? ⟨b, 3, none⟩ = some (.slice none 0 0) := (cell_of_row _ _ _ _ _ _ (unhide HP3).r).trans rfl
            have d4 : w3.cell? ⟨b, 4, none⟩ = some (qv []) := (cell_of_row _ _ _ _ _ _ (unhide HP3).r).trans rfl
            have d5 : w3.cell? ⟨b, 5, none⟩ = some (.bool false) := (cell_of_row _ _ _ _ _ _ (unhide HP3).r).trans rfl
            have d6 : w3.cell? ⟨b + 1, 0, none⟩ = some (.int .i64 0) := (cell_of_row _ _ _ _ _ _ (unhide HP3).n_).trans rfl
            have d7 : w3.cell? ⟨b + 1 + 1, 0, none⟩ = some (.int .i64 0) := (cell_of_row _ _ _ _ _ _ (unhide HP3).s_).trans rfl
            have f0 : ∀ i, w3.frozen? ⟨b, i, none⟩ = false := fun i => by simp [World.frozen?, (unhide HP3).r]
            have f1 : w3.frozen? ⟨b + 1, 0, none⟩ = false := by simp [World.frozen?, (unhide HP3).n_]
            have f2 : w3.frozen? ⟨b + 1 + 1, 0, none⟩ = false := by have := (unhide HP3).s_; simp [World.frozen?, this]
            have g0 : g ≠ b := by have := unhide HS2; omega
            have g1 : g ≠ b + 1 := by have := unhide HS2; omega
            have g2 : g ≠ b + 1 + 1 := by have := unhide HS2; omega
            have SK : Hid (∀ W, SmG g w3 W → W.cell? ⟨g, 1, none⟩ = some (.int .i64 ((n + n2 + n3 : Nat) : Int)) ∧ W.cell? ⟨g, 2, none⟩ = some (qv m) ∧ W.cell? ⟨g, 3, none⟩ = some (qv p) ∧ W.cell? ⟨g, 4, none⟩ = some (qv q) ∧ W.cell? ⟨g, 5, none⟩ = some (.slice ha hs.length hcp) ∧ W.cell? ⟨g, 6, none⟩ = some (qv bb) ∧ W.cell? ⟨g, 7, none⟩ = some (.bool (qCloses hs))) := hide (fun W hW => by
              have hr := (unhide HR3).same hW
              exact ⟨hr.at_, hr.c2, hr.c3, hr.c4, hr.hv_, hr.c6, hr.c7⟩)
            clear HPa hBs HC c8
            go_region_held3 (fun w' => w'.cell? ⟨g, 1, none⟩ = some (.int .i64 ((n + n2 + n3 : Nat) : Int)) ∧ w'.cell? ⟨g, 2, none⟩ = some (qv m) ∧ w'.cell? ⟨g, 3, none⟩ = some (qv p) ∧ w'.cell? ⟨g, 4, none⟩ = some (qv q) ∧ w'.cell? ⟨g, 5, none⟩ = some (.slice ha hs.length hcp) ∧ w'.cell? ⟨g, 6, none⟩ = some (qv bb) ∧ w'.cell? ⟨g, 7, none⟩ = some (.bool (qCloses hs))) (exact unhide SK _ (by repeat (first | (with_reducible exact SmG.refl _ _) | (with_reducible refine SmG.drew ?_) | (with_reducible refine SmG.drewN ?_ _) | ((with_reducible refine SmG.set ?_ ?hg _); case hg => first | exact g0 | exact g1 | exact g2)))) (fail)
            go_wp2_with fail
            have hput := (unhide HP3).put (qv m) (qv p) (qv q) (.slice ha hs.length hcp) (qv bb) (.bool (qCloses hs)) ((n + n2 + n3 : Nat) : Int) 200
            exact ok_end (unhide HB) rfl rfl rfl hput.1.drew (unhide HN) (((unhide HO3).high (fun gg hgg => hput.2.2 gg (by have := unhide HS2; omega))).mono (unhide HS2).2.1).drew ((unhide HB3).trans hput.2.1).drew (.inr rfl)
        · simp only [hfn] at c8
          have HC := hide (nothing_any g wr)
          have hq : qBody (some 0) (s.drop (n + n2)) = .ok [] 0 := by simp [qBody, qTake]
          have HN := hide (parse_ok h1 h2 h3 h4 (o := some 0) hq)
          have HO := hide ho
          have HR := hide h
          clear hq h1 h2 h3 h4 h ho hfn hk hGs
          simp only [Int.cast_ofNat_Int]
          go_upto_region 9 with (go_at_call 26; refine (unhide HC).mono ?_; rintro e w3 ⟨rfl, rfl⟩; have HQ3 := hide (QF.refl g w3); have HR3 := HR)
          have HP3 := hide ((unhide HP).qf (unhide HQ3) (unhide HS2).2.2)
          have HB3 := hide ((unhide HBl).trans ((unhide HQ3).below (unhide HS2).2.1 hBs))
          have HO3 := hide ((unhide HO).qf (unhide HQ3) (unhide HR))
          have c1 := (unhide HR3).at_
          have c2 := (unhide HR3).c2
          have c3 := (unhide HR3).c3
          have c4 := (unhide HR3).c4
          have c5 := (unhide HR3).hv_
          have c6 := (unhide HR3).c6
          have c7 := (unhide HR3).c7
          have d0 : w3.cell? ⟨b, 0, none⟩ = some (qv []) := (cell_of_row _ _ _ _ _ _ (unhide HP3).r).trans rfl
          have d1 : w3.cell? ⟨b, 1, none⟩ = some (qv []) := (cell_of_row _ _ _ _ _ _ (unhide HP3).r).trans rfl
          have d2 : w3.cell? ⟨b, 2, none⟩ = some (qv []) := (cell_of_row _ _ _ _ _ _ (unhide HP3).r).trans rfl
          have d3 : w3.cell? ⟨b, 3, none⟩ = some (.slice none 0 0) := (cell_of_row _ _ _ _ _ _ (unhide HP3).r).trans rfl
          have d4 : w3.cell? ⟨b, 4, none⟩ = some (qv []) := (cell_of_row _ _ _ _ _ _ (unhide HP3).r).trans rfl
          have d5 : w3.cell? ⟨b, 5, none⟩ = some (.bool false) := (cell_of_row _ _ _ _ _ _ (unhide HP3).r).trans rfl
          have d6 : w3.cell? ⟨b + 1, 0, none⟩ = some (.int .i64 0) := (cell_of_row _ _ _ _ _ _ (unhide HP3).n_).trans rfl
          have d7 : w3.cell? ⟨b + 1 + 1, 0, none⟩ = some (.int .i64 0) := (cell_of_row _ _ _ _ _ _ (unhide HP3).s_).trans rfl
          have f0 : ∀ i, w3.frozen? ⟨b, i, none⟩ = false := fun i => by simp [World.frozen?, (unhide HP3).r]
          have f1 : w3.frozen? ⟨b + 1, 0, none⟩ = false := by simp [World.frozen?, (unhide HP3).n_]
          have f2 : w3.frozen? ⟨b + 1 + 1, 0, none⟩ = false := by have := (unhide HP3).s_; simp [World.frozen?, this]
          have g0 : g ≠ b := by have := unhide HS2; omega
          have g1 : g ≠ b + 1 := by have := unhide HS2; omega
          have g2 : g ≠ b + 1 + 1 := by have := unhide HS2; omega
          have SK : Hid (∀ W, SmG g w3 W → W.cell? ⟨g, 1, none⟩ = some (.int .i64 ((n + n2 + 0 : Nat) : Int)) ∧ W.cell? ⟨g, 2, none⟩ = some (qv m) ∧ W.cell? ⟨g, 3, none⟩ = some (qv p) ∧ W.cell? ⟨g, 4, none⟩ = some (qv q) ∧ W.cell? ⟨g, 5, none⟩ = some (.slice ha hs.length hcp) ∧ W.cell? ⟨g, 6, none⟩ = some (qv []) ∧ W.cell? ⟨g, 7, none⟩ = some (.bool (qCloses hs))) := hide (fun W hW => by
            have hr := (unhide HR3).same hW
            exact ⟨hr.at_, hr.c2, hr.c3, hr.c4, hr.hv_, hr.c6, hr.c7⟩)
          clear HPa hBs HC c8
          go_region_held3 (fun w' => w'.cell? ⟨g, 1, none⟩ = some (.int .i64 ((n + n2 + 0 : Nat) : Int)) ∧ w'.cell? ⟨g, 2, none⟩ = some (qv m) ∧ w'.cell? ⟨g, 3, none⟩ = some (qv p) ∧ w'.cell? ⟨g, 4, none⟩ = some (qv q) ∧ w'.cell? ⟨g, 5, none⟩ = some (.slice ha hs.length hcp) ∧ w'.cell? ⟨g, 6, none⟩ = some (qv []) ∧ w'.cell? ⟨g, 7, none⟩ = some (.bool (qCloses hs))) (exact unhide SK _ (by repeat (first | (with_reducible exact SmG.refl _ _) | (with_reducible refine SmG.drew ?_) | (with_reducible refine SmG.drewN ?_ _) | ((with_reducible refine SmG.set ?_ ?hg _); case hg => first | exact g0 | exact g1 | exact g2)))) (fail)
          go_wp2_with fail
          have hput := (unhide HP3).put (qv m) (qv p) (qv q) (.slice ha hs.length hcp) (qv []) (.bool (qCloses hs)) ((n + n2 + 0 : Nat) : Int) 200
          exact ok_end (unhide HB) rfl rfl rfl hput.1.drew (unhide HN) (((unhide HO3).high (fun gg hgg => hput.2.2 gg (by have := unhide HS2; omega))).mono (unhide HS2).2.1).drew ((unhide HB3).trans hput.2.1).drew (.inr rfl)
    · have hlt : (k : Int) < 3 := by omega
      have wr1 : IntKind.i64.wrap ((k : Int) + 1) = ((k + 1 : Nat) : Int) := by rw [IntKind.wrap_i64]; omega
      have hcell : wr.cell? ⟨f, k, none⟩ = some (pfn k g) := by
        refine (cell_of_row _ _ _ _ _ _ (unhide HRow)).trans ?_
        rcases (show k = 0 ∨ k = 1 ∨ k = 2 by omega) with rfl | rfl | rfl <;> rfl
      rcases (show k = 0 ∨ k = 1 ∨ k = 2 by omega) with rfl | rfl | rfl
      · have hc0 : wr.cell? ⟨f, 0, none⟩ = some (.func (.func 8) #[.pointer (some ⟨g, 0, none⟩)] #[]) := hcell
        rcases pa_zero (unhide HPa) hGs with ⟨n, hn, hC⟩ | hC
        · have HC := hide hC
          have HN := hide hn
          clear hC hn h3 hk hcell hlt wr1 hGs
          simp only [Int.cast_ofNat_Int]
          go_wp2_with (go_at_call 8; refine (unhide HC).mono ?_; rintro e w3 ⟨rfl, q3⟩; have HQ3 := hide q3; clear q3)
          exact pan_end (unhide HB) rfl rfl rfl ((unhide HP).qf (unhide HQ3) (unhide HS2).2.2) (unhide HN) ((unhide HBl).trans ((unhide HQ3).below (unhide HS2).2.1 hBs))
        · have HC := hide hC
          clear hC h3 hk hcell hlt wr1 hGs
          simp only [Int.cast_ofNat_Int]
          go_wp2_with (go_at_call 8; refine (unhide HC).mono ?_; rintro e w3 ⟨⟨rfl, p3⟩, q3⟩; have HQ3 := hide q3; have HP3 := hide p3; clear q3 p3)
          exact ⟨⟨1, by omega, rfl, HP3, hide ((unhide HP).qf (unhide HQ3) (unhide HS2).2.2), hide (((unhide HQ3).block f (lt_of_block (unhide HRow)) (by have := unhide HS2; omega)).trans (unhide HRow)), hide ((unhide HBl).trans ((unhide HQ3).below (unhide HS2).2.1 hBs))⟩, paMe_lt 0 (by omega)⟩
      · have hc0 : wr.cell? ⟨f, 1, none⟩ = some (.func (.func 9) #[.pointer (some ⟨g, 0, none⟩)] #[]) := hcell
        rcases pa_one (unhide HPa) hGs with ⟨n, hn, hC⟩ | hC
        · have HC := hide hC
          have HN := hide hn
          clear hC hn h3 hk hcell hlt wr1 hGs
          simp only [Int.cast_ofNat_Int]
          go_wp2_with (go_at_call 9; refine (unhide HC).mono ?_; rintro e w3 ⟨rfl, q3⟩; have HQ3 := hide q3; clear q3)
          exact pan_end (unhide HB) rfl rfl rfl ((unhide HP).qf (unhide HQ3) (unhide HS2).2.2) (unhide HN) ((unhide HBl).trans ((unhide HQ3).below (unhide HS2).2.1 hBs))
        · have HC := hide hC
          clear hC h3 hk hcell hlt wr1 hGs
          simp only [Int.cast_ofNat_Int]
          go_wp2_with (go_at_call 9; refine (unhide HC).mono ?_; rintro e w3 ⟨⟨rfl, p3⟩, q3⟩; have HQ3 := hide q3; have HP3 := hide p3; clear q3 p3)
          exact ⟨⟨2, by omega, rfl, HP3, hide ((unhide HP).qf (unhide HQ3) (unhide HS2).2.2), hide (((unhide HQ3).block f (lt_of_block (unhide HRow)) (by have := unhide HS2; omega)).trans (unhide HRow)), hide ((unhide HBl).trans ((unhide HQ3).below (unhide HS2).2.1 hBs))⟩, paMe_lt 1 (by omega)⟩
      · have hc0 : wr.cell? ⟨f, 2, none⟩ = some (.func (.func 10) #[.pointer (some ⟨g, 0, none⟩)] #[]) := hcell
        rcases pa_two (unhide HPa) hGs with ⟨n, hn, hC⟩ | hC
        · have HC := hide hC
          have HN := hide hn
          clear hC hn h3 hk hcell hlt wr1 hGs
          simp only [Int.cast_ofNat_Int]
          go_wp2_with (go_at_call 10; refine (unhide HC).mono ?_; rintro e w3 ⟨rfl, q3⟩; have HQ3 := hide q3; clear q3)
          exact pan_end (unhide HB) rfl rfl rfl ((unhide HP).qf (unhide HQ3) (unhide HS2).2.2) (unhide HN) ((unhide HBl).trans ((unhide HQ3).below (unhide HS2).2.1 hBs))
        · have HC := hide hC
          clear hC h3 hk hcell hlt wr1 hGs
          simp only [Int.cast_ofNat_Int]
          go_wp2_with (go_at_call 10; refine (unhide HC).mono ?_; rintro e w3 ⟨⟨rfl, p3⟩, q3⟩; have HQ3 := hide q3; have HP3 := hide p3; clear q3 p3)
          exact ⟨⟨3, by omega, rfl, HP3, hide ((unhide HP).qf (unhide HQ3) (unhide HS2).2.2), hide (((unhide HQ3).block f (lt_of_block (unhide HRow)) (by have := unhide HS2; omega)).trans (unhide HRow)), hide ((unhide HBl).trans ((unhide HQ3).below (unhide HS2).2.1 hBs))⟩, paMe_lt 2 (by omega)⟩
end Go.Proofs.YtankbanonbmffabGreatDoor
