/-
  DERIVED. The walk of Fold.
-/
import Derived.Test.YtingpmgpjmlioaaGreatDoorRuT
import Derived.Test.YtingpmgpjmlioaaGreatDoorShCl
namespace Go.Proofs.YtingpmgpjmlioaaGreatDoor
open Go.RowKit
set_option linter.unusedVariables false

/-- An expression of the right form gives no error 0. -/
theorem evalX_err (S : Sc) : ∀ (n : Nat) (x : Ex), SizeOf.sizeOf x ≤ n → Formed x → ∀ e, evalX S x = .error e → e ≠ 0 := by
  intro n
  induction n with
  | zero => intro x hx; cases x; simp only [Ex.mk.sizeOf_spec] at hx; omega
  | succ n ih =>
    intro x hx hf e he
    obtain ⟨_, hok, hr⟩ := hf
    have hL : ∀ (l : List Ex), (∀ y ∈ l, y ∈ x.args) → ∀ e, evalL S l = .error e → e ≠ 0 := by
      intro l
      induction l with
      | nil => intro _ e h; rw [evalL] at h; cases h
      | cons y r ihr =>
        intro hm e h
        rw [evalL_cons] at h
        have hy := hm y (by simp)
        cases hv : evalX S y with
        | error e2 =>
          rw [hv] at h
          cases h
          exact ih y (by have := args_lt hy; omega) (hr y hy) e hv
        | ok f =>
          rw [hv] at h
          simp only at h
          cases hl : evalL S r with
          | error e2 =>
            rw [hl] at h
            cases h
            exact ihr (fun z hz => hm z (by simp [hz])) e hl
          | ok fs => rw [hl] at h; cases h
    rw [evalX_eq] at he
    cases hl : evalL S x.args with
    | error e2 =>
      rw [hl] at he
      cases he
      exact hL x.args (fun y hy => hy) e hl
    | ok fs =>
      rw [hl] at he
      simp only at he
      have hlen := evalL_len S x.args hl
      unfold okX at hok
      rw [decide_eq_true_eq] at hok
      intro e0
      subst e0
      unfold opX at he
      unfold argsN at hok
      repeat' (split at he <;> try (cases he; done))
      all_goals first
        | (simp only [List.length_nil, List.length_cons] at hlen; (repeat' split at hok) <;> omega)
        | (cases he)
theorem evalE_err {st : List UInt8} {l m : List Fld} {x : Ex} {e : Int} (h : evalE st l m x = .error e) : e ≠ 0 := by
  unfold evalE evalA at h
  split at h
  · rename_i hf; exact evalX_err _ _ x (Nat.le_refl _) (formed_of hf) e h
  · cases h; decide
end Go.Proofs.YtingpmgpjmlioaaGreatDoor

namespace Go.Proofs.YtingpmgpjmlioaaGreatDoor
open Go.RowKit
set_option linter.unusedVariables false

abbrev evoV (t : List UInt8) (a : Option Addr) (n c : Nat) (a' : Option Addr) (n' c' : Nat) : Array Value := #[sv t, .slice a n c, .slice a' n' c']
theorem foldC1_any (t tp : List UInt8) (a : Option Addr) (n c : Nat) (a' : Option Addr) (n' c' : Nat) (E : Nat) (w : World) (hE : w.cell? ⟨E, 0, none⟩ = some (sv t)) :
    Calls Tryz.prog 29 #[.agg (evoV tp a n c a' n' c'), .pointer (some ⟨E, 0, none⟩)] w fun e w' => e = .returned (.bool (tp == t)) ∧ Below w.heap.size w w' := by
  have hb : Below w.heap.size w (w.alloc (.cells (evoV tp a n c a' n' c') 74)) := (Below.refl _ _).alloc (Nat.le_refl _) _
  have HB := hide hb
  have hE' := kept hb hE
  clear hE hb
  go_enter Tryz.func29, Tryz.ntmps29
  go_wp2_with fail
  go_ret
  exact ⟨rfl, unhide HB⟩

/-- Where the first Evolve of a type stands; below 0: nowhere. -/
def fIx (vs : List Evo) (t : List UInt8) : Int := match vs.findIdx? (fun v => v.type == t) with
  | some i => (i : Nat)
  | none => -1
theorem fIx_at {vs : List Evo} {t : List UInt8} {k : Nat} {v : Evo} (h : ∀ a ∈ vs.take k, a.type ≠ t) (hk : vs[k]? = some v) (hv : v.type = t) : fIx vs t = (k : Int) ∧ vs.find? (fun v => v.type == t) = some v := by
  obtain ⟨hl, he⟩ := List.getElem?_eq_some_iff.1 hk
  have h1 : ∀ j, (hj : j < k) → ¬ (vs[j]'(by omega)).type = t := fun j hj => h _ (by
    rw [List.mem_iff_getElem?]
    exact ⟨j, by rw [List.getElem?_take_of_lt hj, List.getElem?_eq_getElem (by omega)]⟩)
  have hi : vs.findIdx? (fun v => v.type == t) = some k := by
    rw [List.findIdx?_eq_some_iff_getElem]
    exact ⟨hl, by rw [he]; simpa using hv, fun j hj => by simpa using h1 j hj⟩
  refine ⟨by unfold fIx; rw [hi], ?_⟩
  rw [List.find?_eq_some_iff_getElem]
  exact ⟨by simpa using hv, k, hl, he, fun j hj => by simpa using h1 j hj⟩
theorem fIx_none {vs : List Evo} {t : List UInt8} (h : ∀ a ∈ vs, a.type ≠ t) : fIx vs t = -1 ∧ vs.find? (fun v => v.type == t) = none := by
  have hi : vs.findIdx? (fun v => v.type == t) = none := by
    rw [List.findIdx?_eq_none_iff]; intro a ha; simpa using h a ha
  refine ⟨by unfold fIx; rw [hi], ?_⟩
  rw [List.find?_eq_none]; intro a ha; simpa using h a ha

set_option maxHeartbeats 4000000 in
theorem IndexEvo_any (a : Option Addr) (n c : Nat) (vs : List Evo) (t : List UInt8) (E : Nat) (w : World) (hv : SlOf 3 EvoAt w (.slice a n c) vs) (hlen : vs.length < 100000000000000000) (hE : w.cell? ⟨E, 0, none⟩ = some (sv t)) :
    Calls Tryz.prog 28 #[.slice a n c, .func (.func 29) #[] #[.pointer (some ⟨E, 0, none⟩)]] w fun e w' => e = .returned (.int .i64 (fIx vs t)) ∧ Below w.heap.size w w' := by
  obtain ⟨rfl, hl1, hl2⟩ := hv.len
  obtain ⟨N, hN⟩ : ∃ N, N = vs.length := ⟨_, rfl⟩
  have HN := hide hN
  have HV := hide hv
  have HE := hide hE
  rw [← hN] at hl1 hlen ⊢
  clear hv hN hE
  go_enter Tryz.func28, Tryz.ntmps28
  go_wp2_with fail
  go_loopw [5, 8] (fun _ i wr => ∃ (k : Nat), k ≤ N ∧ i = .int .i64 k ∧ Hid (∀ v ∈ vs.take k, v.type ≠ t) ∧ Hid (Below w.heap.size w wr)) (fun _ i _ => N - (intOf i).toNat)
  case atStart => exact ⟨0, by omega, rfl, hide (fun u hu => by simp at hu), hide (Below.refl _ _)⟩
  case round =>
    obtain ⟨k, hk, rfl, HA, HB⟩ := hrel
    by_cases hlt : k < N
    · have hkl : k < vs.length := by have := unhide HN; omega
      obtain ⟨⟨tp, sets, drops⟩, huk⟩ : ∃ u, vs[k]? = some u := ⟨_, List.getElem?_eq_getElem hkl⟩
      obtain ⟨b, off, rfl, -, hat⟩ := ((unhide HV).grown (fun _ _ _ _ _ => EvoAt.grown) (unhide HB)).at huk
      obtain ⟨d0, ⟨sa, sc, d1, -⟩, da, dc, d2, -⟩ := hat
      simp only at d0 d1 d2
      have HC := hide (foldC1_any t tp sa sets.length sc da drops.length dc E wr (kept (unhide HB) (unhide HE)))
      by_cases hx : tp = t
      · have hx' : (tp == t) = true := by simp [hx]
        have HR := hide (fIx_at (unhide HA) huk hx).1
        rw [hx'] at HC
        clear hx hx' huk
        go_wp2_with (go_at_call 29; refine (unhide HC).mono ?_; rintro e w3 ⟨rfl, b3⟩; have HB3 := hide ((unhide HB).trans (b3.mono (unhide HB).size)); clear b3)
        go_ret
        exact ⟨by rw [unhide HR]; rfl, unhide HB3⟩
      · have hx' : (tp == t) = false := by simp [hx]
        have HA2 : Hid (∀ v ∈ vs.take (k + 1), v.type ≠ t) := hide (fun u hu => by
          rw [List.take_add_one, huk] at hu
          rcases List.mem_append.1 hu with hu | hu
          · exact unhide HA u hu
          · simp at hu; rw [hu]; exact hx)
        rw [hx'] at HC
        clear hx hx' huk
        go_wp2_with (go_at_call 29; refine (unhide HC).mono ?_; rintro e w3 ⟨rfl, b3⟩; have HB3 := hide ((unhide HB).trans (b3.mono (unhide HB).size)); clear b3)
        go_roundw
        case rel => exact ⟨k + 1, by omega, by go_num, HA2, HB3⟩
        case measure => simp [intOf]; omega
    · have HR := hide (fIx_none (vs := vs) (t := t) (fun u hu => unhide HA u (by rw [List.take_of_length_le (by have := unhide HN; omega)]; exact hu))).1
      go_wp2_with fail
      go_ret
      exact ⟨by rw [unhide HR]; rfl, unhide HB⟩

/-- A box of an Assign. -/
abbrev asV (nm : List UInt8) (x : Ex) (a : Option Addr) (c : Nat) : Array Value := #[sv nm, .int .i64 x.kind, .int .i64 x.n, sv x.s, .slice a x.args.length c]
def ABx (w : World) (q : Nat) (nm : List UInt8) (x : Ex) (a : Option Addr) (c : Nat) : Prop := w.heap[q]? = some (.cells (asV nm x a c) 77 (0, 0))
theorem ABx.new (w : World) (nm : List UInt8) (x : Ex) (a : Option Addr) (c : Nat) : ABx (w.alloc (.cells (asV nm x a c) 77)) w.heap.size nm x a c := heap_alloc_new _ _
theorem ABx.lt {w : World} {q : Nat} {nm : List UInt8} {x : Ex} {a : Option Addr} {c : Nat} (h : ABx w q nm x a c) : q < w.heap.size := lt_of_block h
theorem ABx.below {B : Nat} {w w' : World} {q : Nat} {nm : List UInt8} {x : Ex} {a : Option Addr} {c : Nat} (h : ABx w q nm x a c) (hb : Below B w w') (hB : w.heap.size ≤ B) : ABx w' q nm x a c := (hb.block q (by have := h.lt; omega)).trans h
theorem ABx.cells {w : World} {q : Nat} {nm : List UInt8} {x : Ex} {a : Option Addr} {c : Nat} (h : ABx w q nm x a c) : w.cell? ⟨q, 0, none⟩ = some (sv nm) ∧ w.cell? ⟨q, 1, none⟩ = some (.int .i64 x.kind) ∧ w.cell? ⟨q, 2, none⟩ = some (.int .i64 x.n) ∧ w.cell? ⟨q, 3, none⟩ = some (sv x.s) ∧ w.cell? ⟨q, 4, none⟩ = some (.slice a x.args.length c) :=
  ⟨(cell_of_row _ _ _ _ _ _ h).trans rfl, (cell_of_row _ _ _ _ _ _ h).trans rfl, (cell_of_row _ _ _ _ _ _ h).trans rfl, (cell_of_row _ _ _ _ _ _ h).trans rfl, (cell_of_row _ _ _ _ _ _ h).trans rfl⟩
end Go.Proofs.YtingpmgpjmlioaaGreatDoor

namespace Go.Proofs.YtingpmgpjmlioaaGreatDoor
open Go.RowKit
set_option linter.unusedVariables false

theorem dropF_le (L : List Fld) (nm : List UInt8) : (dropF L nm).length ≤ L.length := by
  have hle := atF_le L nm
  have hb : atF L nm ≤ behF L nm := by unfold behF; split <;> omega
  unfold dropF; simp; omega

/-- Where Fold stands. -/
structure FoSt (Lm : Nat) (w wr : World) (v : Value) (cur : List Fld) : Prop where
  bel : Below w.heap.size w wr
  own : FOwn wr w.heap.size v cur
  len : cur.length ≤ Lm
theorem FoSt.grown {Lm : Nat} {w wr wr' : World} {v : Value} {cur : List Fld} (h : FoSt Lm w wr v cur) (hb : Below wr.heap.size wr wr') : FoSt Lm w wr' v cur :=
  ⟨h.bel.trans (hb.mono h.bel.size), h.own.below hb (Nat.le_refl _), h.len⟩
theorem FoSt.put {Lm : Nat} {w wr wr' : World} {v v' : Value} {cur cur' : List Fld} (h : FoSt Lm w wr v cur) (hb : Below wr.heap.size wr wr') (ho : FOwn wr' wr.heap.size v' cur') (hl : cur'.length ≤ Lm) : FoSt Lm w wr' v' cur' :=
  ⟨h.bel.trans (hb.mono h.bel.size), ho.mono h.bel.size, hl⟩

theorem take_snocA {sets : List As} {k : Nat} {a : As} (h : sets[k]? = some a) (st : List UInt8) (l m cur : List Fld) : (sets.take (k + 1)).foldl (setR st l m) cur = setR st l m ((sets.take k).foldl (setR st l m) cur) a := by
  rw [List.take_add_one, h]; simp
theorem take_snocD {ds : List (List UInt8)} {k : Nat} {a : List UInt8} (h : ds[k]? = some a) (cur : List Fld) : (ds.take (k + 1)).foldl dropF cur = dropF ((ds.take k).foldl dropF cur) a := by
  rw [List.take_add_one, h]; simp

theorem fIx_cases (vs : List Evo) (t : List UInt8) : (fIx vs t = -1 ∧ ∀ st l m, foldR vs st l t m = l) ∨ ∃ (k : Nat) (v : Evo), fIx vs t = (k : Int) ∧ vs[k]? = some v ∧ ∀ st l m, foldR vs st l t m = v.drops.foldl dropF (v.sets.foldl (setR st l m) l) := by
  cases h : vs.findIdx? (fun v => v.type == t) with
  | none =>
    rw [List.findIdx?_eq_none_iff] at h
    obtain ⟨h1, h2⟩ := fIx_none (vs := vs) (t := t) (fun a ha => by simpa using h a ha)
    exact .inl ⟨h1, fun st l m => by unfold foldR; rw [h2]⟩
  | some k =>
    have h0 := h
    rw [List.findIdx?_eq_some_iff_getElem] at h
    obtain ⟨hl, hp, hmin⟩ := h
    have h2 : vs.find? (fun v => v.type == t) = some vs[k] := by
      rw [List.find?_eq_some_iff_getElem]
      exact ⟨hp, k, hl, rfl, fun j hj => by simpa using hmin j hj⟩
    exact .inr ⟨k, vs[k], by unfold fIx; rw [h0], List.getElem?_eq_getElem hl, fun st l m => by unfold foldR; rw [h2]⟩

theorem fo_end {Lm : Nat} {w w2 wr : World} {v : Value} {cur : List Fld} {B : Nat} (hB : B = w.heap.size) (h2 : Below w.heap.size w w2) (h : FoSt Lm w2 wr v cur) : ∃ v', Ending.returned v = .returned v' ∧ FOwn wr B v' cur ∧ Below B w wr := by
  subst hB
  exact ⟨v, rfl, h.own.mono h2.size, h2.trans (h.bel.mono h2.size)⟩

abbrev rulV (ha : Option Addr) (hn hc : Nat) (va : Option Addr) (vn vc : Nat) : Array Value := #[.slice ha hn hc, .slice va vn vc]
abbrev evtV (t : List UInt8) (ver : Int) (ma : Option Addr) (mn mc : Nat) : Array Value := #[sv t, .int .i64 ver, .slice ma mn mc]

set_option maxRecDepth 20000 in
set_option maxHeartbeats 8000000 in
theorem Fold_any (ha : Option Addr) (hn hc : Nat) (va : Option Addr) (vn vc : Nat) (vs : List Evo) (st : List UInt8) (la : Option Addr) (lc : Nat) (l : List Fld) (t : List UInt8) (ver : Int) (ma : Option Addr) (mc : Nat) (m : List Fld) (w : World)
    (hv : SlOf 3 EvoAt w (.slice va vn vc) vs) (hvl : vs.length < 100000000000000000) (hl : FdN w la lc l) (hl16 : (l.length + 1) * 48 ≤ 140737488355328) (hm : FdL w (.slice ma m.length mc) m) (hst : st.length ≤ 140737488355328) (hfs : ∀ f ∈ l, small f) (hfg : ∀ f ∈ m, small f) (hva : Vars w) :
    Calls Tryz.prog 10 #[.agg (rulV ha hn hc va vn vc), sv st, .slice la l.length lc, .agg (evtV t ver ma m.length mc)] w fun e w' => ∃ v, e = .returned v ∧ FOwn w' w.heap.size v (foldR vs st l t m) ∧ Below w.heap.size w w' := by
  have hmf : ∀ (fn : Fn) (first cap : Array Value) (w : World), (Instr.makeFunc fn first cap).run Tryz.prog w = .ok (.func fn first cap) w := fun _ _ _ _ => rfl
  obtain ⟨rfl, hl1, hl2⟩ := hv.len
  have hb1 : Below w.heap.size w (w.alloc (.cells (rulV ha hn hc va vs.length vc) 25)) := (Below.refl _ _).alloc (Nat.le_refl _) _
  have hb2 : Below w.heap.size w ((w.alloc (.cells (rulV ha hn hc va vs.length vc) 25)).alloc (.cells (evtV t ver ma m.length mc) 34)) := hb1.alloc hb1.size _
  have hR2 : ((w.alloc (.cells (rulV ha hn hc va vs.length vc) 25)).alloc (.cells (evtV t ver ma m.length mc) 34)).heap[w.heap.size]? = some (.cells (rulV ha hn hc va vs.length vc) 25 (0, 0)) := by
    have h1 : (w.alloc (.cells (rulV ha hn hc va vs.length vc) 25)).heap[w.heap.size]? = some (.cells (rulV ha hn hc va vs.length vc) 25 (0, 0)) := heap_alloc_new _ _
    have h2 : Below (w.alloc (.cells (rulV ha hn hc va vs.length vc) 25)).heap.size (w.alloc (.cells (rulV ha hn hc va vs.length vc) 25)) ((w.alloc (.cells (rulV ha hn hc va vs.length vc) 25)).alloc (.cells (evtV t ver ma m.length mc) 34)) := (Below.refl _ _).alloc (Nat.le_refl _) _
    exact (h2.block _ (lt_of_block h1)).trans h1
  have hE2 : ((w.alloc (.cells (rulV ha hn hc va vs.length vc) 25)).alloc (.cells (evtV t ver ma m.length mc) 34)).heap[w.heap.size + 1]? = some (.cells (evtV t ver ma m.length mc) 34 (0, 0)) := by
    have := heap_alloc_new (w.alloc (.cells (rulV ha hn hc va vs.length vc) 25)) (.cells (evtV t ver ma m.length mc) 34 (0, 0))
    rw [show (w.alloc (.cells (rulV ha hn hc va vs.length vc) 25)).heap.size = w.heap.size + 1 by simp] at this
    exact this
  obtain ⟨w2, hw2⟩ : ∃ w2, w2 = (w.alloc (.cells (rulV ha hn hc va vs.length vc) 25)).alloc (.cells (evtV t ver ma m.length mc) 34) := ⟨_, rfl⟩
  rw [← hw2] at hb2 hR2 hE2
  have HW := hide hw2
  have HB2 := hide hb2
  obtain ⟨B, hB⟩ : ∃ B, B = w.heap.size := ⟨_, rfl⟩
  rw [← hB] at hR2 hE2
  have HBe := hide hB
  have HR : Hid (∀ W, Below w2.heap.size w2 W → W.cell? ⟨B, 1, none⟩ = some (.slice va vs.length vc)) := hide (fun W hW => kept hW ((cell_of_row _ _ _ _ _ _ hR2).trans rfl))
  have HE : Hid (∀ W, Below w2.heap.size w2 W → W.cell? ⟨B + 1, 0, none⟩ = some (sv t) ∧ W.cell? ⟨B + 1, 2, none⟩ = some (.slice ma m.length mc)) := hide (fun W hW => ⟨kept hW ((cell_of_row _ _ _ _ _ _ hE2).trans rfl), kept hW ((cell_of_row _ _ _ _ _ _ hE2).trans rfl)⟩)
  have HCl := hide (Clone_fld la lc l w2 (hl.below hb2 (Nat.le_refl _)) (by omega))
  have HV := hide (hv.grown (fun _ _ _ _ _ => EvoAt.grown) hb2)
  have HEv : Hid (∀ (W : World) (x : Ex) (a : Option Addr) (c : Nat), Below w2.heap.size w2 W → ExAt W x a c → Calls Tryz.prog 13 #[.agg (exV x a c), sv st, .slice la l.length lc, .slice ma m.length mc] W fun e w' => CaughtF (evalE st l m x) e ∧ Below W.heap.size W w') := hide (fun W x a c hW hx =>
    have h0 := hb2.trans (hW.mono hb2.size)
    Eval_any st l m la lc ma mc x a c W hx (hl.1.below h0 (Nat.le_refl _)) (hm.below h0 (Nat.le_refl _)) hst hfs hfg (hva.below h0 (Nat.le_refl _)))
  obtain ⟨Lm, hLm1, hLm2, hLm3⟩ : ∃ Lm, l.length ≤ Lm ∧ 16 ≤ Lm ∧ (Lm + 1) * 48 ≤ 140737488355328 := ⟨max l.length 16, by omega, by omega, by omega⟩
  have HL16 := hide hLm1
  have HLm := hide (And.intro hLm2 hLm3)
  clear hLm1 hLm2 hLm3
  have HVL := hide hvl
  obtain ⟨NL, hNL⟩ : ∃ NL, NL = l.length := ⟨_, rfl⟩
  obtain ⟨NM, hNM⟩ : ∃ NM, NM = m.length := ⟨_, rfl⟩
  obtain ⟨NV, hNV⟩ : ∃ NV, NV = vs.length := ⟨_, rfl⟩
  rw [← hNL] at HEv HCl ⊢
  rw [← hNM] at HEv HE ⊢
  rw [← hNV] at HR HV hl1 ⊢
  rw [← hNM, ← hNV] at HW
  have HNV := hide hNV
  clear hb1 hb2 hR2 hE2 hw2 hB hv hl hl16 hm hst hfs hfg hva hvl hNL hNM hNV
  obtain ⟨X, hX⟩ : ∃ X, X = foldR vs st l t m := ⟨_, rfl⟩
  rw [← hX]
  go_enter Tryz.func10, Tryz.ntmps10
  go_upto_region 1 with fail
  rw [show (w.alloc (.cells #[Value.slice ha hn hc, .slice va NV vc] 25)).alloc (.cells #[Value.string ⟨t.toArray⟩, .int .i64 ver, .slice ma NM mc] 34) = w2 from (unhide HW).symm]
  rw [← unhide HBe]
  go_upto_region 2 with (go_at_call 27; refine (unhide HCl).mono ?_; rintro e w3 ⟨v3, rfl, o3, b3⟩; have HF3 := hide (FoSt.mk (Lm := Lm) b3 o3 (unhide HL16)); clear o3 b3)
  have r1 := unhide HR w3 (unhide HF3).bel
  obtain ⟨q0, q2⟩ := unhide HE w3 (unhide HF3).bel
  have HIx := hide (IndexEvo_any va NV vc vs t (B + 1) w3 ((unhide HV).grown (fun _ _ _ _ _ => EvoAt.grown) (unhide HF3).bel) (unhide HVL) q0)
  clear q0 q2
  rcases fIx_cases vs t with ⟨hf, hr⟩ | ⟨k, ⟨tp, sets, drops⟩, hf, hk, hr⟩
  · have hXl : X = l := hX.trans (hr st l m)
    have HXl := hide hXl
    clear hXl
    rw [hf] at HIx
    clear hf hr hX
    obtain ⟨ca, cc, rfl, -⟩ := (unhide HF3).own.fdn
    go_wp2_with (go_at_call 28; refine (unhide HIx).mono ?_; rintro e w4 ⟨rfl, b4⟩; have HF4 := hide ((unhide HF3).grown b4); clear b4)
    go_ret
    rw [unhide HXl]
    exact fo_end rfl (unhide HB2) (unhide HF4)
  · have HX := hide (hX.trans (hr st l m))
    simp only at HX
    have hkV : k < NV := by have := (List.getElem?_eq_some_iff.1 hk).1; have := unhide HNV; omega
    have hki : ¬ ((k : Int) < 0) := by omega
    obtain ⟨b, off, rfl, -, d0, ⟨sa, sc, d1, hs⟩, da, dc, d2, hd⟩ := (unhide HV).at hk
    simp only at d0 d1 d2 hs hd
    have HS := hide hs
    have HD := hide hd
    have hsl := hs.len.2
    have hdl := hd.len.2
    obtain ⟨M, hM⟩ : ∃ M, M = sets.length := ⟨_, rfl⟩
    obtain ⟨Q, hQ⟩ : ∃ Q, Q = drops.length := ⟨_, rfl⟩
    rw [← hM] at d1 hsl HS
    rw [← hQ] at d2 hdl HD
    have HM := hide hM
    have HQ := hide hQ
    have HD1 := hide d1
    have HD2 := hide d2
    rw [hf] at HIx
    clear hf hr hX hk hs hd hM hQ d0 d1 d2
    obtain ⟨ca, cc, rfl, -⟩ := (unhide HF3).own.fdn
    go_upto_region 3 with (go_at_call 28; refine (unhide HIx).mono ?_; rintro e w4 ⟨rfl, b4⟩; have HF4 := hide ((unhide HF3).grown b4); clear b4)
    clear r1
    have r1 := unhide HR w4 (unhide HF4).bel
    have d1 := kept (unhide HF4).bel (unhide HD1)
    go_wp2_with fail
    clear r1 d1
    go_loopw [9, 12, 13, 14, 15, 34] (fun v9 _ _ _ _ i wr => ∃ (j : Nat) (cur : List Fld), j ≤ M ∧ i = .int .i64 j ∧ Hid (cur = (sets.take j).foldl (setR st l m) l) ∧ Hid (FoSt Lm w2 wr v9 cur)) (fun _ _ _ _ _ i _ => M - (intOf i).toNat)
    case atStart => exact ⟨0, l, by omega, rfl, hide rfl, HF4⟩
    case round =>
      obtain ⟨j, cur, hj, rfl, HCu, HF⟩ := hrel
      clear HF4 HF3 HIx
      obtain ⟨ca1, cc1, rfl, -⟩ := (unhide HF).own.fdn
      by_cases hlt : j < M
      · obtain ⟨⟨nm, x⟩, hsj⟩ : ∃ a, sets[j]? = some a := ⟨_, List.getElem?_eq_getElem (by have := unhide HM; omega)⟩
        have HTk := hide (take_snocA hsj st l m l)
        rw [← unhide HCu] at HTk
        obtain ⟨sb, soff, rfl, -, e0, e1, e2, e3, xa, xc, e4, hx⟩ := ((unhide HS).grown (fun _ _ _ _ _ => AsAt.grown) (unhide HF).bel).at hsj
        simp only at e0 e1 e2 e3 e4 hx
        replace e2 : wr.cell? ⟨sb, soff + j * 5 + 2, none⟩ = _ := e2
        replace e3 : wr.cell? ⟨sb, soff + j * 5 + 3, none⟩ = _ := e3
        replace e4 : wr.cell? ⟨sb, soff + j * 5 + 4, none⟩ = _ := e4
        have HXA := hide hx
        clear hsj hx
        go_upto_region 8 with fail
        have hb6 : Below wr.heap.size wr (wr.alloc (.cells (asV nm x xa xc) 77)) := (Below.refl _ _).alloc (Nat.le_refl _) _
        have HX6 := hide (ABx.new wr nm x xa xc)
        have HF6 := hide ((unhide HF).grown hb6)
        have HA6 := hide ((unhide HXA).grown hb6)
        obtain ⟨w6, hw6⟩ : ∃ w6, w6 = wr.alloc (.cells (asV nm x xa xc) 77) := ⟨_, rfl⟩
        rw [show wr.alloc (.cells #[Value.string ⟨nm.toArray⟩, .int .i64 x.kind, .int .i64 x.n, .string ⟨x.s.toArray⟩, .slice xa x.args.length xc] 77) = w6 from hw6.symm]
        rw [← hw6] at HX6 HF6 HA6
        obtain ⟨p6, hp6⟩ : ∃ p6, p6 = wr.heap.size := ⟨_, rfl⟩
        rw [← hp6] at HX6 ⊢
        clear hb6 hw6 hp6 e0 e1 e2 e3 e4
        obtain ⟨z0, z1, z2, z3, z4⟩ := (unhide HX6).cells
        obtain ⟨-, q2⟩ := unhide HE w6 (unhide HF6).bel
        have HC := hide (unhide HEv w6 x xa xc (unhide HF6).bel (unhide HA6))
        cases hR : evalE st l m x with
        | error n =>
          have hn0 : ¬ n = 0 := evalE_err hR
          have hn1 : (n != 0) = true := by simp [hn0]
          have HNx := hide (show setR st l m cur ⟨nm, x⟩ = cur by unfold setR; simp only [hR])
          rw [hR] at HC
          clear hR hn0
          go_upto_region 9 with (go_at_call 13; refine (unhide HC).mono ?_; rintro e w7 ⟨rfl, b7⟩; have HF7 := hide ((unhide HF6).grown b7); clear b7)
          have hb8 : Below w7.heap.size w7 (w7.alloc (.cells (fv fld0) 48)) := (Below.refl _ _).alloc (Nat.le_refl _) _
          have HF8 := hide ((unhide HF7).grown hb8)
          clear hb8
          go_wp2_with fail
          go_roundw
          case rel => exact ⟨j + 1, cur, by omega, by go_num, hide ((unhide HTk).trans (unhide HNx)).symm, HF8⟩
          case measure => simp [intOf]; omega
        | ok f =>
          obtain ⟨fn, ft, fi, fz⟩ := f
          obtain ⟨K, hK⟩ : ∃ K, K = (setF cur ⟨nm, ft, fi, fz⟩).length := ⟨_, rfl⟩
          have HNx := hide (show setR st l m cur ⟨nm, x⟩ = if K ≤ 16 then setF cur ⟨nm, ft, fi, fz⟩ else cur by rw [hK]; unfold setR; simp only [hR])
          have HK := hide hK
          rw [hR] at HC
          clear hR hK
          go_upto_region 9 with (go_at_call 13; refine (unhide HC).mono ?_; rintro e w7 ⟨⟨rfl, -⟩, b7⟩; have HF7 := hide ((unhide HF6).grown b7); have HX7 := hide ((unhide HX6).below b7 (Nat.le_refl _)); clear b7)
          have hb8 : Below w7.heap.size w7 (w7.alloc (.cells (fv ⟨fn, ft, fi, fz⟩) 48)) := (Below.refl _ _).alloc (Nat.le_refl _) _
          have hf8 := FBox.new w7 ⟨fn, ft, fi, fz⟩
          have hx8 := (unhide HX7).below hb8 (Nat.le_refl _)
          obtain ⟨y0, -, -, -, -⟩ := hx8.cells
          obtain ⟨p8, hp8⟩ : ∃ p8, p8 = w7.heap.size := ⟨_, rfl⟩
          obtain ⟨w8, hw8⟩ : ∃ w8, w8 = w7.alloc (.cells (fv ⟨fn, ft, fi, fz⟩) 48) := ⟨_, rfl⟩
          rw [show w7.alloc (.cells #[Value.string ⟨fn.toArray⟩, .bool ft, .int .i64 fi, .string ⟨fz.toArray⟩] 48) = w8 from hw8.symm]
          rw [← hw8] at hb8 hf8 y0
          rw [← hp8] at hf8 ⊢
          obtain ⟨f0, f1, f2, f3, ff⟩ := hf8.cells
          have hf9 := hf8.put0 nm
          have hb9 : Below w7.heap.size w7 (w8.setCell ⟨p8, 0, none⟩ (sv nm)) := hb8.setCell (show w7.heap.size ≤ p8 by omega) _
          obtain ⟨w9, hw9⟩ : ∃ w9, w9 = w8.setCell ⟨p8, 0, none⟩ (sv nm) := ⟨_, rfl⟩
          rw [← hw9] at hf9 hb9
          have HF9 := hide ((unhide HF7).grown hb9)
          have HW9 := hide hw9
          have HY9 := hide hf9
          clear hb8 hf8 hx8 hw8 hp8 hb9 hf9 hw9
          go_upto_region 11 with fail
          rw [show w8.setCell ⟨p8, 0, none⟩ (.string ⟨nm.toArray⟩) = w9 from (unhide HW9).symm]
          clear f0 f1 f2 f3 ff y0
          obtain ⟨f0, f1, f2, f3, ff⟩ := (unhide HY9).cells
          simp only at f0 f1 f2 f3
          obtain ⟨ca2, cc2, hcv, hfn⟩ := (unhide HF9).own.fdn
          cases hcv
          have HSt := hide (Set_any ca1 cc1 cur ⟨nm, ft, fi, fz⟩ w9 hfn (by have := (unhide HF9).len; have := unhide HLm; omega))
          clear hfn
          by_cases h16 : K ≤ 16
          · have HNy := hide ((unhide HTk).trans ((unhide HNx).trans (if_pos h16))).symm
            have h16' : ((K : Int) ≤ 16) := by omega
            go_upto_region 12 with (go_at_call 30; refine (unhide HSt).mono ?_; rintro e w10 ⟨v10, rfl, o10, b10⟩; have HF10 := hide ((unhide HF9).put b10 o10 (by rw [← unhide HK]; have := unhide HLm; omega)); obtain ⟨ca3, cc3, rfl, -⟩ := o10.fdn; rw [← unhide HK]; clear b10 o10)
            clear h16
            rw [← unhide HK] at HF10
            go_wp2_with fail
            go_roundw
            case rel => exact ⟨j + 1, _, by omega, by go_num, HNy, HF10⟩
            case measure => simp [intOf]; omega
          · have HNy := hide ((unhide HTk).trans ((unhide HNx).trans (if_neg h16))).symm
            have h16' : decide ((K : Int) ≤ 16) = false := by simp; omega
            go_upto_region 12 with (go_at_call 30; refine (unhide HSt).mono ?_; rintro e w10 ⟨v10, rfl, o10, b10⟩; have HF10 := hide ((unhide HF9).grown b10); obtain ⟨ca3, cc3, rfl, -⟩ := o10.fdn; rw [← unhide HK]; clear b10 o10)
            clear h16
            go_wp2_with fail
            go_roundw
            case rel => exact ⟨j + 1, cur, by omega, by go_num, HNy, HF10⟩
            case measure => simp [intOf]; omega
      · have HCm : Hid (cur = sets.foldl (setR st l m) l) := hide (by rw [unhide HCu, List.take_of_length_le (by have := unhide HM; omega)])
        have r1 := unhide HR wr (unhide HF).bel
        have d2 := kept (unhide HF).bel (unhide HD2)
        go_wp2_with fail
        clear r1 d2
        rename World => W0
        go_loopw [9, 17, 68] (fun v9 _ i wq => ∃ (i2 : Nat) (cur2 : List Fld), i2 ≤ Q ∧ i = .int .i64 i2 ∧ Hid (cur2 = (drops.take i2).foldl dropF cur) ∧ Hid (FoSt Lm w2 wq v9 cur2)) (fun _ _ i _ => Q - (intOf i).toNat)
        case atStart => exact ⟨0, cur, by omega, rfl, hide rfl, HF⟩
        case round =>
          obtain ⟨i2, cur2, hi2, rfl, HC2, HG⟩ := hrel
          obtain ⟨ca2, cc2, rfl, hfn⟩ := (unhide HG).own.fdn
          by_cases hlt2 : i2 < Q
          · obtain ⟨nm, hdi⟩ : ∃ a, drops[i2]? = some a := ⟨_, List.getElem?_eq_getElem (by have := unhide HQ; omega)⟩
            have HTk := hide (take_snocD hdi cur)
            rw [← unhide HC2] at HTk
            obtain ⟨sb, soff, rfl, -, e0⟩ := ((unhide HD).grown (fun _ _ _ _ _ => StAt.grown) (unhide HG).bel).at hdi
            unfold StAt at e0
            rw [Nat.mul_one] at e0
            have HSt := hide (Drop_any ca2 cc2 cur2 nm wr hfn (by have := (unhide HG).len; have := unhide HLm; omega))
            clear hdi hfn
            go_wp2_with (go_at_call 31; refine (unhide HSt).mono ?_; rintro e w10 ⟨v10, rfl, o10, b10⟩; have HF10 := hide ((unhide HG).put b10 o10 (by have := dropF_le cur2 nm; have := (unhide HG).len; have := unhide HLm; omega)); obtain ⟨ca3, cc3, rfl, -⟩ := o10.fdn; clear b10 o10)
            go_roundw
            case rel => exact ⟨i2 + 1, _, by omega, by go_num, hide (unhide HTk).symm, HF10⟩
            case measure => simp [intOf]; omega
          · have HXe : Hid (X = cur2) := hide (by rw [unhide HX, unhide HC2, List.take_of_length_le (by have := unhide HQ; omega), unhide HCm])
            go_wp2_with fail
            go_ret
            rw [unhide HXe]
            exact fo_end rfl (unhide HB2) (unhide HG)
end Go.Proofs.YtingpmgpjmlioaaGreatDoor
