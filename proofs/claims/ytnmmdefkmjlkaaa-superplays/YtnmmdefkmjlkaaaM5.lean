/-
  DERIVED. A device and the document's record beside each other, in plain words.
-/
import Derived.Test.YtnmmdefkmjlkaaaM4
import Derived.Deep.QuietTactic
import Derived.BigQuiet
import Derived.Test.YtnmmdefkmjlkaaaRows
import Derived.Deep.Slices
import Derived.Deep.Lists
import Derived.Lib.SlBytesConst
namespace Go.Proofs.Ytnmmdefkmjlkaaa
open Go.RowKit
set_option linter.unusedVariables false

/-- A record of the device is one that the document's record allows. -/
def Fine (r : Slot) (R : Rc) : Prop := r.laid = true ∧ ((r.data = R.data ∧ r.count = R.count) ∨ (R.other = true ∧ r.data = R.next ∧ r.count = R.count + 1))
structure FitR (S : St) (k : Nat) (R : Rc) : Prop where
  len : S.safe.length = 64
  laid : R.laid = true
  low : 0 ≤ R.count
  up : S.down = false → S.calm k ∧ Fine (S.rcd k) R
  crash : ∀ ps, Fine ((S.crash ps).rcd k) R
theorem crashTo_same {S T : St} (h1 : T.safe = S.safe) (h2 : T.pend = S.pend) (ps : List Int) : ∀ i, T.crashTo ps i = S.crashTo ps i
  | 0 => h1
  | i + 1 => by
    have hk : T.keys = S.keys := by unfold St.keys; rw [h1, h2]
    rw [St.crashTo, St.crashTo, crashTo_same h1 h2 ps i, hk]
    unfold St.keptB
    simp only [h2]
theorem crash_same {S T : St} (h1 : T.safe = S.safe) (h2 : T.pend = S.pend) (ps : List Int) (n : Nat) : (T.crash ps).newest n = (S.crash ps).newest n := by
  have hk : T.keys = S.keys := by unfold St.keys; rw [h1, h2]
  have e : (T.crash ps).safe = (S.crash ps).safe := by show T.crashTo ps T.keys.length = S.crashTo ps S.keys.length; rw [hk, crashTo_same h1 h2]
  unfold St.newest
  rw [e]
  rfl
theorem crash_rcd_same {S T : St} (h1 : T.safe = S.safe) (h2 : T.pend = S.pend) (ps : List Int) (k : Nat) : (T.crash ps).rcd k = (S.crash ps).rcd k := St.rcd_of (crash_same h1 h2 ps k) (crash_same h1 h2 ps (k + 1))
theorem newest_same {S T : St} (h1 : T.safe = S.safe) (h2 : T.pend = S.pend) (n : Nat) : T.newest n = S.newest n := by unfold St.newest; rw [h1, h2]
/-- A device whose blocks are the same, and that went down, or did not. -/
theorem FitR.same {S T : St} {k : Nat} {R : Rc} (h : FitR S k R) (h1 : T.safe = S.safe) (h2 : T.pend = S.pend) (hd : T.down = false → S.down = false) : FitR T k R :=
  ⟨by rw [h1]; exact h.len, h.laid, h.low, fun hu => by
    obtain ⟨c, f⟩ := h.up (hd hu)
    exact ⟨⟨by rw [h2]; exact c.1, by rw [h2]; exact c.2⟩, by rw [St.rcd_of (newest_same h1 h2 k) (newest_same h1 h2 (k + 1))]; exact f⟩, fun ps => by rw [crash_rcd_same h1 h2]; exact h.crash ps⟩
theorem FitR.halted {S : St} {k : Nat} {R : Rc} (h : FitR S k R) (hr : ¬ S.reads) : FitR S.halted k R :=
  h.same S.halted_safe S.halted_pend fun hd => by rw [St.halted_down hr] at hd; cases hd
theorem FitR.fuse {S : St} {k : Nat} {R : Rc} (h : FitR S k R) (j : Int) : FitR (S.fuseK j) k R :=
  h.same (by unfold St.fuseK; split <;> rfl) (S.fuseK_pend j) fun hd => by rw [St.fuseK_down] at hd; exact hd
theorem FitR.crashed {S : St} {k : Nat} {R : Rc} (h : FitR S k R) (hk : k + 1 < 64) (ps : List Int) : FitR (S.crash ps) k R := by
  have hc : (S.crash ps).calm k := ⟨rfl, rfl⟩
  have hl : (S.crash ps).safe.length = 64 := by rw [crash_len]; exact h.len
  refine ⟨hl, h.laid, h.low, fun _ => ⟨hc, h.crash ps⟩, fun qs => ?_⟩
  rw [crash_rcd hc (by rw [hl]; exact hk)]
  exact h.crash ps
/-- Where a record was told, and the device is up. -/
theorem FitR.told {S : St} {k : Nat} {R R' : Rc} (h : FitR S k R) (hk : k + 1 < 64) (hd : S.down = false) (hl : R'.laid = true) (h0 : 0 ≤ R'.count) (h1 : (S.rcd k).data = R'.data) (h2 : (S.rcd k).count = R'.count) : FitR S k R' := by
  obtain ⟨c, f⟩ := h.up hd
  have hf : Fine (S.rcd k) R' := ⟨f.1, .inl ⟨h1, h2⟩⟩
  exact ⟨h.len, hl, h0, fun _ => ⟨c, hf⟩, fun ps => by rw [crash_rcd c (by rw [h.len]; exact hk)]; exact hf⟩
/-- A store that went well. -/
theorem FitR.stored {S T : St} {k : Nat} {R : Rc} {d : List UInt8} (h : FitR S k R) (hk : k + 1 < 64) (hp : Put S T k (R.count + 1) d) (R' : Rc) (hR : R' = { R with data := d, count := R.count + 1 }) : FitR T k R' := by
  subst hR
  have hc : T.calm k := ⟨hp.pend _, hp.pend _⟩
  have hl : T.safe.length = 64 := hp.len.trans h.len
  have hf : Fine (T.rcd k) { R with data := d, count := R.count + 1 } := by rw [hp.rec_]; exact ⟨rfl, .inl ⟨rfl, rfl⟩⟩
  exact ⟨hl, h.laid, by have := h.low; show 0 ≤ R.count + 1; omega, fun _ => ⟨hc, hf⟩, fun ps => by rw [crash_rcd hc (by rw [hl]; exact hk)]; exact hf⟩
/-- A store in which the device went down. -/
theorem FitR.under {S T : St} {k : Nat} {R : Rc} {d : List UInt8} (h : FitR S k R) (hd : S.down = false) (ho : R.other = false) (hT : T.down = true) (hl : T.safe.length = 64) (hc : ∀ ps, (T.crash ps).rcd k = S.rcd k ∨ (T.crash ps).rcd k = ⟨true, ((S.rcd k).turn + 1) % 4294967296, (S.rcd k).count + 1, d⟩) (R' : Rc) (hR : R' = { R with next := d, other := true }) : FitR T k R' := by
  subst hR
  obtain ⟨c, f1, f2⟩ := h.up hd
  have hm : (S.rcd k).data = R.data ∧ (S.rcd k).count = R.count := by
    rcases f2 with f2 | f2
    · exact f2
    · rw [ho] at f2; exact absurd f2.1 (by decide)
  refine ⟨hl, h.laid, h.low, (fun hu => by rw [hT] at hu; cases hu), fun ps => ?_⟩
  rcases hc ps with e | e
  · rw [e]; exact ⟨f1, .inl hm⟩
  · rw [e]; exact ⟨rfl, .inr ⟨rfl, rfl, by show (S.rcd k).count + 1 = R.count + 1; rw [hm.2]⟩⟩

/-- The device and the document's record in memory, at a point of the law. -/
structure Sp (w0 w : World) (b q N : Nat) (F : Nat → Prop) (S : St) (R : Rc) : Prop where
  run : Run w0 w b N F S
  rc : RcAt w q R
  nq : ¬ F q
  new : w0.heap.size ≤ q
theorem Sp.kept {w0 w w' : World} {b q N M : Nat} {F F' : Nat → Prop} {S T : St} {R : Rc} (h : Sp w0 w b q N F S R) (hr : Run w0 w' b M F' T) (hk : Kept F w w') (hF : ∀ j, F' j → F j ∨ w.heap.size ≤ j) : Sp w0 w' b q M F' T R :=
  ⟨hr, (hk.block q h.rc.lt h.nq).trans h.rc, fun hf => by rcases hF q hf with h1 | h1; exact h.nq h1; have := h.rc.lt; omega, h.new⟩
theorem Sp.grown {w0 w w' : World} {b q N : Nat} {F : Nat → Prop} {S : St} {R : Rc} (h : Sp w0 w b q N F S R) (hb : Below w.heap.size w w') : Sp w0 w' b q N F S R :=
  h.kept (h.run.grown hb) (Kept.of_below hb) fun j hj => .inl hj
/-- The record turned alone. -/
theorem Sp.rec_ {w0 w w' : World} {b q N : Nat} {F : Nat → Prop} {S : St} {R R' : Rc} (h : Sp w0 w b q N F S R) (hk : Kept (fun j => j = q) w w') (hr : RcAt w' q R') : Sp w0 w' b q N F S R' :=
  ⟨⟨h.run.dev.frame fun j hj hl => hk.block j hl (fun e => h.nq (e ▸ hj)), fun j hj => by have := h.run.foot j hj; have := hk.size; omega, h.run.bel.trans (hk.below h.run.bel.size fun j hj => by rw [hj]; exact h.new)⟩, hr, h.nq, h.new⟩
/-- A block of the law's own, made since, turned. -/
theorem Sp.other {w0 w w' : World} {b q N g : Nat} {F : Nat → Prop} {S : St} {R : Rc} (h : Sp w0 w b q N F S R) (hk : Kept (fun j => j = g) w w') (hg : g ≠ q) (hf : ¬ F g) (hn : w0.heap.size ≤ g) : Sp w0 w' b q N F S R :=
  ⟨⟨h.run.dev.frame fun j hj hl => hk.block j hl (fun e => hf (e ▸ hj)), fun j hj => by have := h.run.foot j hj; have := hk.size; omega, h.run.bel.trans (hk.below h.run.bel.size fun j hj => by rw [hj]; exact hn)⟩, (hk.block q h.rc.lt (fun e => hg e.symm)).trans h.rc, h.nq, h.new⟩
theorem LoadM_run {w0 w : World} {b N : Nat} {F : Nat → Prop} {S : St} (h : Run w0 w b N F S) (hl : S.safe.length = 64) (k : Nat) (hk : k + 1 < 64) (hN : N < 800000) (hr : S.reads) (hla : (S.rcd k).laid = true) :
    Calls Try.prog 7 #[.pointer (some ⟨b, 0, none⟩), .int .i64 k] w fun e w' => ∃ a n c, e = .returned (.tuple #[.slice a n c, .int .i64 (S.rcd k).count, .int .i64 0]) ∧ SlM w' (.slice a n c) (S.rcd k).data ∧ (∀ ad, a = some ad → w.heap.size ≤ ad.block) ∧ Run w0 w' b (N + 2) F S.burn.burn ∧ Kept F w w' := by
  refine (LoadM_laid h.dev (fun j hj => (h.foot j hj).2) k (by rw [hl]; exact hk) hN hr hla).mono ?_
  rintro e w' ⟨a, n, c, rfl, h1, h2, h3, h4⟩
  exact ⟨a, n, c, rfl, h1, h2, h.of h3 (fun j hj => by have := h.foot j hj; have := h4.size; omega) h4, h4⟩
theorem Load_stop_run {w0 w : World} {b N : Nat} {F : Nat → Prop} {S : St} (h : Run w0 w b N F S) (hl : S.safe.length = 64) (k : Nat) (hk : k + 1 < 64) (hN : N < 800000) (hr : ¬ S.reads) :
    Calls Try.prog 7 #[.pointer (some ⟨b, 0, none⟩), .int .i64 k] w fun e w' => e = .returned (.tuple #[.slice none 0 0, .int .i64 0, .int .i64 2]) ∧ Run w0 w' b (N + 2) F S.halted ∧ Kept F w w' := by
  refine (Load_stops h.dev (fun j hj => (h.foot j hj).2) k (by rw [hl]; exact hk) hN hr).mono ?_
  rintro e w' ⟨rfl, h3, h4⟩
  exact ⟨rfl, h.of h3 (fun j hj => by have := h.foot j hj; have := h4.size; omega) h4, h4⟩
theorem Format_refused {w0 w : World} {b N : Nat} {F : Nat → Prop} {S : St} (h : Run w0 w b N F S) (at_ : Int) (x : Option Addr) (l q : Nat) (e : Int) (hE : chkE S.safe.length at_ l = e) (he : e ≠ 0) :
    Calls Try.prog 6 #[.pointer (some ⟨b, 0, none⟩), .int .i64 at_, .slice x l q] w fun r w' => r = .returned (.int .i64 e) ∧ Run w0 w' b N F S := by
  obtain ⟨g, c, m, vf, D, h0⟩ := h.dev
  refine (Format_bad at_ x l q h0.dev h0.n2 (by rw [hE]; exact he)).mono ?_
  rintro r w' ⟨rfl, hb⟩
  exact ⟨by rw [hE], h.grown (hb _)⟩
theorem Store_refused {w0 w : World} {b N : Nat} {F : Nat → Prop} {S : St} (h : Run w0 w b N F S) (at_ : Int) (x : Option Addr) (l q : Nat) (e : Int) (hE : chkE S.safe.length at_ l = e) (he : e ≠ 0) :
    Calls Try.prog 12 #[.pointer (some ⟨b, 0, none⟩), .int .i64 at_, .slice x l q] w fun r w' => r = .returned (.int .i64 e) ∧ Run w0 w' b N F S ∧ Below w.heap.size w w' := by
  obtain ⟨g, c, m, vf, D, h0⟩ := h.dev
  refine (Store_bad at_ x l q h0.dev h0.n2 (by rw [hE]; exact he)).mono ?_
  rintro r w' ⟨rfl, hb⟩
  exact ⟨by rw [hE], h.grown (hb _), hb _⟩
end Go.Proofs.Ytnmmdefkmjlkaaa

/-
  DERIVED. The law's own load: it tells what the document's record allows, wherever the device stops.
-/
namespace Go.Proofs.Ytnmmdefkmjlkaaa
open Go.RowKit
set_option linter.unusedVariables false

/-- Bytes of the law's own that may be written to. -/
def Wrt (w : World) (g off n : Nat) : Prop := ∃ cs t, w.heap[g]? = some (.cells cs t (0, 0)) ∧ off + n ≤ cs.size
theorem Wrt.cell {w : World} {g off n : Nat} (h : Wrt w g off n) (i : Nat) (hi : i < n) : (∃ v, w.cell? ⟨g, off + i, none⟩ = some v) ∧ w.frozen? ⟨g, off + i, none⟩ = false := by
  obtain ⟨cs, t, h1, h2⟩ := h
  exact ⟨⟨cs[off + i], (cell_of_row _ _ _ _ _ _ h1).trans (Array.getElem?_eq_getElem (by omega))⟩, by simp [World.frozen?, h1]⟩
theorem Wrt.set {w : World} {g off n : Nat} (h : Wrt w g off n) (i : Nat) (v : Value) : Wrt (w.setCell ⟨g, i, none⟩ v) g off n := by
  obtain ⟨cs, t, h1, h2⟩ := h
  exact ⟨_, t, heap_setCell_same w g i _ _ _ h1, by rw [Array.size_setIfInBounds]; exact h2⟩
theorem Wrt.same {w w' : World} {g off n : Nat} (h : Wrt w g off n) (e : w'.heap[g]? = w.heap[g]?) : Wrt w' g off n := by
  obtain ⟨cs, t, h1, h2⟩ := h
  exact ⟨cs, t, e.trans h1, h2⟩
theorem SlM.wrt {w : World} {a : Option Addr} {n c : Nat} {l : List UInt8} (h : SlM w (.slice a n c) l) (hl : l ≠ []) : ∃ g off, a = some ⟨g, off, none⟩ ∧ n = l.length ∧ Wrt w g off n := by
  obtain ⟨⟨ao, cap, e, h1, h2, h4⟩, h5⟩ := h
  injection e with e1 e2 e3
  subst e1
  have hp := List.length_pos_iff.2 hl
  obtain ⟨g, off, rfl, hg, hc⟩ := h4 (by omega)
  obtain ⟨cs, t, hb⟩ := h5 g rfl
  refine ⟨g, off, rfl, e2, cs, t, hb, ?_⟩
  have := hc (l.length - 1) (by omega)
  rw [cell_of_row _ _ _ _ _ _ hb] at this
  have := (Array.getElem?_eq_some_iff.1 this).1
  omega
/-- What was there stays, the device and the record aside. -/
def KpQ (F : Nat → Prop) (q : Nat) (w w' : World) : Prop := ∀ j, j < w.heap.size → ¬ F j → j ≠ q → w'.heap[j]? = w.heap[j]?
def LoadPost (w0 w : World) (b q N k : Nat) (F : Nat → Prop) (R : Rc) (e : Ending) (w' : World) : Prop := e = .returned (.bool true) ∧ KpQ F q w w' ∧ ∃ T R', Sp w0 w' b q (N + 2) F T R' ∧ FitR T k R' ∧ (T.down = false → R'.other = false) ∧ R'.count ≤ R.count + 1
set_option maxRecDepth 20000 in
set_option maxHeartbeats 4000000 in
theorem spLoad {w0 w : World} {b q N k : Nat} {F : Nat → Prop} {S : St} {R : Rc} (h : Sp w0 w b q N F S R) (hf : FitR S k R) (hk : k + 1 < 64) (hN : N < 700000) (hc : R.count < 900000) :
    Calls Try.prog 8 #[.pointer (some ⟨b, 0, none⟩), .int .i64 (k : Int), .pointer (some ⟨q, 0, none⟩)] w (LoadPost w0 w b q N k F R) := by
  have H := hide h
  have HF := hide hf
  clear h hf
  by_cases hr : S.reads
  · have hd := hr.1
    obtain ⟨hcalm, hla, hm⟩ := (unhide HF).up hd
    have hX : S.burn.burn.down = false := by rw [St.well_up hr.2.2, St.well_up hr.2.1]; exact hd
    have LD := hide (LoadM_run (unhide H).run (unhide HF).len k hk (by omega) hr hla)
    have hrc : S.burn.burn.rcd k = S.rcd k := rfl
    have HF2 : Hid (FitR S.burn.burn k R) := hide ((unhide HF).same rfl rfl fun _ => hd)
    have DN := hide (fun (w1 : World) (h1 : Run w0 w1 b (N + 2) F S.burn.burn) => Down_run h1)
    have D0 := hide (Down_run (unhide H).run)
    rw [hd] at D0
    rw [hX] at DN
    have hlow := (unhide HF).low
    have hlaid := (unhide HF).laid
    obtain ⟨rd, hrd⟩ : ∃ rd, rd = (S.rcd k).data := ⟨_, rfl⟩
    obtain ⟨rc, hrcn⟩ : ∃ rc, rc = (S.rcd k).count := ⟨_, rfl⟩
    rw [← hrd, ← hrcn] at LD
    rw [← hrd, ← hrcn] at hm
    have HQ := hide (And.intro hrd hrcn)
    -- what Told makes of the record
    obtain ⟨R', hR'⟩ : ∃ R' : Rc, (R' = { R with other := false } ∧ rd = R.data ∧ rc = R.count) ∨ (R' = { R with other := false, data := R.next, count := R.count + 1 } ∧ R.other = true ∧ rd = R.next ∧ rc = R.count + 1) := by
      rcases hm with hm | hm
      · exact ⟨_, .inl ⟨rfl, hm⟩⟩
      · exact ⟨_, .inr ⟨rfl, hm⟩⟩
    have TD : Hid (∀ (w1 : World) (a : Option Addr) (n c : Nat), RcAt w1 q R → Sl w1 (.slice a n c) rd → Calls Try.prog 18 #[.pointer (some ⟨q, 0, none⟩), .slice a n c, .int .i64 rc] w1 fun e w' => e = .returned (.bool true) ∧ RcAt w' q R' ∧ Kept (fun j => j = q) w1 w') := hide (fun w1 a n c h1 h2 => by
      rcases hR' with ⟨rfl, rfl, rfl⟩ | ⟨rfl, ho, rfl, rfl⟩
      · exact Told_same h1 a n c h2 hlow (by omega)
      · exact Told_next h1 a n c ho h2 hlow (by omega))
    have FT : Hid (FitR S.burn.burn k R' ∧ R'.other = false ∧ R'.count ≤ R.count + 1) := hide (by
      rcases hR' with ⟨e1, e2, e3⟩ | ⟨e1, ho, e2, e3⟩
      · subst e1
        exact ⟨(unhide HF2).told hk hX hlaid hlow (by rw [hrc, ← (unhide HQ).1]; exact e2) (by rw [hrc, ← (unhide HQ).2]; exact e3), rfl, by show R.count ≤ _; omega⟩
      · subst e1
        exact ⟨(unhide HF2).told hk hX hlaid (by show 0 ≤ R.count + 1; omega) (by rw [hrc, ← (unhide HQ).1]; exact e2) (by rw [hrc, ← (unhide HQ).2]; exact e3), rfl, by show R.count + 1 ≤ _; omega⟩)
    clear hm hR' hrd hrcn hcalm hla hX HF2 HQ hrc hr hlow hlaid
    go_enter Try.func8, Try.ntmps8
    go_wp2_with fail
    refine (unhide D0).mono ?_
    rintro e w1 ⟨rfl, rfl⟩
    go_wp2_with fail
    refine (unhide LD).mono ?_
    rintro e w2 ⟨a, n, c, rfl, sl2, new2, run2, kp2⟩
    have S2 := hide ((unhide H).kept run2 kp2 fun j hj => .inl hj)
    have HSL := hide sl2
    have HNW := hide new2
    have zw2 := kp2.size
    have KP2 : Hid (KpQ F q w w2) := hide (fun j hj hf _ => kp2.block j hj hf)
    have hq2 := (unhide H).rc.lt
    clear sl2 new2 run2 kp2 LD D0 HF
    go_wp2_with fail
    refine (unhide DN w2 (unhide S2).run).mono ?_
    rintro e w3 ⟨rfl, rfl⟩
    go_wp2_with fail
    refine (unhide TD w2 a n c (unhide S2).rc (unhide HSL).1).mono ?_
    rintro e w3 ⟨rfl, rc3, kp3⟩
    have S3 := hide ((unhide S2).rec_ kp3 rc3)
    have KP3 : Hid (KpQ F q w w3) := hide (fun j hj hf hq => (kp3.block j (by omega) hq).trans (unhide KP2 j hj hf hq))
    by_cases hnil : rd = []
    · have hn0 : n = 0 := by
        obtain ⟨⟨ao, cap, e, _⟩, _⟩ := unhide HSL
        injection e with _ e2 _
        rw [e2, hnil]; rfl
      subst hn0
      clear rc3 kp3 HSL
      go_wp2_with fail
      go_loopw [12] (fun i wr => i = .int .i64 0 ∧ wr = w3) (fun _ _ => 0)
      case atStart => exact ⟨rfl, rfl⟩
      case round =>
        obtain ⟨rfl, rfl⟩ := hrel
        go_wp2
        go_ret
        exact ⟨rfl, unhide KP3, S.burn.burn, R', unhide S3, (unhide FT).1, fun _ => (unhide FT).2.1, (unhide FT).2.2⟩
    · obtain ⟨g, off, ha, hnl, wr2⟩ := (unhide HSL).wrt hnil
      have hgn : w.heap.size ≤ g := unhide HNW _ ha
      have hgq : g ≠ q := by omega
      have hgF : ¬ F g := fun hf => by have := (unhide H).run.foot g hf; omega
      have hg0 : w0.heap.size ≤ g := by have := (unhide H).new; omega
      have W3 := hide (wr2.same (kp3.block g (by obtain ⟨cs, t, e, _⟩ := wr2; exact lt_of_block e) hgq))
      have hcap : n ≤ c ∧ c ≤ 9223372036854775807 := by
        obtain ⟨⟨ao, cap, e, h1, h2, _⟩, _⟩ := unhide HSL
        injection e with _ e2 e3
        unfold maxLen at h2
        omega
      obtain ⟨hnc, hcc⟩ := hcap
      have HG := hide (And.intro hgq (And.intro hgF hg0))
      subst ha
      clear rc3 kp3 wr2 hgq hgF hg0 hnl HSL hnil
      go_wp2_with fail
      go_loopw [12] (fun i wr => ∃ j : Nat, i = .int .i64 (j : Int) ∧ j ≤ n ∧ Hid (Sp w0 wr b q (N + 2) F S.burn.burn R') ∧ Hid (Wrt wr g off n) ∧ Hid (KpQ F q w wr)) (fun i _ => n - (intOf i).toNat)
      case atStart => exact ⟨0, rfl, Nat.zero_le _, S3, W3, KP3⟩
      case round =>
        obtain ⟨j, rfl, hj, SJ, WJ, KJ⟩ := hrel
        by_cases hlt : j < n
        · have hltI : (j : Int) < (n : Int) := by omega
          obtain ⟨⟨v, cv⟩, cf⟩ := (unhide WJ).cell j hlt
          have SJ2 := hide ((unhide SJ).other (kept_set wr g (off + j) (.int .u8 9)) (unhide HG).1 (unhide HG).2.1 (unhide HG).2.2)
          have WJ2 := hide ((unhide WJ).set (off + j) (.int .u8 9))
          have KJ2 : Hid (KpQ F q w (wr.setCell ⟨g, off + j, none⟩ (.int .u8 9))) := hide (fun i hi hf hq => (heap_setCell_other _ _ _ _ (show i ≠ g by omega)).trans (unhide KJ i hi hf hq))
          clear SJ WJ KJ
          go_wp2
          go_roundw
          case rel => exact ⟨j + 1, by go_num, by omega, SJ2, WJ2, KJ2⟩
          case measure => simp [intOf]; omega
        · have hltI : ¬ (j : Int) < (n : Int) := by omega
          go_wp2
          go_ret
          exact ⟨rfl, unhide KJ, S.burn.burn, R', unhide SJ, (unhide FT).1, fun _ => (unhide FT).2.1, (unhide FT).2.2⟩
  · have LD := hide (Load_stop_run (unhide H).run (unhide HF).len k hk (by omega) hr)
    have FT := hide ((unhide HF).halted hr)
    have hdn := St.halted_down hr
    have DN := hide (fun (w1 : World) (h1 : Run w0 w1 b (N + 2) F S.halted) => Down_run h1)
    rw [hdn] at DN
    have D0 := hide (Down_run (unhide H).run)
    have HDN := hide hdn
    clear HF hr hdn
    cases hd : S.down with
    | true =>
      rw [hd] at D0
      clear hd
      go_enter Try.func8, Try.ntmps8
      go_wp2_with fail
      refine (unhide D0).mono ?_
      rintro e w1 ⟨rfl, rfl⟩
      go_wp2_with fail
      refine (unhide LD).mono ?_
      rintro e w2 ⟨rfl, run2, kp2⟩
      have S2 := hide ((unhide H).kept run2 kp2 fun j hj => .inl hj)
      have KP2 : Hid (KpQ F q w w2) := hide (fun j hj hf _ => kp2.block j hj hf)
      clear run2 kp2
      go_wp2
      go_ret
      exact ⟨rfl, unhide KP2, _, _, unhide S2, unhide FT, (fun h => by rw [unhide HDN] at h; cases h), by omega⟩
    | false =>
      rw [hd] at D0
      clear hd
      go_enter Try.func8, Try.ntmps8
      go_wp2_with fail
      refine (unhide D0).mono ?_
      rintro e w1 ⟨rfl, rfl⟩
      go_wp2_with fail
      refine (unhide LD).mono ?_
      rintro e w2 ⟨rfl, run2, kp2⟩
      have S2 := hide ((unhide H).kept run2 kp2 fun j hj => .inl hj)
      have KP2 : Hid (KpQ F q w w2) := hide (fun j hj hf _ => kp2.block j hj hf)
      clear run2 kp2
      go_wp2_with fail
      refine (unhide DN w2 (unhide S2).run).mono ?_
      rintro e w3 ⟨rfl, rfl⟩
      go_wp2
      go_ret
      exact ⟨rfl, unhide KP2, _, _, unhide S2, unhide FT, (fun h => by rw [unhide HDN] at h; cases h), by omega⟩
end Go.Proofs.Ytnmmdefkmjlkaaa

/-
  DERIVED. The law's own store: it does what the document's record does, wherever the device stops.
-/
namespace Go.Proofs.Ytnmmdefkmjlkaaa
open Go.RowKit
set_option linter.unusedVariables false

set_option maxRecDepth 20000 in
set_option maxHeartbeats 2000000 in
theorem Store_stops {w : World} {b : Nat} {F : Nat → Prop} {N : Nat} {S : St} (h : Dev w b F N S) (hF : ∀ k, F k → k < w.heap.size) (k : Nat) (hk : k + 1 < S.safe.length) (hN : N < 800000) (hr : ¬ S.reads) (a : Option Addr) (n c : Nat) (hl : n ≤ 400) :
    Calls Try.prog 12 #[.pointer (some ⟨b, 0, none⟩), .int .i64 k, .slice a n c] w fun e w' => e = .returned (.int .i64 2) ∧ Dev w' b F (N + 2) S.halted ∧ Kept F w w' := by
  have hs : S.safe.length ≤ 512 := by obtain ⟨g, c', m, vf, D, h0⟩ := h; exact h0.n2
  have HD := hide h
  clear h
  go_enter Try.func12, Try.ntmps12
  go_wp2_with fail
  refine (check_ok (unhide HD) k hk a n c hl).mono ?_
  rintro e w1 ⟨rfl, b1⟩
  have HB1 := hide b1
  have z1 := b1.size
  have HD1 := hide ((unhide HD).grown b1)
  clear b1 HD
  have hF1 : ∀ j, F j → j < w1.heap.size := fun j hj => by have := hF j hj; omega
  go_wp2_with fail
  refine (read_stops (unhide HD1) k hk hr (by omega) hF1).mono ?_
  rintro e w2 ⟨rfl, d2, k2⟩
  have HD2 := hide d2
  have HK2 := hide k2
  clear d2 k2
  have HBW := hide ((Below.refl w2.heap.size w2).alloc (Nat.le_refl _) (.cells two0 50))
  go_wp2
  go_ret
  exact ⟨rfl, (unhide HD2).grown (unhide HBW), ((Kept.of_below (unhide HB1)).trans (unhide HK2)).trans (Kept.of_below (unhide HBW))⟩


theorem own_same {w w' : World} {base g n cap : Nat} {l : List UInt8} (h : Own w base (.slice (some ⟨g, 0, none⟩) n cap) l) (e : w'.heap[g]? = w.heap[g]?) : Own w' base (.slice (some ⟨g, 0, none⟩) n cap) l := by
  obtain ⟨h1, h2⟩ := h
  refine ⟨h1, ?_⟩
  rcases h2 with h2 | ⟨q, c, cur, e1, hb, hg, r⟩
  · exact .inl h2
  · obtain ⟨e2, e3⟩ : q = g ∧ c = cap := by
      injection e1 with a1 a2 a3
      injection a1 with a4
      injection a4 with a5
      exact ⟨a5.symm, a3.symm⟩
    subst e2 e3
    exact .inr ⟨_, _, cur, e1, hb, e.trans hg, r⟩
theorem own_cut {w : World} {base g n cap : Nat} {l m : List UInt8} (h : Own w base (.slice (some ⟨g, 0, none⟩) n cap) (l ++ m)) : Sl w (.slice (some ⟨g, 0, none⟩) l.length cap) l ∧ n = l.length + m.length ∧ n ≤ cap ∧ cap ≤ 9223372036854775807 ∧ base ≤ g ∧ g < w.heap.size ∧ ∀ i, (hi : i < m.length) → w.cell? ⟨g, l.length + i, none⟩ = some (bv m[i]) := by
  obtain ⟨ao, cp, e, h1, h2, h4⟩ := h.sl
  injection e with e1 e2 e3
  subst e3
  rw [List.length_append] at h1 e2
  unfold maxLen at h2
  rcases h.2 with ⟨hh, _⟩ | ⟨q, c, cur, e1', hb, hg, r⟩
  · cases hh
  injection e1' with e2'
  injection e2' with e3'
  injection e3' with e4'
  subst e4'
  have hc : ∀ i, (hi : i < (l ++ m).length) → w.cell? ⟨g, i, none⟩ = some (bv (l ++ m)[i]) := fun i hi => by
    by_cases hz : cap = 0
    · rw [List.length_append] at hi; omega
    · obtain ⟨b, off, e5, _, h6⟩ := h4 hz
      rw [← e1] at e5
      injection e5 with e5
      injection e5 with e6 e7
      subst e6 e7
      have := h6 i hi
      rwa [Nat.zero_add] at this
  refine ⟨⟨_, _, rfl, by omega, by unfold maxLen; omega, fun _ => ⟨g, 0, rfl, lt_of_block hg, fun i hi => ?_⟩⟩, e2, by omega, by omega, hb, lt_of_block hg, fun i hi => ?_⟩
  · rw [Nat.zero_add, hc i (by rw [List.length_append]; omega), List.getElem_append_left hi]
  · rw [hc (l.length + i) (by rw [List.length_append]; omega), List.getElem_append_right (by omega)]
    simp
def StorePost (w0 : World) (b q N k : Nat) (R : Rc) (e : Ending) (w' : World) : Prop := e = .returned (.bool true) ∧ ∃ F T R', Sp w0 w' b q (N + 6) F T R' ∧ FitR T k R' ∧ R'.count ≤ R.count + 1
theorem Sp.more {w0 w : World} {b q N M : Nat} {F : Nat → Prop} {S : St} {R : Rc} (h : Sp w0 w b q N F S R) (hN : N ≤ M) : Sp w0 w b q M F S R := ⟨⟨h.run.dev.mono (fun _ h => h) hN, h.run.foot, h.run.bel⟩, h.rc, h.nq, h.new⟩
set_option maxRecDepth 20000 in
set_option maxHeartbeats 8000000 in
theorem spStore {w0 w : World} {b q N k : Nat} {F : Nat → Prop} {S : St} {R : Rc} (h : Sp w0 w b q N F S R) (hf : FitR S k R) (ho : S.down = false → R.other = false) (hk : k + 1 < 64) (hN : N < 700000) (hc : R.count < 900000) (a : Option Addr) (c : Nat) (d : List UInt8) (hv : Sl w0 (.slice a d.length c) d) (hdl : d.length ≤ 140737488351232) :
    Calls Try.prog 9 #[.pointer (some ⟨b, 0, none⟩), .int .i64 (k : Int), .pointer (some ⟨q, 0, none⟩), .slice a d.length c] w (StorePost w0 b q N k R) := by
  have H := hide h
  have HF := hide hf
  have HV := hide hv
  have HO := hide ho
  clear h hf hv ho
  have HV1 := hide ((unhide H).run.sl (unhide HV))
  go_enter Try.func9, Try.ntmps9
  go_wp2_with (at_builtin; refine wpList_append_mine rfl (.tmp 13) (.tmp 14) rfl w.heap.size _ [] rfl ?hown _ d rfl ?hy ?hlen ?hbase ?_)
  case hown => exact World.ownsRow_lit w #[] 0 (Nat.le_refl _) (by simp [maxLen]) rfl
  case hy => exact (unhide HV1).alloc _
  case hlen => simp; omega
  case hbase => simp
  intro v1 w1 own1 b1
  have own1' : Own w1 w.heap.size v1 d := own1
  have b1' : Below w.heap.size w w1 := ((Below.refl w.heap.size w).alloc (Nat.le_refl _) _).trans b1
  have s1 := b1'.size
  have HO1 := hide own1'
  have HB1 := hide b1'
  clear own1 own1' b1 b1' HV1
  go_wp2_with (at_builtin; refine wpList_append_mine rfl (.tmp 15) (.tmp 16) rfl w.heap.size _ d rfl ?hown2 _ [7] rfl ?hy2 ?hlen2 ?hbase2 ?_)
  case hown2 => exact World.ownsRow.alloc (unhide HO1) _
  case hy2 => exact Sl.new w1 [7] (by simp [maxLen]) (0, 0)
  case hlen2 => simp; omega
  case hbase2 => simp; omega
  intro v2 w2 own2 b2
  have b2' : Below w.heap.size w w2 := (unhide HB1).trans (((Below.refl w1.heap.size w1).alloc (Nat.le_refl _) _ |>.mono s1).trans b2)
  obtain ⟨g, cap, hv2⟩ : ∃ g cap, v2 = .slice (some ⟨g, 0, none⟩) (d.length + 1) cap := by
    rcases own2.2 with ⟨rfl, hz⟩ | ⟨g, cap, cur, rfl, _⟩
    · simp at hz
    · exact ⟨g, cap, by simp⟩
  subst hv2
  obtain ⟨_, _, hnc, hcc, hgb, _, _⟩ := own_cut own2
  have S2 := hide ((unhide H).grown b2')
  have HO2 := hide own2
  have hgF : ¬ F g := fun hf => by have := (unhide H).run.foot g hf; omega
  have hgq : g ≠ q := fun e => by have := (unhide H).rc.lt; omega
  clear own2 b2 b2' HO1 HB1 s1
  have D2 := hide (Down_run (unhide S2).run)
  have hdc : ¬ cap = d.length := by omega
  have HX : Hid (∀ (W : World), W.heap[g]? = w2.heap[g]? → w0.heap.size ≤ W.heap.size → Below w0.heap.size w0 W → (∀ nq, (convert 22 9 (.slice (some ⟨g, 0, none⟩) d.length cap)).run Try.prog (W.drewN nq) = .ok (.string ⟨d.toArray⟩) (W.drewN nq)) ∧ (∀ nq, (convert 22 9 (.slice a d.length c)).run Try.prog (W.drewN nq) = .ok (.string ⟨d.toArray⟩) (W.drewN nq)) ∧ W.cell? ⟨g, d.length, none⟩ = some (.int .u8 7)) := hide (fun W e _ hb => by
    have o := own_same (unhide HO2) e
    obtain ⟨sl, _, _, _, _, _, c7⟩ := own_cut o
    have c7' := c7 0 (by simp)
    rw [Nat.add_zero] at c7'
    exact ⟨fun nq => (sl.below (below_drewN (Below.refl W.heap.size W) nq) (Nat.le_refl _)).str, fun nq => (((unhide HV).below hb (Nat.le_refl _)).below (below_drewN (Below.refl W.heap.size W) nq) (Nat.le_refl _)).str, c7'⟩)
  have SLc := hide (own_cut (unhide HO2)).1
  have zz := (unhide S2).rc.lt
  go_wp2_with fail
  refine (unhide D2).mono ?_
  rintro e w3 ⟨rfl, rfl⟩
  by_cases h4 : 400 < d.length
  · have ST := hide (Store_refused (unhide S2).run (k : Int) (some ⟨g, 0, none⟩) d.length cap 31 (by unfold chkE; rw [(unhide HF).len, if_neg (by omega), if_pos h4]) (by decide))
    have h4I : (400 : Int) < (d.length : Int) := by omega
    go_wp2_with fail
    refine (unhide ST).mono ?_
    rintro e w4 ⟨rfl, run4, b4⟩
    have S4 := hide ((unhide S2).grown b4)
    obtain ⟨t1, t2, t3⟩ := unhide HX w4 (b4.block g (own_cut (unhide HO2)).2.2.2.2.2.1) (unhide S4).run.bel.size (unhide S4).run.bel
    clear run4 b4 ST
    go_wp2_with fail
    go_quiet (fail)
    go_wp2
    go_ret
    exact ⟨rfl, F, S, R, ((unhide S4).more (by omega)).grown (below_drewN (Below.refl _ _) _), unhide HF, by omega⟩
  · have h4I : ¬ (400 : Int) < (d.length : Int) := by omega
    cases hd : S.down with
    | true =>
      have hr : ¬ S.reads := fun h => by have := h.1; rw [hd] at this; cases this
      have ST := hide (Store_stops (unhide S2).run.dev (fun j hj => ((unhide S2).run.foot j hj).2) k (by rw [(unhide HF).len]; exact hk) (by omega) hr (some ⟨g, 0, none⟩) d.length cap (by omega))
      have FT := hide ((unhide HF).halted hr)
      clear hr
      go_wp2_with fail
      refine (unhide ST).mono ?_
      rintro e w4 ⟨rfl, dev4, kp4⟩
      have S4 := hide ((unhide S2).kept ((unhide S2).run.of dev4 (fun j hj => by have := (unhide S2).run.foot j hj; have := kp4.size; omega) kp4) kp4 fun j hj => .inl hj)
      obtain ⟨t1, t2, t3⟩ := unhide HX w4 (kp4.block g (own_cut (unhide HO2)).2.2.2.2.2.1 hgF) (unhide S4).run.bel.size (unhide S4).run.bel
      clear dev4 kp4 ST hd
      go_wp2_with fail
      go_quiet (fail)
      go_wp2
      go_ret
      exact ⟨rfl, F, S.halted, R, ((unhide S4).more (by omega)).grown (below_drewN (Below.refl _ _) _), unhide FT, by omega⟩
    | false =>
      have ho := unhide HO hd
      obtain ⟨hcalm, hla, hm⟩ := (unhide HF).up hd
      have hm' : (S.rcd k).data = R.data ∧ (S.rcd k).count = R.count := by
        rcases hm with hm | hm
        · exact hm
        · rw [ho] at hm; exact absurd hm.1 (by decide)
      have hlow := (unhide HF).low
      have hcnt : (S.rcd k).count < 9223372036854775807 := by rw [hm'.2]; omega
      have ST := hide (Store_run (unhide S2).run (unhide HF).len k hk (by omega) (some ⟨g, 0, none⟩) cap d (unhide SLc) (fun _ ad h => by cases h; exact hgF) (by omega) hcnt)
      have SC := store_cases (unhide HF).len k hk hd hcalm hla hcnt d (by omega)
      obtain ⟨E, hE⟩ : ∃ E, E = (S.store k d).1 := ⟨_, rfl⟩
      obtain ⟨T, hT⟩ : ∃ T, T = (S.store k d).2 := ⟨_, rfl⟩
      rw [← hE, ← hT] at ST
      rw [← hE, ← hT] at SC
      clear hE hT hcalm hla hm
      rcases SC with ⟨rfl, hput⟩ | ⟨rfl, hTd, hTl, hTc⟩
      · rw [hm'.2] at hput
        have FT := hide ((unhide HF).stored hk hput _ rfl)
        have hup := hput.up
        have HLA := hide (unhide HF).laid
        clear hput hm' hcnt HO ho hd
        go_wp2_with fail
        refine (unhide ST).mono ?_
        rintro e w4 ⟨rfl, F', run4, hF', kp4⟩
        have S4 := hide ((unhide S2).kept run4 kp4 hF')
        obtain ⟨t1, t2, t3⟩ := unhide HX w4 (kp4.block g (own_cut (unhide HO2)).2.2.2.2.2.1 hgF) (unhide S4).run.bel.size (unhide S4).run.bel
        have D4 := hide (fun nq => Down_run (((unhide S4).grown (below_drewN (Below.refl w4.heap.size w4) nq)).run))
        rw [hup] at D4
        have RS := hide (fun nq => rStore_ok (w := w4.drewN nq) (((unhide S4).grown (below_drewN (Below.refl w4.heap.size w4) nq)).rc) (unhide HLA) a c d ((((unhide S4).grown (below_drewN (Below.refl w4.heap.size w4) nq)).run.sl (unhide HV))) (by omega) hlow (by omega))
        clear run4 kp4 ST hF'
        go_wp2_with fail
        go_quiet (fail)
        go_wp2_with (first | (go_at_call 17; refine (unhide D4 _).mono ?_; rintro e w5 ⟨rfl, rfl⟩) | (go_at_call 19; refine (unhide RS _).mono ?_; rintro e w6 ⟨rfl, rc6, kp6⟩; have S6 := hide (((unhide S4).grown (below_drewN (Below.refl w4.heap.size w4) _)).rec_ kp6 rc6); clear rc6 kp6) | fail)
        go_ret
        exact ⟨rfl, F', T, _, unhide S6, unhide FT, by show R.count + 1 ≤ _; omega⟩
      · have FT := hide ((unhide HF).under hd ho hTd hTl hTc _ rfl)
        clear hTl hTc hm' hcnt HO ho hd
        go_wp2_with fail
        refine (unhide ST).mono ?_
        rintro e w4 ⟨rfl, F', run4, hF', kp4⟩
        have S4 := hide ((unhide S2).kept run4 kp4 hF')
        obtain ⟨t1, t2, t3⟩ := unhide HX w4 (kp4.block g (own_cut (unhide HO2)).2.2.2.2.2.1 hgF) (unhide S4).run.bel.size (unhide S4).run.bel
        have D4 := hide (fun nq => Down_run (((unhide S4).grown (below_drewN (Below.refl w4.heap.size w4) nq)).run))
        rw [hTd] at D4
        have r3 : ∀ nq, (w4.drewN nq).cell? ⟨q, 3, none⟩ = some (.string ⟨R.next.toArray⟩) := fun nq => (unhide S4).rc.c3
        have r1 : ∀ nq, (w4.drewN nq).cell? ⟨q, 1, none⟩ = some (.bool R.other) := fun nq => (unhide S4).rc.c1
        have n3 : ∀ nq, (w4.drewN nq).frozen? ⟨q, 3, none⟩ = false := fun nq => (unhide S4).rc.nf 3
        have n1 : ∀ nq, (w4.drewN nq).frozen? ⟨q, 1, none⟩ = false := fun nq => (unhide S4).rc.nf 1
        have S6 : Hid (∀ nq, Sp w0 (((w4.drewN nq).setCell ⟨q, 3, none⟩ (.string ⟨d.toArray⟩)).setCell ⟨q, 1, none⟩ (.bool true)) b q (N + 6) F' T { R with next := d, other := true }) := hide (fun nq => by
          have s := (unhide S4).grown (below_drewN (Below.refl w4.heap.size w4) nq)
          exact (s.rec_ (kept_set _ _ _ _) (s.rc.s3 d)).rec_ (kept_set _ _ _ _) ((s.rc.s3 d).s1 true))
        clear run4 kp4 ST hF'
        go_wp2_with fail
        go_quiet (fail)
        go_wp2_with (first | (go_at_call 17; refine (unhide D4 _).mono ?_; rintro e w5 ⟨rfl, rfl⟩) | fail)
        go_ret
        exact ⟨rfl, F', T, _, unhide S6 _, unhide FT, by show R.count ≤ _; omega⟩
end Go.Proofs.Ytnmmdefkmjlkaaa

/-
  DERIVED. How the calls of a law on records are opened, and how long their bytes may be.
-/
namespace Go.Proofs.Ytnmmdefkmjlkaaa
open Go.ChangeShapes Go.WideShapes Go.ChangeAt Go.RowKit
set_option linter.unusedVariables false

theorem weightsAll_mem {H : Type} {P : Program} {e : TypeId} {d : DataW H} {n : Nat} : ∀ {l : List (DataW H)}, d ∈ l → n ∈ d.weights P e → n ∈ DataW.weightsAll P e l
  | x :: l, h, hn => by
    simp only [DataW.weightsAll, List.mem_append]
    rcases List.mem_cons.1 h with rfl | h
    · exact .inl hn
    · exact .inr (weightsAll_mem h hn)
abbrev I64 (x : Int) : Prop := -9223372036854775808 ≤ x ∧ x < 9223372036854775808
theorem open_intl' {H : Type} {enc : TypeId × Value → H} {W : World} {v : Value} {y : DataW H × List MemPlace} {fuel : Nat}
    (hf : DataW.trod enc Try.prog W 0 (fun _ => true) true fuel 35 [v] = some y) : ∃ l : List Int, Ints W v l := by
  rcases open_ints Try.underlying35 Try.underlying3 Try.cellsInt hf with ⟨hcs, hx⟩ | ⟨x, l, cp, zs, hcs, _, hl, hm, hz, hx, hcell, hwz⟩
  · simp at hcs
    subst hcs
    exact ⟨[], none, 0, rfl, by simp, by simp, fun h => absurd rfl h⟩
  · simp at hcs
    subst hcs
    exact open_intl (enc := enc) (d := y.1) (p := y.2) ⟨fuel, by simpa [Value.cells] using hf⟩

theorem open_bytes' {H : Type} {enc : TypeId × Value → H} {W : World} {v : Value} {y : DataW H × List MemPlace} {fuel : Nat}
    (hf : DataW.trod enc Try.prog W 0 (fun _ => true) true fuel 22 [v] = some y) : ∃ (l : List UInt8) (a : Option Addr) (c : Nat), v = .slice a l.length c ∧ Sl W v l ∧ ∀ B, (∀ x ∈ y.1.weights Try.prog 22, x ≤ B) → l.length ≤ B := by
  have key : ∃ a n c, v = .slice a n c := by
    rcases open_ints Try.underlying22 Try.underlying5 Try.cells5 hf with ⟨hcs, hx⟩ | ⟨x, l, cp, zs, hcs, _⟩
    · simp at hcs; exact ⟨_, _, _, hcs⟩
    · simp at hcs; exact ⟨_, _, _, hcs⟩
  obtain ⟨a, n, c, rfl⟩ := key
  obtain ⟨l, h1, h2⟩ := open_bytes (enc := enc) (d := y.1) (p := y.2) ⟨fuel, by simpa [Value.cells] using hf⟩
  obtain rfl := h1.lenEq
  refine ⟨l, a, c, rfl, h1, ?_⟩
  rcases h2 with ⟨_, rfl⟩ | ⟨es, sp, e, h⟩
  · intro B _
    simp
  · intro B hB
    have hm := hB ((es.length + sp.length) * Try.prog.bytesOf 5) (by rw [e]; simp [DataW.weights, Try.underlying22])
    rw [Try.bytes5] at hm
    omega
/-- A call, as it reads. -/
structure LCl where
  kind : Int
  n : Int
  data : List UInt8
  picks : List Int
instance : Inhabited LCl := ⟨⟨0, 0, [], []⟩⟩
structure LClAt (w : World) (b o B : Nat) (c : LCl) : Prop where
  c0 : w.cell? ⟨b, o, none⟩ = some (.int .i64 c.kind)
  c1 : w.cell? ⟨b, o + 1, none⟩ = some (.int .i64 c.n)
  c2 : ∃ a cp, w.cell? ⟨b, o + 2, none⟩ = some (.slice a c.data.length cp) ∧ Sl w (.slice a c.data.length cp) c.data
  c3 : ∃ v, w.cell? ⟨b, o + 3, none⟩ = some v ∧ Ints w v c.picks
  i1 : I64 c.n
  dl : c.data.length ≤ B
/-- A slice of calls, whose bytes are no longer than B. -/
def LClL (w : World) (v : Value) (l : List LCl) (B : Nat) : Prop :=
  ∃ ao cap, v = .slice ao l.length cap ∧ l.length ≤ 9223372036854775807 ∧ (0 < l.length → ∃ b off, ao = some ⟨b, off, none⟩ ∧ b < w.heap.size ∧ ∀ i, (h : i < l.length) → LClAt w b (off + i * 4) B l[i])
theorem Try.cellsLCall : Try.prog.cellsOf 37 = 4 := by kernel_rfl
theorem Try.cellsBytes : Try.prog.cellsOf 22 = 1 := by kernel_rfl
theorem Try.cellsInts : Try.prog.cellsOf 35 = 1 := by kernel_rfl
theorem Try.underLCall : ∃ f0 f1 f2 f3, Try.prog.underlying 37 = some (.struct #[f0, f1, f2, f3]) ∧ (f0.offset = 0 ∧ f1.offset = 1 ∧ f2.offset = 2 ∧ f3.offset = 3) ∧ f0.type = 3 ∧ f1.type = 3 ∧ f2.type = 22 ∧ f3.type = 35 := ⟨_, _, _, _, Try.underlying37, ⟨rfl, rfl, rfl, rfl⟩, rfl, rfl, rfl, rfl⟩
set_option maxRecDepth 100000 in
theorem open_lcalls {H : Type} {enc : TypeId × Value → H} {W : World} {a : Option Addr} {n c : Nat} {d : DataW H} {p : List MemPlace}
    (h : DataW.Trod enc Try.prog W 0 (fun _ => true) true 23 (.slice a n c) d p) {B : Nat} (hB : ∀ x ∈ d.weights Try.prog 23, x ≤ B) : ∃ l : List LCl, LClL W (.slice a n c) l B := by
  obtain ⟨fuel, hf⟩ := h
  obtain ⟨f0, f1, f2, f3, hu, ⟨o0, o1, o2, o3⟩, t0, t1, t2, t3⟩ := Try.underLCall
  rcases Go.Deep.open_slice Try.underlying23 hf with ⟨hcs, hx⟩ | ⟨x, n', cap, m, k, D, Pl, hcs, _, hl, hm, hz, hx, hcell⟩
  · simp [Value.cells] at hcs
    obtain ⟨rfl, rfl, rfl⟩ := hcs
    exact ⟨[], none, 0, rfl, by simp, fun h => by simp at h⟩
  · simp [Value.cells] at hcs
    obtain ⟨rfl, rfl, rfl⟩ := hcs
    rw [if_pos rfl] at hz
    subst hz
    unfold maxLen at hm
    have hel : ∀ i, i < n → ∃ e : LCl, I64 e.n ∧ W.cell? (x.add (i * 4)) = some (.int .i64 e.kind) ∧ W.cell? (x.add (i * 4 + 1)) = some (.int .i64 e.n) ∧ (∃ a cp, W.cell? (x.add (i * 4 + 2)) = some (.slice a e.data.length cp) ∧ Sl W (.slice a e.data.length cp) e.data) ∧ (∃ v, W.cell? (x.add (i * 4 + 3)) = some v ∧ Ints W v e.picks) ∧ (∀ B, (∀ x ∈ (D i).weights Try.prog 37, x ≤ B) → e.data.length ≤ B) := by
      intro i hi
      obtain ⟨cs, q1, q2⟩ := hcell i (by omega)
      rw [Try.cellsLCall] at q1
      obtain ⟨_, hlen, hc⟩ := World.cells?_some q1
      match cs, hlen with
      | [c0, c1, c2, c3], _ =>
        obtain ⟨xs, k', _, hDx, _, hxl, hfl⟩ := DataW.trod_struct hu q2
        match xs, hxl with
        | [x0, x1, x2, x3], _ =>
          have g0 := hfl 0 f0 rfl
          have g1 := hfl 1 f1 rfl
          have g2 := hfl 2 f2 rfl
          have g3 := hfl 3 f3 rfl
          rw [o0, t0, Try.cellsInt] at g0
          rw [o1, t1, Try.cellsInt] at g1
          rw [o2, t2, Try.cellsBytes] at g2
          rw [o3, t3, Try.cellsInts] at g3
          obtain ⟨s0, e0, _, w0⟩ := DataW.trod_int Try.underlying3 g0
          obtain ⟨s1, e1, _, w1⟩ := DataW.trod_int Try.underlying3 g1
          simp at e0 e1
          subst e0 e1
          simp at g2 g3
          obtain ⟨l2, a2, cp2, rfl, h2, hb2⟩ := open_bytes' g2
          obtain ⟨l3, h3⟩ := open_intl' g3
          have hDi : D i = .agg [x0.1, x1.1, x2.1, x3.1] := by simpa using congrArg Prod.fst hDx
          have hbd : ∀ B, (∀ x ∈ (D i).weights Try.prog 37, x ≤ B) → l2.length ≤ B := by
            intro B hB
            refine hb2 B fun x hx => hB x ?_
            rw [hDi]
            simp only [DataW.weights, hu, DataW.weightsEach, List.map_cons, t2, List.mem_append]
            exact .inr (.inr (.inl hx))
          have k0 := hc 0 (by omega)
          have k1 := hc 1 (by omega)
          have k2 := hc 2 (by omega)
          have k3 := hc 3 (by omega)
          rw [Go.Deep.add_add] at k0 k1 k2 k3
          have b1 := bounds_i64 w1
          exact ⟨⟨s0, s1, l2, l3⟩, ⟨by simp only; omega, by simp only; omega⟩, k0, k1, ⟨a2, cp2, k2, h2⟩, ⟨c3, k3, h3⟩, hbd⟩
    obtain ⟨F, hF⟩ := Go.Deep.choose_lt (α := LCl) hel
    have hlen : ((List.range n).map F).length = n := by simp
    refine ⟨(List.range n).map F, some x, _, by rw [hlen], by rw [hlen]; omega, fun hz => ?_⟩
    rw [hlen] at hz
    have h0 := (hF 0 (by omega)).2.1
    have hsp := World.cell?_spot h0
    obtain ⟨b, off, sp⟩ := x
    have hsp' : sp = none := by
      cases sp with
      | none => rfl
      | some k => simp [Addr.add] at hsp
    subst hsp'
    refine ⟨b, off, rfl, ?_, fun i hi => ?_⟩
    · rw [addr_add] at h0
      exact World.block_lt_of_cell? W ⟨b, off + 0 * 4, none⟩ h0
    · have hi' : i < n := by rw [hlen] at hi; exact hi
      obtain ⟨j1, q0, q1, ⟨a2, cp2, q2, s2⟩, ⟨v, q3, s3⟩, q5⟩ := hF i hi'
      rw [addr_add] at q0 q1 q2 q3
      have e : ((List.range n).map F)[i] = F i := by simp
      rw [e]
      simp only [← Nat.add_assoc] at q1 q2 q3
      refine { c0 := q0, c1 := q1, c2 := ⟨a2, cp2, q2, s2⟩, c3 := ⟨v, q3, s3⟩, i1 := j1, dl := ?_ }
      have hdd : d = .slice ((List.range n).map D) ((List.range (m - n)).map fun j => D (n + j)) := by simpa using congrArg Prod.fst hx
      refine q5 B fun x hx => hB x ?_
      rw [hdd]
      simp only [DataW.weights, Try.underlying23, List.mem_cons, List.mem_append]
      exact .inr (.inl (weightsAll_mem (List.mem_map.2 ⟨i, List.mem_range.2 hi', rfl⟩) hx))
end Go.Proofs.Ytnmmdefkmjlkaaa

/-
  DERIVED. The law's awake: the chapter's examples.
-/
namespace Go.Proofs.Ytnmmdefkmjlkaaa
open Go.RowKit
set_option linter.unusedVariables false

set_option maxRecDepth 100000 in
set_option maxHeartbeats 3200000 in
theorem awake_any (w : World) : Calls Try.prog 4 #[] w fun e w' => e = .returned (.bool true) ∧ Below w.heap.size w w' := by
  have kc := fun (w : World) (C : Array Value) (n c : Nat) => Lib.run_convert_bytes_const (P := Try.prog) w 22 5 C n c Try.underlying22 Try.underlying5
  go_enter Try.func4, Try.ntmps4
  go_wp2_with fail
  refine (New_run w w (Below.refl _ _)).mono ?_
  rintro e w1 ⟨rfl, r1, _⟩
  obtain ⟨b, hb⟩ : ∃ b, b = w.heap.size + 2 := ⟨_, rfl⟩
  obtain ⟨F1, hF1⟩ : ∃ F1, F1 = (fun k => w.heap.size ≤ k ∧ k < w1.heap.size) := ⟨_, rfl⟩
  rw [← hb, ← hF1] at r1
  rw [← hb]
  have R1 := hide r1
  clear r1 hb hF1
  go_wp2_with fail
  refine (Load_no (unhide R1) Up.new 4 (by omega) (by omega) (by rw [new_rcd 4 (by omega)]; rfl)).mono ?_
  rintro e w2 ⟨rfl, r2, _⟩
  have R2 := hide r2
  clear r2
  go_wp2_with fail
  refine (Format_up ((unhide R2).grown ((Below.refl _ _).alloc (Nat.le_refl _) _)) Up.new.burn.burn 4 (by omega) (by omega) _ 1 [97] (Sl.new w2 [97] (by simp [maxLen]) (1, 2)) ((unhide R2).newF 1 0) (by decide)).mono ?_
  rintro e w3 ⟨rfl, F3, T3, r3, p3, u3, _, _⟩
  have R3 := hide r3
  have hT3 := p3.rec_
  clear r3 p3
  go_wp2_with fail
  refine (Store_up ((unhide R3).grown ((Below.refl _ _).alloc (Nat.le_refl _) _)) u3 4 (by omega) (by omega) _ 1 [98] (Sl.new w3 [98] (by simp [maxLen]) (1, 2)) ((unhide R3).newF 1 0) (by decide) (by rw [hT3]) (by rw [hT3]; decide)).mono ?_
  rintro e w4 ⟨rfl, F4, T4, r4, p4, u4, _, _⟩
  have R4 := hide r4
  have hT4 := p4.rec_
  rw [hT3] at hT4
  clear r4 p4 hT3
  go_wp2_with fail
  refine (Load_up (unhide R4) u4 4 (by omega) (by omega) (by rw [hT4])).mono ?_
  rintro e w5 ⟨a, n, c, rfl, l5, _, r5, _⟩
  rw [hT4] at l5 ⊢
  have R5 := hide r5
  have hcv := l5.str
  clear r5 hT4
  go_wp2
  go_ret
  exact ⟨rfl, (unhide R5).bel⟩
end Go.Proofs.Ytnmmdefkmjlkaaa
