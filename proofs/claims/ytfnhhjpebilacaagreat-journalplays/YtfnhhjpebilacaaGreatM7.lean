/-
  DERIVED. A log in a law, and the law's own blocks beside it, which stay.
-/
import Derived.Test.YtfnhhjpebilacaaGreatM6
import Derived.Deep.Slices
import Derived.Deep.Lists
import Derived.Laws.AppendOwn
import Derived.Deep.RegionLaw
import Derived.Test.YtfnhhjpebilacaaGreatM3
import Derived.Deep.AppendLies
import Derived.Deep.QuietTactic
import Derived.BigQuiet
import Derived.BigRegion
import Derived.ArgAppend
namespace Go.Proofs.YtfnhhjpebilacaaGreat
open Go.RowKit
set_option linter.unusedVariables false
set_option maxRecDepth 20000

/-- The blocks of G stay. -/
def SameG (G : Nat → Prop) (w w' : World) : Prop := w.heap.size ≤ w'.heap.size ∧ ∀ q, G q → w'.heap[q]? = w.heap[q]?
theorem SameG.refl (G : Nat → Prop) (w : World) : SameG G w w := ⟨Nat.le_refl _, fun _ _ => rfl⟩
theorem SameG.trans {G : Nat → Prop} {a b c : World} (h : SameG G a b) (k : SameG G b c) : SameG G a c := ⟨Nat.le_trans h.1 k.1, fun q hq => (k.2 q hq).trans (h.2 q hq)⟩
theorem SameG.mono {G H : Nat → Prop} {a b : World} (h : SameG G a b) (hH : ∀ q, H q → G q) : SameG H a b := ⟨h.1, fun q hq => h.2 q (hH q hq)⟩
/-- A log with its device; G: the law's own blocks. -/
def Rst (w0 w : World) (b lb N : Nat) (G : Nat → Prop) (S : St) (dn : Bool) : Prop := ∃ F, LAt w0 w b lb N F S dn ∧ ∀ j, G j → j < w.heap.size ∧ ¬ F j ∧ j ≠ lb
/-- A device. -/
def RstD (w0 w : World) (b N : Nat) (G : Nat → Prop) (S : St) : Prop := ∃ F, Run w0 w b N F S ∧ ∀ j, G j → j < w.heap.size ∧ ¬ F j
theorem Rst.bel {w0 w : World} {b lb N : Nat} {G : Nat → Prop} {S : St} {dn : Bool} (h : Rst w0 w b lb N G S dn) : Below w0.heap.size w0 w := by
  obtain ⟨F, h1, _⟩ := h
  exact h1.run.bel
theorem RstD.bel {w0 w : World} {b N : Nat} {G : Nat → Prop} {S : St} (h : RstD w0 w b N G S) : Below w0.heap.size w0 w := by
  obtain ⟨F, h1, _⟩ := h
  exact h1.bel
theorem RstD.ops {w0 w : World} {b N : Nat} {G : Nat → Prop} {S : St} (h : RstD w0 w b N G S) : 64 ≤ S.safe.length ∧ S.safe.length ≤ 512 ∧ 0 ≤ S.ops ∧ S.ops ≤ N := by
  obtain ⟨F, h1, _⟩ := h
  exact h1.devB.len
theorem Rst.dev {w0 w : World} {b lb N : Nat} {G : Nat → Prop} {S : St} {dn : Bool} (h : Rst w0 w b lb N G S dn) : RstD w0 w b N G S := by
  obtain ⟨F, h1, h2⟩ := h
  exact ⟨F, h1.run, fun j hj => ⟨(h2 j hj).1, (h2 j hj).2.1⟩⟩
theorem Rst.ops {w0 w : World} {b lb N : Nat} {G : Nat → Prop} {S : St} {dn : Bool} (h : Rst w0 w b lb N G S dn) : 64 ≤ S.safe.length ∧ S.safe.length ≤ 512 ∧ 0 ≤ S.ops ∧ S.ops ≤ N := h.dev.ops
theorem LAt.grown {w0 w w' : World} {b lb N : Nat} {F : Nat → Prop} {S : St} {dn : Bool} (h : LAt w0 w b lb N F S dn) (hb : Below w.heap.size w w') : LAt w0 w' b lb N F S dn :=
  ⟨h.run.grown hb, h.log.of (hb.block _ h.log.lt), h.lo, h.off⟩
/-- New memory of the law's own is kept too. -/
theorem Rst.grown {w0 w w' : World} {b lb N : Nat} {G H : Nat → Prop} {S : St} {dn : Bool} (h : Rst w0 w b lb N G S dn) (hb : Below w.heap.size w w') (hH : ∀ j, H j → G j ∨ (w.heap.size ≤ j ∧ j < w'.heap.size)) : Rst w0 w' b lb N H S dn := by
  obtain ⟨F, h1, h2⟩ := h
  refine ⟨F, h1.grown hb, fun j hj => ?_⟩
  have hs := hb.size
  have hlt := h1.log.lt
  rcases hH j hj with h | h
  · have := h2 j h
    exact ⟨by omega, this.2⟩
  · exact ⟨h.2, fun hf => by have := (h1.run.foot j hf).2; omega, by omega⟩
theorem RstD.grown {w0 w w' : World} {b N : Nat} {G H : Nat → Prop} {S : St} (h : RstD w0 w b N G S) (hb : Below w.heap.size w w') (hH : ∀ j, H j → G j ∨ (w.heap.size ≤ j ∧ j < w'.heap.size)) : RstD w0 w' b N H S := by
  obtain ⟨F, h1, h2⟩ := h
  refine ⟨F, h1.grown hb, fun j hj => ?_⟩
  have hs := hb.size
  rcases hH j hj with h | h
  · have := h2 j h
    exact ⟨by omega, this.2⟩
  · exact ⟨h.2, fun hf => by have := (h1.foot j hf).2; omega⟩
theorem Rst.mono {w0 w : World} {b lb N M : Nat} {G : Nat → Prop} {S : St} {dn : Bool} (h : Rst w0 w b lb N G S dn) (hM : N ≤ M) : Rst w0 w b lb M G S dn := by
  obtain ⟨F, h1, h2⟩ := h
  exact ⟨F, ⟨⟨h1.run.dev.mono (fun _ h => h) hM, h1.run.foot, h1.run.bel⟩, h1.log, h1.lo, h1.off⟩, h2⟩
theorem RstD.mono {w0 w : World} {b N M : Nat} {G : Nat → Prop} {S : St} (h : RstD w0 w b N G S) (hM : N ≤ M) : RstD w0 w b M G S := by
  obtain ⟨F, h1, h2⟩ := h
  exact ⟨F, ⟨h1.dev.mono (fun _ h => h) hM, h1.foot, h1.bel⟩, h2⟩
/-- The law's own blocks turn. -/
theorem Rst.only {w0 w w' : World} {b lb N : Nat} {G : Nat → Prop} {S : St} {dn : Bool} (h : Rst w0 w b lb N G S dn) {x : Nat} (ho : Only x w w') (hx : G x) (hw : w0.heap.size ≤ x) : Rst w0 w' b lb N G S dn := by
  obtain ⟨F, h1, h2⟩ := h
  have hx2 := h2 x hx
  refine ⟨F, ⟨⟨h1.run.dev.frame fun k hk _ => ho.other k fun e => hx2.2.1 (e ▸ hk), fun j hj => by rw [ho.size]; exact h1.run.foot j hj, h1.run.bel.trans (ho.below _ hw)⟩, h1.log.of (ho.other lb (Ne.symm hx2.2.2)), h1.lo, h1.off⟩, fun j hj => by rw [ho.size]; exact h2 j hj⟩
theorem RstD.only {w0 w w' : World} {b N : Nat} {G : Nat → Prop} {S : St} (h : RstD w0 w b N G S) {x : Nat} (ho : Only x w w') (hx : G x) (hw : w0.heap.size ≤ x) : RstD w0 w' b N G S := by
  obtain ⟨F, h1, h2⟩ := h
  have hx2 := h2 x hx
  exact ⟨F, ⟨h1.dev.frame fun k hk _ => ho.other k fun e => hx2.2 (e ▸ hk), fun j hj => by rw [ho.size]; exact h1.foot j hj, h1.bel.trans (ho.below _ hw)⟩, fun j hj => by rw [ho.size]; exact h2 j hj⟩

theorem LW.rst {w0 w w' : World} {b lb M : Nat} {F : Nat → Prop} {T : St} {dn : Bool} (h : LW w0 w w' b lb F M T dn) {G : Nat → Prop} (hG : ∀ j, G j → j < w.heap.size ∧ ¬ F j ∧ j ≠ lb) : Rst w0 w' b lb M G T dn ∧ SameG G w w' := by
  obtain ⟨F', l, f, k⟩ := h
  have hs := k.size
  refine ⟨⟨F', l, fun j hj => ?_⟩, hs, fun q hq => ?_⟩
  · have := hG j hj
    exact ⟨by omega, fun hf => (f j hf).elim this.2.1 fun h => by omega, this.2.2⟩
  · have := hG q hq
    exact k.block q this.1 fun hf => hf.elim this.2.1 this.2.2

theorem LWs.rst {w0 w w' : World} {b lb M : Nat} {F : Nat → Prop} {T : St} {dn : Bool} (h : LWs w0 w w' b lb F M T dn) {G : Nat → Prop} (hG : ∀ j, G j → j < w.heap.size ∧ ¬ F j ∧ j ≠ lb) (hl : lb < w.heap.size) (hF : ∀ j, F j → j < w.heap.size) (q : Nat) (hq : w.heap.size ≤ q) (hq2 : q < w'.heap.size) : Rst w0 w' b lb M (fun j => G j ∨ j = q) T dn ∧ SameG G w w' := by
  obtain ⟨l, k⟩ := h
  have hs := k.size
  refine ⟨⟨F, l, fun j hj => ?_⟩, hs, fun q hq => ?_⟩
  · rcases hj with hj | rfl
    · have := hG j hj
      exact ⟨by omega, this.2⟩
    · exact ⟨hq2, fun hf => by have := hF _ hf; omega, by omega⟩
  · have := hG q hq
    exact k.block q this.1 fun hf => hf.elim this.2.1 this.2.2
theorem LWs.rst0 {w0 w w' : World} {b lb M : Nat} {F : Nat → Prop} {T : St} {dn : Bool} (h : LWs w0 w w' b lb F M T dn) {G : Nat → Prop} (hG : ∀ j, G j → j < w.heap.size ∧ ¬ F j ∧ j ≠ lb) : Rst w0 w' b lb M G T dn ∧ SameG G w w' := by
  obtain ⟨l, k⟩ := h
  have hs := k.size
  refine ⟨⟨F, l, fun j hj => ?_⟩, hs, fun q hq => ?_⟩
  · have := hG j hj
    exact ⟨by omega, this.2⟩
  · have := hG q hq
    exact k.block q this.1 fun hf => hf.elim this.2.1 this.2.2
theorem Rst.less {w0 w : World} {b lb N : Nat} {G H : Nat → Prop} {S : St} {dn : Bool} (h : Rst w0 w b lb N G S dn) (hH : ∀ j, H j → G j) : Rst w0 w b lb N H S dn := by
  obtain ⟨F, h1, h2⟩ := h
  exact ⟨F, h1, fun j hj => h2 j (hH j hj)⟩
theorem Read_r {w0 w : World} {b lb N : Nat} {G : Nat → Prop} {S : St} (h : Rst w0 w b lb N G S false) (hd : S.down = false) (hN : N < 800000) (n : Nat) (hn : n < S.safe.length - 20) :
    Calls Tryz.prog 8 #[.pointer (some ⟨lb, 0, none⟩), .int .i64 (n : Int)] w fun e w' => SameG G w w' ∧
      (((S.rd1).1 = 0 ∧ ∃ q, e = .returned (.tuple #[.slice (some ⟨q, 0, none⟩) 512 512, .int .i64 0]) ∧ w.heap.size ≤ q ∧ w'.heap[q]? = some (.cells ((S.newest (20 + n)).map bv).toArray 84 (0, 0)) ∧ (S.newest (20 + n)).length = 512 ∧ Rst w0 w' b lb (N + 2) (fun j => G j ∨ j = q) (S.rd1).2 false) ∨
       ((S.rd1).1 = 2 ∧ e = .returned (.tuple #[.slice none 0 0, .int .i64 2]) ∧ Rst w0 w' b lb (N + 2) G (S.rd1).2 true)) := by
  obtain ⟨F, h1, h2⟩ := h
  refine (Read_go h1 hd hN n hn).mono ?_
  rintro e w' ⟨hl, hh⟩
  rcases hh with ⟨e0, q, rfl, hq, hr, h5⟩ | ⟨e2, rfl⟩
  · rw [e0] at hl
    obtain ⟨r1, r2⟩ := hl.rst h2 h1.log.lt (fun j hj => (h1.run.foot j hj).2) q hq (lt_of_block hr)
    exact ⟨r2, .inl ⟨e0, q, rfl, hq, hr, h5, r1⟩⟩
  · rw [e2] at hl
    obtain ⟨r1, r2⟩ := hl.rst0 h2
    exact ⟨r2, .inr ⟨e2, rfl, r1⟩⟩
/-- Read where there is no fuse. -/
theorem Read_f {w0 w : World} {b lb N : Nat} {G : Nat → Prop} {S : St} {c : Nat → List UInt8} (h : Rst w0 w b lb N G S false) (hq : Quiet S c) (hf : Free S) (hN : N < 800000) (n : Nat) (hn : n < S.safe.length - 20) :
    Calls Tryz.prog 8 #[.pointer (some ⟨lb, 0, none⟩), .int .i64 (n : Int)] w fun e w' => SameG G w w' ∧
      ∃ q, e = .returned (.tuple #[.slice (some ⟨q, 0, none⟩) 512 512, .int .i64 0]) ∧ w.heap.size ≤ q ∧ w'.heap[q]? = some (.cells ((c n).map bv).toArray 84 (0, 0)) ∧ (c n).length = 512 ∧ Rst w0 w' b lb (N + 2) (fun j => G j ∨ j = q) S.burn false := by
  refine (Read_r h hf.up hN n hn).mono ?_
  rintro e w' ⟨r2, hh⟩
  rw [hf.rd1] at hh
  rcases hh with ⟨_, q, e1, e2, e3, e4, r1⟩ | ⟨e1, _⟩
  · rw [hq.is n hn] at e3 e4
    exact ⟨r2, q, e1, e2, e3, e4, r1⟩
  · exact absurd (show (0 : Int) = 2 from e1) (by decide)
theorem Quiet.burn {S : St} {c : Nat → List UInt8} (h : Quiet S c) (hf : Free S) : Quiet S.burn c := h.alike (Alike.refl S).burn hf.burn.up
/-- A block's slice. -/
theorem sl_block {w : World} {q : Nat} {L : List UInt8} {ty : TypeId} {fr : Nat × Nat} (h : w.heap[q]? = some (.cells (L.map bv).toArray ty fr)) (hL : L.length = 512) : Sl w (.slice (some ⟨q, 0, none⟩) 512 512) L := by
  refine ⟨some ⟨q, 0, none⟩, 512, by rw [hL], by rw [hL]; exact Nat.le_refl _, by unfold maxLen; omega, fun _ => ⟨q, 0, rfl, lt_of_block h, fun i hi => ?_⟩⟩
  rw [cell_of_row _ _ _ _ _ _ h]
  simp [hi]

/-- The blocks to be written, in the law's own memory. -/
def WrsG (w : World) (G : Nat → Prop) (v : Value) (ws : List (Int × List UInt8)) : Prop := ∀ w', SameG G w w' → Wrs w' v ws
theorem WrsG.here {w : World} {G : Nat → Prop} {v : Value} {ws : List (Int × List UInt8)} (h : WrsG w G v ws) : Wrs w v ws := h w (SameG.refl G w)
theorem WrsG.same {w w' : World} {G : Nat → Prop} {v : Value} {ws : List (Int × List UInt8)} (h : WrsG w G v ws) (hs : SameG G w w') : WrsG w' G v ws := fun w2 h2 => h w2 (hs.trans h2)
theorem WrsG.mono {w : World} {G H : Nat → Prop} {v : Value} {ws : List (Int × List UInt8)} (h : WrsG w G v ws) (hH : ∀ q, G q → H q) : WrsG w H v ws := fun w2 h2 => h w2 (h2.mono hH)

theorem Commit_r {w0 w : World} {b lb N : Nat} {G : Nat → Prop} {S : St} {c : Nat → List UInt8} (h : Rst w0 w b lb N G S false) (hq : Quiet S c) (hN : N < 400000) (v : Value) (ws : List (Int × List UInt8)) (hv : Wrs w v ws) :
    Calls Tryz.prog 11 #[.pointer (some ⟨lb, 0, none⟩), v] w fun e w' => e = .returned (.int .i64 (comE S ws).1) ∧ Rst w0 w' b lb (N + 200) G (comE S ws).2 (decide ((comE S ws).1 = 2)) ∧ SameG G w w' := by
  have ho := h.ops
  obtain ⟨F, h1, h2⟩ := h
  have hc := hq.cnt
  refine (Commit_go h1 hN hq.up (by omega) (fun ps hl h0 => lay_cnt hq (by omega) ps hl h0) v ws hv).mono ?_
  rintro e w' ⟨rfl, hl⟩
  obtain ⟨r1, r2⟩ := hl.rst h2
  exact ⟨rfl, r1, r2⟩
theorem okW_prt {size : Nat} {ws : List (Int × List UInt8)} (h : okW (size : Int) ws) : ∀ p ∈ prtW ws, p.1 < size := by
  intro p hp
  obtain ⟨x, hx, rfl⟩ := List.mem_map.1 hp
  have := h x hx
  simp only
  omega
/-- What a commit comes to, wherever the device stops. -/
theorem com_cases {S : St} {c : Nat → List UInt8} (h : Quiet S c) (hb : S.ops < 9000000000) (ws : List (Int × List UInt8)) (hl : ws.length ≤ 16) (hok : okW ((S.safe.length - 20 : Nat) : Int) ws) :
    (∃ T, comE S ws = (0, T) ∧ Quiet T (over (prtW ws) c) ∧ (∀ n, T.pend n = []) ∧ T.safe.length = S.safe.length ∧ T.fused = S.fused) ∨
    (∃ T, comE S ws = (2, T) ∧ T.down = true ∧ T.safe.length = S.safe.length ∧ ∀ cr, ∃ ns' c', Sound (T.crash cr) ns' c' ∧ ((∀ n, n < S.safe.length - 20 → S.may (20 + n) (c' n)) ∨ ∀ n, n < S.safe.length - 20 → c' n = over (prtW ws) c n)) := by
  have e : comE S ws = S.commitJ (prtW ws) := by unfold comE; rw [if_neg (by omega), if_pos hok]
  rw [e]
  have hpl : (prtW ws).length = ws.length := List.length_map _
  exact commit_cases h (prtW ws) (by omega) (okW_prt hok) (by omega) fun T hT => by
    have := lay_le S (prtW ws)
    rw [hT] at this
    simp only at this
    omega
theorem com_free {S : St} {c : Nat → List UInt8} (h : Quiet S c) (hf : Free S) (hb : S.ops < 9000000000) (ws : List (Int × List UInt8)) (hl : ws.length ≤ 16) (hok : okW ((S.safe.length - 20 : Nat) : Int) ws) :
    ∃ T, comE S ws = (0, T) ∧ Quiet T (over (prtW ws) c) ∧ (∀ n, T.pend n = []) ∧ T.safe.length = S.safe.length ∧ Free T := by
  have e : comE S ws = S.commitJ (prtW ws) := by unfold comE; rw [if_neg (by omega), if_pos hok]
  have hpl : (prtW ws).length = ws.length := List.length_map _
  rw [e]
  exact commit_free h hf (prtW ws) (by omega) (okW_prt hok) (by omega) fun T hT => by
    have := lay_le S (prtW ws)
    rw [hT] at this
    simp only at this
    omega

theorem Crash_r {w0 w : World} {b N : Nat} {G : Nat → Prop} {S : St} (h : RstD w0 w b N G S) (hN : N < 800000) (ps : List Int) (v : Value) (hv : Ints w0 v ps) :
    Calls Tryz.prog 18 #[.pointer (some ⟨b, 0, none⟩), v] w fun e w' => e = .returned (.tuple #[]) ∧ RstD w0 w' b N G (S.crash ps) ∧ SameG G w w' := by
  obtain ⟨F, h1, h2⟩ := h
  refine (Crash_run h1 hN ps v hv).mono ?_
  rintro e w' ⟨rfl, r1, k1⟩
  have := k1.size
  exact ⟨rfl, ⟨F, r1, fun j hj => ⟨by have := (h2 j hj).1; omega, (h2 j hj).2⟩⟩, k1.size, fun q hq => k1.block q (h2 q hq).1 (h2 q hq).2⟩
theorem Fuse_r {w0 w : World} {b lb N : Nat} {G : Nat → Prop} {S : St} {dn : Bool} (h : Rst w0 w b lb N G S dn) (k : Int) (k1 : -9223372036854775808 ≤ k) (k2 : k < 9223372036854775808) :
    Calls Tryz.prog 15 #[.pointer (some ⟨b, 0, none⟩), .int .i64 k] w fun e w' => e = .returned (.int .i64 (if S.down then 2 else 0)) ∧ Rst w0 w' b lb N G (S.fuseK k) dn ∧ SameG G w w' := by
  obtain ⟨F, h1, h2⟩ := h
  refine (Fuse_run h1.run k k1 k2).mono ?_
  rintro e w' ⟨rfl, r1, kk⟩
  have hs := kk.size
  refine ⟨rfl, ⟨F, ⟨r1, ?_, h1.lo, h1.off⟩, fun j hj => ⟨by have := (h2 j hj).1; omega, (h2 j hj).2⟩⟩, kk.size, fun q hq => kk.block q (h2 q hq).1 (h2 q hq).2.1⟩
  rw [St.fuseK_len]
  exact h1.log.of (kk.block lb h1.log.lt h1.off)
theorem Down_r {w0 w : World} {b N : Nat} {G : Nat → Prop} {S : St} (h : RstD w0 w b N G S) :
    Calls Tryz.prog 7 #[.pointer (some ⟨b, 0, none⟩)] w fun e w' => e = .returned (.bool S.down) ∧ w = w' := by
  obtain ⟨F, h1, h2⟩ := h
  exact Down_run h1
/-- Open, wherever the device stops. -/
theorem Open_r {w0 w : World} {b N : Nat} {G : Nat → Prop} {S : St} {ns : List Nat} {c : Nat → List UInt8} (h : RstD w0 w b N G S) (hs : Sound S ns c) (hN : N < 400000) :
    Calls Tryz.prog 19 #[.pointer (some ⟨b, 0, none⟩)] w fun e w' => SameG G w w' ∧
      (((S.openJ ((S.safe.length - 20 : Nat) : Int)).1 = 0 ∧ ∃ lb, e = .returned (.tuple #[.pointer (some ⟨lb, 0, none⟩), .int .i64 0]) ∧ Rst w0 w' b lb (N + 100) G (S.openJ ((S.safe.length - 20 : Nat) : Int)).2 false) ∨
       ((S.openJ ((S.safe.length - 20 : Nat) : Int)).1 ≠ 0 ∧ e = .returned (.tuple #[.pointer none, .int .i64 (S.openJ ((S.safe.length - 20 : Nat) : Int)).1]) ∧ RstD w0 w' b (N + 100) G (S.openJ ((S.safe.length - 20 : Nat) : Int)).2)) := by
  have ho := h.ops
  obtain ⟨F, h1, h2⟩ := h
  refine (Open_go h1 (by omega) (by have := hs.cnt; omega)).mono ?_
  rintro e w' hp
  have hG : ∀ (F' : Nat → Prop), (∀ j, F' j → F j ∨ w.heap.size ≤ j) → ∀ j, G j → ¬ F' j := fun F' hF' j hj hf => (hF' j hf).elim (h2 j hj).2 fun h => by have := (h2 j hj).1; omega
  rcases hp with ⟨e0, lb, F', rfl, hlb, l, f, k⟩ | ⟨e0, rfl, F', r, f, k⟩
  · have hs := k.size
    exact ⟨⟨hs, fun q hq => k.block q (h2 q hq).1 (h2 q hq).2⟩, .inl ⟨e0, lb, rfl, F', l, fun j hj => ⟨by have := (h2 j hj).1; omega, hG F' f j hj, by have := (h2 j hj).1; omega⟩⟩⟩
  · have hs := k.size
    exact ⟨⟨hs, fun q hq => k.block q (h2 q hq).1 (h2 q hq).2⟩, .inr ⟨e0, rfl, F', r, fun j hj => ⟨by have := (h2 j hj).1; omega, hG F' f j hj⟩⟩⟩
/-- Open where there is no fuse. -/
theorem Open_f {w0 w : World} {b N : Nat} {G : Nat → Prop} {S : St} {ns : List Nat} {c : Nat → List UInt8} (h : RstD w0 w b N G S) (hs : Sound S ns c) (hf : Free S) (hN : N < 400000) :
    Calls Tryz.prog 19 #[.pointer (some ⟨b, 0, none⟩)] w fun e w' => SameG G w w' ∧ ∃ lb T, e = .returned (.tuple #[.pointer (some ⟨lb, 0, none⟩), .int .i64 0]) ∧ Rst w0 w' b lb (N + 100) G T false ∧ Quiet T c ∧ (∀ n, T.pend n = []) ∧ T.safe.length = S.safe.length ∧ Free T := by
  have ho := h.ops
  obtain ⟨T, t1, t2, t3, t4, t5⟩ := open_free hs hf fun U hU => by have := wait_le hs U hU; omega
  refine (Open_r h hs hN).mono ?_
  rintro e w' ⟨sg, hp⟩
  rw [t1] at hp
  rcases hp with ⟨_, lb, e1, r⟩ | ⟨e0, _⟩
  · exact ⟨sg, lb, T, e1, r, t2, t3, t4, t5⟩
  · exact absurd rfl e0
theorem laid_r (w0 w : World) (hb : Below w0.heap.size w0 w) (n : Nat) (h1 : 64 ≤ n) (h2 : n ≤ 512) :
    Calls Tryz.prog 5 #[.int .i64 (n : Int)] w fun e w' => ∃ b lb T, e = .returned (.tuple #[.pointer (some ⟨b, 0, none⟩), .pointer (some ⟨lb, 0, none⟩)]) ∧ Rst w0 w' b lb 2200 (fun _ => False) T false ∧ Quiet T zeros ∧ (∀ k, T.pend k = []) ∧ T.safe.length = n ∧ Free T := by
  refine (laid_go w0 w hb n h1 h2).mono ?_
  rintro e w' ⟨b, lb, F, T, rfl, hf, _⟩
  exact ⟨b, lb, T, rfl, ⟨F, hf.at_, fun _ h => h.elim⟩, hf.quiet, hf.none, hf.len, hf.free⟩
theorem Size_r {w0 w : World} {b lb N : Nat} {G : Nat → Prop} {S : St} {dn : Bool} (h : Rst w0 w b lb N G S dn) : Calls Tryz.prog 17 #[.pointer (some ⟨lb, 0, none⟩)] w fun e w' => e = .returned (.int .i64 ((S.safe.length - 20 : Nat) : Int)) ∧ w' = w := by
  obtain ⟨F, h1, h2⟩ := h
  exact Size_any w lb _ h1.log.c1
end Go.Proofs.YtfnhhjpebilacaaGreat

/-
  DERIVED. The law's raw blocks: how a slice of them is opened; a row of blocks to be written, of one's own.
-/
namespace Go.Proofs.YtfnhhjpebilacaaGreat
open Go.ChangeShapes Go.WideShapes Go.ChangeAt Go.RowKit
set_option linter.unusedVariables false

/-- A raw block, as it reads. -/
structure On where
  n : Int
  fill : Int
  head : ByteArray
instance : Inhabited On := ⟨⟨0, 0, ByteArray.empty⟩⟩
abbrev I64 (x : Int) : Prop := -9223372036854775808 ≤ x ∧ x < 9223372036854775808
structure OnAt (w : World) (b o : Nat) (c : On) : Prop where
  c0 : w.cell? ⟨b, o, none⟩ = some (.int .i64 c.n)
  c1 : w.cell? ⟨b, o + 1, none⟩ = some (.int .i64 c.fill)
  c2 : w.cell? ⟨b, o + 2, none⟩ = some (.string c.head)
  i0 : I64 c.n
  i1 : I64 c.fill
/-- A slice of raw blocks. -/
def OnL (w : World) (v : Value) (l : List On) : Prop :=
  ∃ ao cap, v = .slice ao l.length cap ∧ l.length ≤ cap ∧ cap ≤ 9223372036854775807 ∧ (0 < l.length → ∃ b off, ao = some ⟨b, off, none⟩ ∧ b < w.heap.size ∧ ∀ i, (h : i < l.length) → OnAt w b (off + i * 3) l[i])
theorem OnAt.below {B : Nat} {w w' : World} {b o : Nat} {c : On} (h : OnAt w b o c) (hb : Below B w w') (hlt : b < B) : OnAt w' b o c :=
  { c0 := (hb.cell (p := ⟨b, _, none⟩) hlt).trans h.c0, c1 := (hb.cell (p := ⟨b, _, none⟩) hlt).trans h.c1, c2 := (hb.cell (p := ⟨b, _, none⟩) hlt).trans h.c2, i0 := h.i0, i1 := h.i1 }
theorem OnL.below {B : Nat} {w w' : World} {v : Value} {l : List On} (h : OnL w v l) (hb : Below B w w') (hB : w.heap.size ≤ B) : OnL w' v l := by
  obtain ⟨ao, cap, rfl, h1, h1', h2⟩ := h
  refine ⟨ao, cap, rfl, h1, h1', fun hn => ?_⟩
  obtain ⟨b, off, e, hlt, hc⟩ := h2 hn
  exact ⟨b, off, e, by have := hb.size; omega, fun i hi => (hc i hi).below hb (by omega)⟩
theorem Tryz.cellsOn : Tryz.prog.cellsOf 46 = 3 := by kernel_rfl
theorem Tryz.cellsStrJ : Tryz.prog.cellsOf 9 = 1 := by kernel_rfl
theorem Tryz.cellsIntJ : Tryz.prog.cellsOf 3 = 1 := by kernel_rfl
theorem Tryz.underOn : ∃ f0 f1 f2, Tryz.prog.underlying 46 = some (.struct #[f0, f1, f2]) ∧ (f0.offset = 0 ∧ f1.offset = 1 ∧ f2.offset = 2) ∧ f0.type = 3 ∧ f1.type = 3 ∧ f2.type = 9 := ⟨_, _, _, Tryz.underlying46, ⟨rfl, rfl, rfl⟩, rfl, rfl, rfl⟩

set_option maxRecDepth 100000 in
theorem open_ones {H : Type} {enc : TypeId × Value → H} {W : World} {a : Option Addr} {n c : Nat} {d : DataW H} {p : List MemPlace}
    (h : DataW.Trod enc Tryz.prog W 0 (fun _ => true) true 30 (.slice a n c) d p) : ∃ l : List On, OnL W (.slice a n c) l := by
  obtain ⟨fuel, hf⟩ := h
  obtain ⟨f0, f1, f2, hu, ⟨o0, o1, o2⟩, t0, t1, t2⟩ := Tryz.underOn
  rcases Go.Deep.open_slice Tryz.underlying30 hf with ⟨hcs, hx⟩ | ⟨x, n', cap, m, k, D, Pl, hcs, _, hl, hm, hz, hx, hcell⟩
  · simp [Value.cells] at hcs
    obtain ⟨rfl, rfl, rfl⟩ := hcs
    exact ⟨[], none, 0, rfl, by simp, by omega, fun h => by simp at h⟩
  · simp [Value.cells] at hcs
    obtain ⟨rfl, rfl, rfl⟩ := hcs
    rw [if_pos rfl] at hz
    subst hz
    unfold maxLen at hm
    have hel : ∀ i, i < n → ∃ e : On, I64 e.n ∧ I64 e.fill ∧ W.cell? (x.add (i * 3)) = some (.int .i64 e.n) ∧ W.cell? (x.add (i * 3 + 1)) = some (.int .i64 e.fill) ∧ W.cell? (x.add (i * 3 + 2)) = some (.string e.head) := by
      intro i hi
      obtain ⟨cs, q1, q2⟩ := hcell i (by omega)
      rw [Tryz.cellsOn] at q1
      obtain ⟨_, hlen, hc⟩ := World.cells?_some q1
      match cs, hlen with
      | [c0, c1, c2], _ =>
        obtain ⟨xs, k', _, _, _, hxl, hfl⟩ := DataW.trod_struct hu q2
        match xs, hxl with
        | [x0, x1, x2], _ =>
          have g0 := hfl 0 f0 rfl
          have g1 := hfl 1 f1 rfl
          have g2 := hfl 2 f2 rfl
          rw [o0, t0, Tryz.cellsIntJ] at g0
          rw [o1, t1, Tryz.cellsIntJ] at g1
          rw [o2, t2, Tryz.cellsStrJ] at g2
          obtain ⟨s0, e0, _, w0⟩ := DataW.trod_int Tryz.underlying3 g0
          obtain ⟨s1, e1, _, w1⟩ := DataW.trod_int Tryz.underlying3 g1
          obtain ⟨s2, e2, _, w2⟩ := DataW.trod_string Tryz.underlying9 g2
          simp at e0 e1 e2
          subst e0 e1 e2
          have k0 := hc 0 (by omega)
          have k1 := hc 1 (by omega)
          have k2 := hc 2 (by omega)
          rw [Go.Deep.add_add] at k0 k1 k2
          have b0 := bounds_i64 w0
          have b1 := bounds_i64 w1
          have B0 : I64 s0 := ⟨by omega, by omega⟩
          have B1 : I64 s1 := ⟨by omega, by omega⟩
          exact ⟨⟨s0, s1, s2⟩, B0, B1, k0, k1, k2⟩
    obtain ⟨F, hF⟩ := Go.Deep.choose_lt (α := On) hel
    have hlen : ((List.range n).map F).length = n := by simp
    refine ⟨(List.range n).map F, some x, _, by rw [hlen], by rw [hlen]; omega, by omega, fun hz => ?_⟩
    rw [hlen] at hz
    have h0 := (hF 0 (by omega)).2.2.1
    have hsp := World.cell?_spot h0
    obtain ⟨b, off, sp⟩ := x
    have hsp' : sp = none := by
      cases sp with
      | none => rfl
      | some k => simp [Addr.add] at hsp
    subst hsp'
    refine ⟨b, off, rfl, ?_, fun i hi => ?_⟩
    · rw [addr_add] at h0
      exact World.block_lt_of_cell? W ⟨b, off + 0 * 3, none⟩ h0
    · have hi' : i < n := by rw [hlen] at hi; exact hi
      obtain ⟨j0, j1, q0, q1, q2⟩ := hF i hi'
      rw [addr_add] at q0 q1 q2
      have e : ((List.range n).map F)[i] = F i := by simp
      rw [e]
      simp only [← Nat.add_assoc] at q1 q2
      exact { c0 := q0, c1 := q1, c2 := q2, i0 := j0, i1 := j1 }

/-! ### A row of writes -/
/-- A write's value: its block, its bytes' slice. -/
abbrev wv (q : Nat) : Value := .slice (some ⟨q, 0, none⟩) 512 512
def wcells (xs : List (Int × Nat)) : List Value := xs.flatMap fun x => [.int .i64 x.1, wv x.2]
theorem wcells_cons (x : Int × Nat) (xs : List (Int × Nat)) : wcells (x :: xs) = .int .i64 x.1 :: wv x.2 :: wcells xs := rfl
theorem wcells_snoc (xs : List (Int × Nat)) (x : Int × Nat) : wcells (xs ++ [x]) = wcells xs ++ [.int .i64 x.1, wv x.2] := by simp [wcells]
theorem wcells_one (xs : List (Int × Nat)) : ∀ u ∈ wcells xs, u.oneCell' = true := by
  intro u hu
  obtain ⟨x, _, hx⟩ := List.mem_flatMap.1 hu
  rcases List.mem_cons.1 hx with rfl | hx
  · rfl
  · rcases List.mem_cons.1 hx with rfl | hx
    · rfl
    · cases hx
theorem wcells_len : ∀ xs : List (Int × Nat), (wcells xs).length = xs.length * 2
  | [] => rfl
  | x :: xs => by rw [wcells_cons, List.length_cons, List.length_cons, wcells_len xs, List.length_cons]; omega
theorem wcells_at : ∀ (xs : List (Int × Nat)) (i : Nat) (h : i < xs.length), (wcells xs)[i * 2]? = some (.int .i64 xs[i].1) ∧ (wcells xs)[i * 2 + 1]? = some (wv xs[i].2)
  | [], i, h => by simp at h
  | x :: xs, 0, _ => ⟨rfl, rfl⟩
  | x :: xs, i + 1, h => by
    have ih := wcells_at xs i (by simpa using h)
    rw [wcells_cons, show (i + 1) * 2 = i * 2 + 1 + 1 by omega, show i * 2 + 1 + 1 + 1 = (i * 2 + 1) + 1 + 1 by omega]
    simp only [List.getElem?_cons_succ, List.getElem_cons_succ]
    exact ih
def WOwn (w : World) (base : Nat) (v : Value) (xs : List (Int × Nat)) : Prop := w.ownsRow base 42 2 v xs.length (wcells xs)
theorem WOwn.nil (w : World) (base : Nat) : WOwn w base (.slice none 0 0) [] := World.ownsRow_nil w _ _ _
theorem WOwn.keptB {W W' : World} {base : Nat} {v : Value} {xs : List (Int × Nat)} (h : WOwn W base v xs) (hk : ∀ q, v.ownBlock = some q → q < W.heap.size → W'.heap[q]? = W.heap[q]?) : WOwn W' base v xs := by
  obtain ⟨h1, h2⟩ := h
  refine ⟨h1, ?_⟩
  rcases h2 with h2 | ⟨g, cap, cur, rfl, hb, hgb, r⟩
  · exact .inl h2
  · exact .inr ⟨g, cap, cur, rfl, hb, (hk g rfl (lt_of_block hgb)).trans hgb, r⟩
theorem WOwn.row {W : World} {base : Nat} {v : Value} {xs : List (Int × Nat)} (h : WOwn W base v xs) {q : Nat} (hq : v.ownBlock = some q) : base ≤ q ∧ ∃ cur, W.heap[q]? = some (.cells cur 42 (0, 0)) := by
  rcases h.2 with ⟨rfl, _⟩ | ⟨g, cap, cur, rfl, hb, hg, r⟩
  · cases hq
  · cases hq; exact ⟨hb, cur, hg⟩
theorem WOwn.form {w : World} {base : Nat} {v : Value} {xs : List (Int × Nat)} (h : WOwn w base v xs) : ∃ ao cap, v = .slice ao xs.length cap ∧ xs.length ≤ cap ∧ cap ≤ 9223372036854775807 ∧ (xs.length ≠ 0 → ∃ g, ao = some ⟨g, 0, none⟩ ∧ base ≤ g ∧ g < w.heap.size ∧ ∀ i, (h : i < xs.length) → w.cell? ⟨g, i * 2, none⟩ = some (.int .i64 xs[i].1) ∧ w.cell? ⟨g, i * 2 + 1, none⟩ = some (wv xs[i].2)) := by
  rcases h.2 with ⟨rfl, h0⟩ | ⟨g, cap, cur, rfl, hb, hg, hn, hm, hs, ht⟩
  · exact ⟨none, 0, by rw [h0], by omega, by omega, fun h => absurd h0 h⟩
  · refine ⟨some ⟨g, 0, none⟩, cap, rfl, hn, by unfold maxLen at hm; omega, fun _ => ⟨g, rfl, hb, lt_of_block hg, fun i hi => ?_⟩⟩
    obtain ⟨e1, e2⟩ := wcells_at xs i hi
    have at' : ∀ j, j < xs.length * 2 → cur[j]? = (wcells xs)[j]? := fun j hj => by
      have e : (cur.toList.take (xs.length * 2))[j]? = (wcells xs)[j]? := by rw [ht]
      rw [List.getElem?_take_of_lt (by omega)] at e
      simpa using e
    constructor
    · rw [cell_of_row _ _ _ _ _ _ hg, at' _ (by omega), e1]
    · rw [cell_of_row _ _ _ _ _ _ hg, at' _ (by omega), e2]
theorem Tryz.infoWrite : (Tryz.prog.info? 42).map (fun i => (i.zero, i.size, i.bytes)) = some (some (.agg #[.int .i64 0, .slice none 0 0]), 2, 32) := by kernel_rfl
theorem run_append_write (w : World) (base : Nat) (ty : TypeId) (v : Value) (xs : List (Int × Nat)) (hown : WOwn w base v xs) (hb : base ≤ w.heap.size) (hl : xs.length ≤ 4398046511000) (ad : Addr) (c : Nat) (x : Int × Nat)
    (hc : ∀ j u, ([.int .i64 x.1, wv x.2] : List Value)[j]? = some u → w.cell? (ad.add j) = some u) :
    ∃ v' w', (Builtin.append_ #[43, 43] ty #[v, .slice (some ad) 1 c]).run Tryz.prog w = .ok v' w' ∧ WOwn w' base v' (xs ++ [x]) ∧ w.grownBy w' v.ownBlock := by
  obtain ⟨i0, hi, hh⟩ := Option.map_eq_some_iff.1 Tryz.infoWrite
  simp only [Prod.mk.injEq] at hh
  have h1c : ∀ u ∈ ([.int .i64 x.1, wv x.2] : List Value), u.oneCell' = true := by
    have := wcells_one [x]
    simpa [wcells] using this
  obtain ⟨v', w', hr, r1, r2, _⟩ := run_append_own (P := Tryz.prog) w base 43 ty 42 i0 (.agg #[.int .i64 0, .slice none 0 0]) 2 32 Tryz.underlying43 hi hh.1 hh.2.1 hh.2.2 rfl (by decide) v xs.length (wcells xs) hown ad 1 c _ rfl hc h1c (by unfold maxLen; omega) (by omega) hb
  exact ⟨v', w', hr, by unfold WOwn; rw [wcells_snoc, List.length_append]; exact r1, r2⟩
/-- An append of a write, as one step of a region that draws. -/
theorem step_append_write {ops : Array Oper} {o : Oper} {a : Act} {w : World} {K : Act → World → Prop} {Q : Exit → Act → World → Prop} {E : Prop}
    (hg : o.guard = none) (s x : Operand) (ho : o.op = .call { callee := .builtin .append, args := #[s, x], argTypes := #[43, 43] })
    (base : Nat) (v : Value) (xs : List (Int × Nat)) (hs : a.eval s = v) (hown : WOwn w base v xs) (hl : xs.length ≤ 4398046511000) (hbase : base ≤ w.heap.size)
    (ad : Addr) (c : Nat) (y : Int × Nat) (hx : a.eval x = .slice (some ad) 1 c) (hc : ∀ j u, ([.int .i64 y.1, wv y.2] : List Value)[j]? = some u → w.cell? (ad.add j) = some u)
    (hK : ∀ v' w', WOwn w' base v' (xs ++ [y]) → w.grownBy w' v.ownBlock → K (a.put o.dst v') w') :
    if Region.wanted o (yielded ops a.tmps) = true then Oper.wp Tryz.prog o a w K Q else E := by
  have hw : Region.wanted o (yielded ops a.tmps) = true := by simp [Region.wanted, hg]
  rw [if_pos hw]
  obtain ⟨v', w', hrun, r1, r2⟩ := run_append_write w base o.type v xs hown hbase hl ad c y hc
  unfold Oper.wp
  simp [execOp, ho, resolve, invoke, builtin, hs, hx, hrun, Result.andThen]
  exact hK v' w' r1 r2
theorem write_cells (w : World) (x : Int) (q : Nat) : ∀ j u, ([.int .i64 x, wv q] : List Value)[j]? = some u → (w.alloc (.cells #[.int .i64 x, wv q] 42)).cell? ((⟨w.heap.size, 0, none⟩ : Addr).add j) = some u := by
  intro j u hj
  rw [addr_add, cell_of_row _ _ _ _ _ _ (heap_alloc_new _ _), Nat.zero_add, ← hj]
  simp
end Go.Proofs.YtfnhhjpebilacaaGreat

/-
  DERIVED. within: raw blocks, as blocks of a log to be written.
-/
namespace Go.Proofs.YtfnhhjpebilacaaGreat
open Go.RowKit
set_option linter.unusedVariables false
set_option maxRecDepth 20000

theorem Pick_44 (p : Int) (w : World) (p1 : -9223372036854775808 ≤ p) (p2 : p < 9223372036854775808) :
    Calls Tryz.prog 29 #[.int .i64 p, .int .i64 44] w fun e w' => e = .returned (.int .i64 (pickR p 43 : Nat)) ∧ w = w' := Pick_eq p 43 w p1 p2 (by omega)
/-- What a raw block stands for. -/
def onW (o : On) : Int × List UInt8 := ((pickR o.n 43 : Nat), headL o.head (fillL (UInt8.ofNat (pickR o.fill 255)) 512))
theorem onW_len (o : On) : (onW o).2.length = 512 := headL_len _ _
theorem onW_in (o : On) : 0 ≤ (onW o).1 ∧ (onW o).1 < 44 := by
  have := pickR_lt o.n 43
  show (0 : Int) ≤ ((pickR o.n 43 : Nat) : Int) ∧ ((pickR o.n 43 : Nat) : Int) < 44
  omega
/-- The blocks' bytes, each in memory of its own. -/
def Dat (w : World) (base : Nat) (xs : List (Int × Nat)) (ws : List (Int × List UInt8)) : Prop :=
  xs.length = ws.length ∧ ∀ i (h1 : i < xs.length) (h2 : i < ws.length), xs[i].1 = ws[i].1 ∧ base ≤ xs[i].2 ∧ w.heap[xs[i].2]? = some (.cells ((ws[i]).2.map bv).toArray 5 (0, 0))
theorem Dat.nil (w : World) (base : Nat) : Dat w base [] [] := ⟨rfl, fun i h => by simp at h⟩
theorem Dat.snoc {w : World} {base : Nat} {xs : List (Int × Nat)} {ws : List (Int × List UInt8)} (h : Dat w base xs ws) (x : Int) (q : Nat) (L : List UInt8) (hq : base ≤ q) (hr : w.heap[q]? = some (.cells (L.map bv).toArray 5 (0, 0))) : Dat w base (xs ++ [(x, q)]) (ws ++ [(x, L)]) := by
  refine ⟨by simp [h.1], fun i h1 h2 => ?_⟩
  by_cases hi : i < xs.length
  · have hi2 : i < ws.length := by rw [← h.1]; exact hi
    rw [List.getElem_append_left hi, List.getElem_append_left hi2]
    exact h.2 i hi hi2
  · have e1 : i = xs.length := by simp at h1; omega
    subst e1
    have e2 : xs.length = ws.length := h.1
    rw [List.getElem_append_right (Nat.le_refl _), List.getElem_append_right (by omega)]
    simp only [Nat.sub_self, e2, List.getElem_cons_zero]
    exact ⟨trivial, hq, hr⟩
theorem Dat.kept {w w' : World} {base : Nat} {xs : List (Int × Nat)} {ws : List (Int × List UInt8)} (h : Dat w base xs ws) (hk : ∀ (q : Nat) (cs : Array Value), w.heap[q]? = some (.cells cs 5 (0, 0)) → w'.heap[q]? = w.heap[q]?) : Dat w' base xs ws :=
  ⟨h.1, fun i h1 h2 => ⟨(h.2 i h1 h2).1, (h.2 i h1 h2).2.1, (hk _ _ (h.2 i h1 h2).2.2).trans (h.2 i h1 h2).2.2⟩⟩

/-- All that within has made lies in new memory. -/
theorem wrs_own {w : World} {base : Nat} {v : Value} {xs : List (Int × Nat)} {ws : List (Int × List UInt8)} (h : WOwn w base v xs) (hd : Dat w base xs ws) (hw : ∀ p ∈ ws, p.2.length = 512 ∧ -9223372036854775808 ≤ p.1 ∧ p.1 ≤ 9223372036854775807) : WrsG w (fun j => base ≤ j ∧ j < w.heap.size) v ws := by
  intro w' hs
  obtain ⟨ao, cap, e, h1, h2, h4⟩ := h.form
  refine ⟨ao, cap, by rw [e, hd.1], by rw [← hd.1]; exact h1, h2, hw, fun hn => ?_⟩
  obtain ⟨g, e2, hb, hlt, hc⟩ := h4 (by rw [hd.1]; exact hn)
  have hbg := hs.2 g ⟨hb, hlt⟩
  refine ⟨g, 0, e2, by have := hs.1; omega, fun i hi => ?_⟩
  have hi2 : i < xs.length := by rw [hd.1]; exact hi
  obtain ⟨c0, c1⟩ := hc i hi2
  obtain ⟨d0, d1, d2⟩ := hd.2 i hi2 hi
  refine ⟨some ⟨xs[i].2, 0, none⟩, 512, ?_, ?_, ?_⟩
  · rw [Nat.zero_add, World.cell?_of_block hbg, c0, d0]
  · rw [Nat.zero_add, World.cell?_of_block hbg, c1]
  · exact sl_block ((hs.2 _ ⟨d1, lt_of_block d2⟩).trans d2) (hw _ (List.getElem_mem hi)).1

/-- What within makes of raw blocks. -/
def withL (os : List On) : List (Int × List UInt8) := (os.take 16).map onW
end Go.Proofs.YtfnhhjpebilacaaGreat

/-
  DERIVED. A log that rests, read: Jstr without its arrays of strings (a program that has no such array).
-/
namespace Go.Proofs.YtfnhhjpebilacaaGreat
open Go.RowKit
set_option linter.unusedVariables false
set_option maxRecDepth 20000

/-- One more block written. -/
theorem over_snoc (ps : List (Nat × List UInt8)) (p : Nat × List UInt8) (f : Nat → List UInt8) : over (ps ++ [p]) f = fun m => if m = p.1 then p.2 else over ps f m := by simp [over]

/-- A log that rests: nothing is pending, no fuse. -/
structure Lull (w0 w : World) (b lb N : Nat) (G : Nat → Prop) (S : St) (c : Nat → List UInt8) : Prop where
  rst : Rst w0 w b lb N G S false
  quiet : Quiet S c
  free : Free S
  none : ∀ k, S.pend k = []
  len : S.safe.length = 64
theorem Lull.only {w0 w w' : World} {b lb N : Nat} {G : Nat → Prop} {S : St} {c : Nat → List UInt8} (h : Lull w0 w b lb N G S c) {x : Nat} (ho : Only x w w') (hx : G x) (hw : w0.heap.size ≤ x) : Lull w0 w' b lb N G S c := { h with rst := h.rst.only ho hx hw }
theorem Lull.grown {w0 w w' : World} {b lb N : Nat} {G H : Nat → Prop} {S : St} {c : Nat → List UInt8} (h : Lull w0 w b lb N G S c) (hb : Below w.heap.size w w') (hH : ∀ j, H j → G j ∨ (w.heap.size ≤ j ∧ j < w'.heap.size)) : Lull w0 w' b lb N H S c := { h with rst := h.rst.grown hb hH }
theorem Lull.mono {w0 w : World} {b lb N M : Nat} {G : Nat → Prop} {S : St} {c : Nat → List UInt8} (h : Lull w0 w b lb N G S c) (hM : N ≤ M) : Lull w0 w b lb M G S c := { h with rst := h.rst.mono hM }
theorem laid_l (w0 w : World) (hb : Below w0.heap.size w0 w) :
    Calls Tryz.prog 5 #[.int .i64 64] w fun e w' => ∃ b lb T, e = .returned (.tuple #[.pointer (some ⟨b, 0, none⟩), .pointer (some ⟨lb, 0, none⟩)]) ∧ Lull w0 w' b lb 2200 (fun _ => False) T zeros := by
  refine (laid_r w0 w hb 64 (by omega) (by omega)).mono ?_
  rintro e w' ⟨b, lb, T, rfl, r, q, n, l, f⟩
  exact ⟨b, lb, T, rfl, r, q, f, n, l⟩
theorem Read_l {w0 w : World} {b lb N : Nat} {G : Nat → Prop} {S : St} {c : Nat → List UInt8} (h : Lull w0 w b lb N G S c) (hN : N < 800000) (n : Nat) (hn : n < 44) :
    Calls Tryz.prog 8 #[.pointer (some ⟨lb, 0, none⟩), .int .i64 (n : Int)] w fun e w' => SameG G w w' ∧
      ∃ q, e = .returned (.tuple #[.slice (some ⟨q, 0, none⟩) 512 512, .int .i64 0]) ∧ w.heap.size ≤ q ∧ w'.heap[q]? = some (.cells ((c n).map bv).toArray 84 (0, 0)) ∧ (c n).length = 512 ∧ Lull w0 w' b lb (N + 2) G S.burn c := by
  refine (Read_f h.rst h.quiet h.free hN n (by rw [h.len]; exact hn)).mono ?_
  rintro e w' ⟨sg, q, rfl, hq, hr, h5, r⟩
  exact ⟨sg, q, rfl, hq, hr, h5, r.less fun j hj => .inl hj, h.quiet.burn h.free, h.free.burn, h.none, h.len⟩
theorem Rst.gl {w0 w : World} {b lb N : Nat} {G : Nat → Prop} {S : St} {dn : Bool} (h : Rst w0 w b lb N G S dn) {x : Nat} (hx : G x) : x < w.heap.size := by
  obtain ⟨F, _, h2⟩ := h
  exact (h2 x hx).1
/-- Blocks written so far. -/
def upF (c : Nat → List UInt8) (j : Nat) : Nat → List UInt8 := fun m => if m < j then c m else []
theorem upF_zero (c : Nat → List UInt8) : upF c 0 = fun _ => [] := by funext m; simp [upF]
theorem upF_set (c : Nat → List UInt8) (j : Nat) (m : Nat) : (if m = j then c j else upF c j m) = upF c (j + 1) m := by
  unfold upF
  by_cases e : m = j
  · subst e; simp
  · by_cases h : m < j
    · rw [if_neg e, if_pos h, if_pos (by omega)]
    · rw [if_neg e, if_neg h, if_neg (by omega)]
theorem upF_full (c : Nat → List UInt8) (m : Nat) (h : m < 44) : upF c 44 m = c m := by unfold upF; rw [if_pos h]
theorem SameG.only {G : Nat → Prop} {w w' : World} {x : Nat} (ho : Only x w w') (hx : ¬ G x) : SameG G w w' := ⟨by rw [ho.size]; exact Nat.le_refl _, fun q hq => ho.other q fun e => hx (e ▸ hq)⟩
theorem okW_with (os : List On) : okW ((64 - 20 : Nat) : Int) (withL os) ∧ (withL os).length ≤ 16 := by
  refine ⟨fun p hp => ?_, by unfold withL; rw [List.length_map, List.length_take]; omega⟩
  obtain ⟨o, _, rfl⟩ := List.mem_map.1 hp
  exact onW_in o
theorem Commit_l {w0 w : World} {b lb N : Nat} {G : Nat → Prop} {S : St} {c : Nat → List UInt8} (h : Lull w0 w b lb N G S c) (hN : N < 400000) (v : Value) (os : List On) (hv : Wrs w v (withL os)) :
    Calls Tryz.prog 11 #[.pointer (some ⟨lb, 0, none⟩), v] w fun e w' => e = .returned (.int .i64 0) ∧ SameG G w w' ∧ ∃ T, Lull w0 w' b lb (N + 200) G T (over (prtW (withL os)) c) := by
  have ho := h.rst.ops
  have hok := okW_with os
  obtain ⟨T, t1, t2, t3, t4, t5⟩ := com_free h.quiet h.free (by omega) (withL os) hok.2 (by rw [h.len]; exact hok.1)
  refine (Commit_r h.rst h.quiet hN v _ hv).mono ?_
  rintro e w' ⟨rfl, r, sg⟩
  rw [t1] at r ⊢
  exact ⟨rfl, sg, T, r, t2, t5, t3, t4.trans h.len⟩
/-- A commit with a fuse, and a crash behind it. -/
structure Half (S : St) (c : Nat → List UInt8) (ws : List (Int × List UInt8)) (p : Int × St) (ps : List Int) (c' : Nat → List UInt8) : Prop where
  ans : (p.1 = 0 ∧ p.2.down = false ∧ ∀ n, n < 44 → c' n = over (prtW ws) c n) ∨ (p.1 = 2 ∧ p.2.down = true ∧ ((∀ n, n < 44 → c' n = c n) ∨ ∀ n, n < 44 → c' n = over (prtW ws) c n))
  sound : ∃ ns, Sound (p.2.crash ps) ns c'
  len : (p.2.crash ps).safe.length = 64
theorem half_of {S : St} {c : Nat → List UInt8} (hq : Quiet S c) (hn : ∀ k, S.pend k = []) (hl : S.safe.length = 64) (hb : S.ops < 9000000) (ws : List (Int × List UInt8)) (hw : ws.length ≤ 16) (hok : okW ((64 - 20 : Nat) : Int) ws) (ps : List Int) :
    ∃ c', Half S c ws (comE S ws) ps c' := by
  rcases com_cases hq (by omega) ws hw (by rw [hl]; exact hok) with ⟨T, t1, t2, t3, t4, t5⟩ | ⟨T, t1, t2, t3, t4⟩
  · rw [t1]
    refine ⟨over (prtW ws) c, .inl ⟨rfl, t2.up, fun _ _ => rfl⟩, ⟨[], (t2.sound t3).crash ps⟩, ?_⟩
    rw [crash_len, t4, hl]
  · rw [t1]
    obtain ⟨ns, c', s, hh⟩ := t4 ps
    refine ⟨c', .inr ⟨rfl, t2, ?_⟩, ⟨ns, s⟩, by rw [crash_len, t3, hl]⟩
    rw [hl] at hh
    rcases hh with hh | hh
    · left
      intro n hn2
      rw [St.may_none (hn _) (hh n hn2), hq.is n (by rw [hl]; exact hn2)]
    · exact .inr hh
theorem Open_l {w0 w : World} {b N : Nat} {G : Nat → Prop} {S : St} {ns : List Nat} {c : Nat → List UInt8} (h : RstD w0 w b N G S) (hs : Sound S ns c) (hf : Free S) (hl : S.safe.length = 64) (hN : N < 400000) :
    Calls Tryz.prog 19 #[.pointer (some ⟨b, 0, none⟩)] w fun e w' => SameG G w w' ∧ ∃ lb T, e = .returned (.tuple #[.pointer (some ⟨lb, 0, none⟩), .int .i64 0]) ∧ Lull w0 w' b lb (N + 100) G T c := by
  refine (Open_f h hs hf hN).mono ?_
  rintro e w' ⟨sg, lb, T, rfl, r, q, n, l, f⟩
  exact ⟨sg, lb, T, rfl, r, q, f, n, l.trans hl⟩
theorem Quiet.fuseK {S : St} {c : Nat → List UInt8} (h : Quiet S c) (k : Int) : Quiet (S.fuseK k) c := h.alike ((Alike.refl S).fuseK k) (by rw [St.fuseK_down]; exact h.up)
end Go.Proofs.YtfnhhjpebilacaaGreat

/-
  DERIVED. The document's log in memory: what it holds; noughts; the errors of one block.
-/
namespace Go.Proofs.YtfnhhjpebilacaaGreat
open Go.RowKit
set_option linter.unusedVariables false
set_option maxRecDepth 20000

set_option maxHeartbeats 2000000 in
theorem Noughts_s (w : World) : Calls Tryz.prog 22 #[] w fun e w' => e = .returned (.string ⟨(List.replicate 512 (0 : UInt8)).toArray⟩) ∧ Below w.heap.size w w' := by
  have mk := run_make_512 w
  have hs := (Row.sl (w := w.alloc (.cells ((List.replicate 512 (0 : UInt8)).map bv).toArray 5)) (g := w.heap.size) (L := List.replicate 512 0) (heap_alloc_self _ _) List.length_replicate).str
  have hb : Below w.heap.size w (w.alloc (.cells ((List.replicate 512 (0 : UInt8)).map bv).toArray 5)) := (Below.refl _ _).alloc (Nat.le_refl _) _
  obtain ⟨s, hse⟩ : ∃ s, s = (⟨(List.replicate 512 (0 : UInt8)).toArray⟩ : ByteArray) := ⟨_, rfl⟩
  obtain ⟨w0, hw0⟩ : ∃ w0, w0 = w.alloc (.cells ((List.replicate 512 (0 : UInt8)).map bv).toArray 5) := ⟨_, rfl⟩
  rw [← hw0] at mk hs hb
  rw [← hse] at hs
  rw [← hse]
  have HB := hide hb
  clear hw0 hse hb
  go_enter Tryz.func22, Tryz.ntmps22
  go_wp2
  go_ret
  exact ⟨rfl, unhide HB⟩
/-- The document's errors of one block. -/
def wrongC (size n : Int) (q : Nat) : Int := if ¬ (0 ≤ n ∧ n < size) then 42 else if q ≠ 512 then 21 else 0
set_option maxHeartbeats 2000000 in
theorem wrong_go (w : World) (rb sz cap : Nat) (ao : Option Addr) (hc : w.cell? ⟨rb, 0, none⟩ = some (.slice ao sz cap)) (hz : (sz : Int) ≤ 9223372036854775807) (n : Int) (a : Option Addr) (q c : Nat) (hq : (q : Int) ≤ 9223372036854775807) :
    Calls Tryz.prog 35 #[.pointer (some ⟨rb, 0, none⟩), .int .i64 n, .slice a q c] w fun e w' => e = .returned (.int .i64 (wrongC sz n q)) ∧ w' = w := by
  have HE : Hid (wrongC sz n q = if ¬ (0 ≤ n ∧ n < (sz : Int)) then 42 else if q ≠ 512 then 21 else 0) := hide rfl
  by_cases h0 : n < 0
  · have e : wrongC sz n q = 42 := by rw [unhide HE, if_pos (by omega)]
    rw [e]
    clear HE e
    go_enter Tryz.func35, Tryz.ntmps35
    go_wp2
    go_ret
    exact ⟨rfl, rfl⟩
  · by_cases h1 : n < (sz : Int)
    · by_cases h5 : q = 512
      · have e : wrongC sz n q = 0 := by rw [unhide HE, if_neg (by omega), if_neg (by omega)]
        rw [e]
        clear HE e
        subst h5
        go_enter Tryz.func35, Tryz.ntmps35
        go_wp2
        go_ret
        exact ⟨rfl, rfl⟩
      · have e : wrongC sz n q = 21 := by rw [unhide HE, if_neg (by omega), if_pos h5]
        have h5' : ¬ (q : Int) = 512 := by omega
        rw [e]
        clear HE e
        go_enter Tryz.func35, Tryz.ntmps35
        go_wp2
        go_ret
        exact ⟨rfl, rfl⟩
    · have e : wrongC sz n q = 42 := by rw [unhide HE, if_pos (by omega)]
      rw [e]
      clear HE e
      go_enter Tryz.func35, Tryz.ntmps35
      go_wp2
      go_ret
      exact ⟨rfl, rfl⟩
end Go.Proofs.YtfnhhjpebilacaaGreat

/-
  DERIVED. The document's log of 44 blocks in memory; one block of it set.
-/
namespace Go.Proofs.YtfnhhjpebilacaaGreat
open Go.RowKit
set_option linter.unusedVariables false
set_option maxRecDepth 20000

def updF {α : Type} (f : Nat → α) (k : Nat) (x : α) : Nat → α := fun n => if n = k then x else f n
theorem range_upd {α : Type} (f : Nat → α) (k : Nat) (x : α) : ((List.range 44).map f).set k x = (List.range 44).map (updF f k x) := by
  apply List.ext_getElem (by simp)
  intro i h1 h2
  rw [List.getElem_set]
  simp only [List.getElem_map, List.getElem_range, updF]
  by_cases e : k = i
  · subst e; simp
  · rw [if_neg e, if_neg (fun h => e h.symm)]
theorem rowF {w w' : World} {e : TypeId} {v : Value} {n : Nat} {xs : List Value} (h : w.ownsRow 0 e 1 v n xs) (hk : ∀ q, v.ownBlock = some q → q < w.heap.size → w'.heap[q]? = w.heap[q]?) : w'.ownsRow 0 e 1 v n xs := by
  obtain ⟨h1, h2⟩ := h
  refine ⟨h1, ?_⟩
  rcases h2 with h2 | ⟨q, cap, cur, rfl, hb, hg, r⟩
  · exact .inl h2
  · exact .inr ⟨q, cap, cur, rfl, hb, (hk q rfl (lt_of_block hg)).trans hg, r⟩
theorem rowL {w : World} {e : TypeId} {v : Value} {n : Nat} {xs : List Value} (h : w.ownsRow 0 e 1 v n xs) {q : Nat} (hq : v.ownBlock = some q) : q < w.heap.size ∧ ∃ cur, w.heap[q]? = some (.cells cur e (0, 0)) := by
  rcases h.2 with ⟨rfl, _⟩ | ⟨g, cap, cur, rfl, hb, hg, r⟩
  · cases hq
  · cases hq; exact ⟨lt_of_block hg, cur, hg⟩
theorem rowSet {w : World} {e : TypeId} {g n cap : Nat} {xs : List Value} (h : w.ownsRow 0 e 1 (.slice (some ⟨g, 0, none⟩) n cap) n xs) (k : Nat) (x : Value) : (w.setCell ⟨g, k, none⟩ x).ownsRow 0 e 1 (.slice (some ⟨g, 0, none⟩) n cap) n (xs.set k x) := by
  obtain ⟨h1, h2⟩ := h
  refine ⟨by rw [List.length_set]; exact h1, ?_⟩
  rcases h2 with ⟨h2, _⟩ | ⟨g', cap', cur, e1, hb, hg, a1, a2, a3, a4⟩
  · cases h2
  · cases e1
    refine .inr ⟨g, cap, cur.setIfInBounds k x, rfl, hb, heap_setCell_same w g k _ _ _ hg, a1, a2, by rw [Array.size_setIfInBounds]; exact a3, ?_⟩
    rw [Array.toList_setIfInBounds, ← a4, List.take_set]
theorem rowCell {w : World} {e : TypeId} {g n cap : Nat} {xs : List Value} (h : w.ownsRow 0 e 1 (.slice (some ⟨g, 0, none⟩) n cap) n xs) (k : Nat) (x : Value) (hx : xs[k]? = some x) : w.cell? ⟨g, k, none⟩ = some x ∧ w.frozen? ⟨g, k, none⟩ = false := by
  have := h.cells (g := g) rfl k x hx
  rw [addr_add, Nat.zero_add] at this
  obtain ⟨_, cur, hg⟩ := rowL h (q := g) rfl
  exact ⟨this, frozen_of_row w g k _ _ hg⟩

def sV (L : List UInt8) : Value := .string ⟨L.toArray⟩
/-- The document's log in memory: what its blocks are, and what each may be. -/
structure RefAt (w : World) (G : Nat → Prop) (rb nb mb nc mc : Nat) (yv : Value) (hf : Bool) (now : Nat → List UInt8) (may : Nat → List (List UInt8)) (vs : Nat → Value) : Prop where
  blk : w.heap[rb]? = some (.cells #[.slice (some ⟨nb, 0, none⟩) 44 nc, .slice (some ⟨mb, 0, none⟩) 44 mc, yv, .bool hf] 52 (0, 0))
  nowR : w.ownsRow 0 9 1 (.slice (some ⟨nb, 0, none⟩) 44 nc) 44 ((List.range 44).map fun i => sV (now i))
  mayR : w.ownsRow 0 49 1 (.slice (some ⟨mb, 0, none⟩) 44 mc) 44 ((List.range 44).map vs)
  rows : ∀ i, i < 44 → w.ownsRow 0 9 1 (vs i) (may i).length ((may i).map sV)
  gr : G rb
  gn : G nb
  gm : G mb
  gv : ∀ i q, i < 44 → (vs i).ownBlock = some q → G q
  apart : ∀ i j q, i < 44 → j < 44 → (vs i).ownBlock = some q → (vs j).ownBlock = some q → i = j
  napart : ∀ i q, i < 44 → (vs i).ownBlock = some q → q ≠ nb
theorem RefAt.kinds {w : World} {G : Nat → Prop} {rb nb mb nc mc : Nat} {yv : Value} {hf : Bool} {now : Nat → List UInt8} {may : Nat → List (List UInt8)} {vs : Nat → Value} (h : RefAt w G rb nb mb nc mc yv hf now may vs) :
    nb ≠ rb ∧ mb ≠ rb ∧ nb ≠ mb ∧ ∀ i q, i < 44 → (vs i).ownBlock = some q → q ≠ rb ∧ q ≠ mb := by
  obtain ⟨_, c1, g1⟩ := rowL h.nowR (q := nb) rfl
  obtain ⟨_, c2, g2⟩ := rowL h.mayR (q := mb) rfl
  have hr := h.blk
  refine ⟨fun e => ?_, fun e => ?_, fun e => ?_, fun i q hi hq => ⟨fun e => ?_, fun e => ?_⟩⟩
  · subst e; rw [g1] at hr; simp only [Option.some.injEq, Obj.cells.injEq] at hr; exact absurd hr.2.1 (by decide)
  · subst e; rw [g2] at hr; simp only [Option.some.injEq, Obj.cells.injEq] at hr; exact absurd hr.2.1 (by decide)
  · subst e; rw [g1] at g2; simp only [Option.some.injEq, Obj.cells.injEq] at g2; exact absurd g2.2.1 (by decide)
  · subst e; obtain ⟨_, c, g⟩ := rowL (h.rows i hi) hq; rw [g] at hr; simp only [Option.some.injEq, Obj.cells.injEq] at hr; exact absurd hr.2.1 (by decide)
  · subst e; obtain ⟨_, c, g⟩ := rowL (h.rows i hi) hq; rw [g] at g2; simp only [Option.some.injEq, Obj.cells.injEq] at g2; exact absurd g2.2.1 (by decide)
/-- It stands where its blocks do. -/
theorem RefAt.same {w w' : World} {G : Nat → Prop} {rb nb mb nc mc : Nat} {yv : Value} {hf : Bool} {now : Nat → List UInt8} {may : Nat → List (List UInt8)} {vs : Nat → Value} (h : RefAt w G rb nb mb nc mc yv hf now may vs) (hs : ∀ q, G q → w'.heap[q]? = w.heap[q]?) : RefAt w' G rb nb mb nc mc yv hf now may vs :=
  { h with
    blk := (hs rb h.gr).trans h.blk
    nowR := rowF h.nowR fun q hq _ => hs q (by cases hq; exact h.gn)
    mayR := rowF h.mayR fun q hq _ => hs q (by cases hq; exact h.gm)
    rows := fun i hi => rowF (h.rows i hi) fun q hq _ => hs q (h.gv i q hi hq) }
/-- One block is another now. -/
theorem RefAt.setNow {w : World} {G : Nat → Prop} {rb nb mb nc mc : Nat} {yv : Value} {hf : Bool} {now : Nat → List UInt8} {may : Nat → List (List UInt8)} {vs : Nat → Value} (h : RefAt w G rb nb mb nc mc yv hf now may vs) (k : Nat) (L : List UInt8) : RefAt (w.setCell ⟨nb, k, none⟩ (sV L)) G rb nb mb nc mc yv hf (updF now k L) may vs := by
  obtain ⟨k1, k2, k3, k4⟩ := h.kinds
  have ho : ∀ q, q ≠ nb → (w.setCell ⟨nb, k, none⟩ (sV L)).heap[q]? = w.heap[q]? := fun q hq => heap_setCell_other _ _ _ _ hq
  refine { h with
    blk := (ho rb (Ne.symm k1)).trans h.blk
    nowR := ?_
    mayR := rowF h.mayR fun q hq _ => ho q (by cases hq; exact Ne.symm k3)
    rows := fun i hi => rowF (h.rows i hi) fun q hq _ => ho q (h.napart i q hi hq) }
  have := rowSet h.nowR k (sV L)
  rw [range_upd] at this
  have e : updF (fun i => sV (now i)) k (sV L) = fun i => sV (updF now k L i) := by
    funext i
    unfold updF
    split <;> rfl
  rw [e] at this
  exact this
/-- What one block may be is another list. -/
theorem RefAt.setMay {w w1 : World} {G : Nat → Prop} {rb nb mb nc mc : Nat} {yv : Value} {hf : Bool} {now : Nat → List UInt8} {may : Nat → List (List UInt8)} {vs : Nat → Value} (h : RefAt w G rb nb mb nc mc yv hf now may vs) (k : Nat) (hk : k < 44) (v : Value) (l : List (List UInt8)) (hg : w.grownBy w1 (vs k).ownBlock)
    (hv : w1.ownsRow 0 9 1 v l.length (l.map sV)) (hat : ∀ q, v.ownBlock = some q → (vs k).ownBlock = some q ∨ w.heap.size ≤ q) : RefAt (w1.setCell ⟨mb, k, none⟩ v) (fun q => G q ∨ v.ownBlock = some q) rb nb mb nc mc yv hf now (updF may k l) (updF vs k v) := by
  obtain ⟨k1, k2, k3, k4⟩ := h.kinds
  have lr := lt_of_block h.blk
  have ln := (rowL h.nowR (q := nb) rfl).1
  have lm := (rowL h.mayR (q := mb) rfl).1
  have ho : ∀ q, q ≠ mb → (w1.setCell ⟨mb, k, none⟩ v).heap[q]? = w1.heap[q]? := fun q hq => heap_setCell_other _ _ _ _ hq
  have hvm : ∀ q, v.ownBlock = some q → q ≠ mb ∧ q ≠ nb := fun q hq => by
    rcases hat q hq with h1 | h1
    · exact ⟨(k4 k q hk h1).2, h.napart k q hk h1⟩
    · exact ⟨by omega, by omega⟩
  have hold : ∀ i q, i < 44 → i ≠ k → (vs i).ownBlock = some q → w1.heap[q]? = w.heap[q]? := fun i q hi hn hq => hg.block q (rowL (h.rows i hi) hq).1 fun e => hn (h.apart i k q hi hk hq e.symm)
  refine { blk := ?_, nowR := ?_, mayR := ?_, rows := ?_, gr := .inl h.gr, gn := .inl h.gn, gm := .inl h.gm, gv := ?_, apart := ?_, napart := ?_ }
  · rw [ho rb (Ne.symm k2), hg.block rb lr fun e => (k4 k rb hk e.symm).1 rfl]; exact h.blk
  · refine rowF h.nowR fun q hq _ => ?_
    cases hq
    rw [ho nb k3]
    exact hg.block nb ln fun e => h.napart k nb hk e.symm rfl
  · have h1 : w1.ownsRow 0 49 1 (.slice (some ⟨mb, 0, none⟩) 44 mc) 44 ((List.range 44).map vs) := rowF h.mayR fun q hq _ => by
      cases hq
      exact hg.block mb lm fun e => (k4 k mb hk e.symm).2 rfl
    have := rowSet h1 k v
    rw [range_upd] at this
    exact this
  · intro i hi
    by_cases e : i = k
    · subst e
      simp only [updF, if_true]
      exact rowF hv fun q hq _ => ho q (hvm q hq).1
    · simp only [updF, if_neg e]
      exact rowF (h.rows i hi) fun q hq _ => (ho q (k4 i q hi hq).2).trans (hold i q hi e hq)
  · intro i q hi hq
    by_cases e : i = k
    · simp only [updF, if_pos e] at hq; exact .inr hq
    · simp only [updF, if_neg e] at hq; exact .inl (h.gv i q hi hq)
  · intro i j q hi hj hq hq'
    have key : ∀ x, x < 44 → x ≠ k → (vs x).ownBlock = some q → v.ownBlock = some q → False := fun x hx hn h1 h2 => by
      rcases hat q h2 with h3 | h3
      · exact hn (h.apart x k q hx hk h1 h3)
      · have := (rowL (h.rows x hx) h1).1; omega
    by_cases e : i = k
    · by_cases e' : j = k
      · rw [e, e']
      · simp only [updF, if_pos e] at hq
        simp only [updF, if_neg e'] at hq'
        exact (key j hj e' hq' hq).elim
    · by_cases e' : j = k
      · simp only [updF, if_neg e] at hq
        simp only [updF, if_pos e'] at hq'
        exact (key i hi e hq hq').elim
      · simp only [updF, if_neg e] at hq
        simp only [updF, if_neg e'] at hq'
        exact h.apart i j q hi hj hq hq'
  · intro i q hi hq
    by_cases e : i = k
    · simp only [updF, if_pos e] at hq; exact (hvm q hq).2
    · simp only [updF, if_neg e] at hq; exact h.napart i q hi hq
end Go.Proofs.YtfnhhjpebilacaaGreat

/-
  DERIVED. The document's log: a block is put.
-/
namespace Go.Proofs.YtfnhhjpebilacaaGreat
open Go.RowKit
set_option linter.unusedVariables false
set_option maxRecDepth 20000

theorem infoS : (Tryz.prog.info? 9).map (fun i => (i.zero, i.size, i.bytes)) = some (some (.string ByteArray.empty), 1, 16) := by kernel_rfl
theorem rPut_tail {w W : World} {G H : Nat → Prop} {rb nb mb nc mc : Nat} {yv : Value} {hf : Bool} {now : Nat → List UInt8} {may : Nat → List (List UInt8)} {vs : Nat → Value} (h : RefAt W H rb nb mb nc mc yv hf now may vs) (hk : Kept G w W) (hn : G nb) (k : Nat) (hk4 : k < 44) (s : ByteArray) (L : List UInt8) (hs : s = ⟨L.toArray⟩) {a : Option Addr} {c : Nat} (hV : ∀ W, Kept G w W → Sl W (.slice a 512 c) L) (hH : ∀ q, H q → G q ∨ (w.heap.size ≤ q ∧ q < W.heap.size)) :
    W.cell? ⟨rb, 0, none⟩ = some (.slice (some ⟨nb, 0, none⟩) 44 nc) ∧ W.cell? ⟨nb, k, none⟩ = some (sV (now k)) ∧ W.frozen? ⟨nb, k, none⟩ = false ∧ (convert 34 9 (.slice a 512 c)).run Tryz.prog W.drew = .ok (.string s) W.drew ∧
    (RefAt (W.drew.setCell ⟨nb, k, none⟩ (.string s)) H rb nb mb nc mc yv hf (updF now k L) may vs ∧ Kept G w (W.drew.setCell ⟨nb, k, none⟩ (.string s)) ∧ ∀ q, H q → G q ∨ (w.heap.size ≤ q ∧ q < (W.drew.setCell ⟨nb, k, none⟩ (.string s)).heap.size)) := by
  obtain ⟨c1, c2⟩ := rowCell h.nowR k (sV (now k)) (by rw [List.getElem?_map, List.getElem?_range hk4]; rfl)
  have hd : Kept G w W.drew := ⟨hk.os, hk.tape, hk.output, hk.size, hk.block⟩
  refine ⟨by rw [cell_of_row _ _ _ _ _ _ h.blk]; rfl, c1, c2, ?_, ?_, ?_, fun q hq => ?_⟩
  · rw [hs]; exact (hV _ hd).str
  · rw [hs]; exact (h.same (w' := W.drew) fun _ _ => rfl).setNow k L
  · exact hd.trans (Kept.of_only ((Only.refl nb W.drew).set _ _) hn)
  · rcases hH q hq with h1 | h1
    · exact .inl h1
    · exact .inr ⟨h1.1, by simp [World.setCell]; exact h1.2⟩
set_option maxHeartbeats 8000000 in
theorem rPut_go {w : World} {G : Nat → Prop} {rb nb mb nc mc : Nat} {yv : Value} {hf : Bool} {now : Nat → List UInt8} {may : Nat → List (List UInt8)} {vs : Nat → Value} (h : RefAt w G rb nb mb nc mc yv hf now may vs) (k : Nat) (hk : k < 44) (a : Option Addr) (c : Nat) (L : List UInt8) (hV : ∀ W, Kept G w W → Sl W (.slice a 512 c) L) (down : Bool) (hlen : (may k).length ≤ 1000000) :
    Calls Tryz.prog 13 #[.pointer (some ⟨rb, 0, none⟩), .int .i64 (k : Int), .slice a 512 c, .bool down] w fun e w' => e = .returned (.int .i64 (if down then 2 else 0)) ∧
      ∃ vs' H, RefAt w' H rb nb mb nc mc yv hf (if down then now else updF now k L) (updF may k (may k ++ [L])) vs' ∧ Kept G w w' ∧ ∀ q, H q → G q ∨ (w.heap.size ≤ q ∧ q < w'.heap.size) := by
  have hv := hV w (Kept.refl _ _)
  have hwr := wrong_go w rb 44 nc _ (show w.cell? ⟨rb, 0, none⟩ = some (.slice (some ⟨nb, 0, none⟩) 44 nc) by rw [cell_of_row _ _ _ _ _ _ h.blk]; rfl) (by decide) (k : Int) a 512 c (by decide)
  have e0 : wrongC ((44 : Nat) : Int) (k : Int) 512 = 0 := by unfold wrongC; rw [if_neg (by omega), if_neg (by decide)]
  rw [e0] at hwr
  have HWR := hide hwr
  have cr : w.cell? ⟨rb, 1, none⟩ = some (.slice (some ⟨mb, 0, none⟩) 44 mc) := by rw [cell_of_row _ _ _ _ _ _ h.blk]; rfl
  obtain ⟨cm, nm⟩ := rowCell h.mayR k (vs k) (by rw [List.getElem?_map, List.getElem?_range hk]; rfl)
  obtain ⟨k1, k2, k3, k4⟩ := h.kinds
  have lr := lt_of_block h.blk
  have lm := (rowL h.mayR (q := mb) rfl).1
  have hrow := h.rows k hk
  have hcv := hv.drew.str
  obtain ⟨s, hs⟩ : ∃ s, s = (⟨L.toArray⟩ : ByteArray) := ⟨_, rfl⟩
  rw [← hs] at hcv
  obtain ⟨m, hm⟩ : ∃ m, m = may k := ⟨_, rfl⟩
  rw [← hm] at hrow hlen
  have hkm : (vs k).ownBlock ≠ some mb := fun e => (k4 k mb hk e).2 rfl
  have hkr : (vs k).ownBlock ≠ some rb := fun e => (k4 k rb hk e).1 rfl
  have HRW : Hid ((w.alloc (.cells #[.string s] 9)).drew.ownsRow 0 9 1 (vs k) m.length (m.map sV)) := hide (World.ownsRow.alloc hrow _)
  have HFIN : Hid (∀ (W3 : World) (v : Value), (w.alloc (.cells #[.string s] 9)).drew.grownBy W3 (vs k).ownBlock → W3.ownsRow 0 9 1 v (m.length + 1) (m.map sV ++ [.string s]) → (∀ q, v.ownBlock = some q → (vs k).ownBlock = some q ∨ w.heap.size ≤ q) → RefAt (W3.setCell ⟨mb, k, none⟩ v) (fun q => G q ∨ v.ownBlock = some q) rb nb mb nc mc yv hf now (updF may k (may k ++ [L])) (updF vs k v) ∧ Kept G w (W3.setCell ⟨mb, k, none⟩ v)) := hide fun W3 v hg hv2 hat => by
    have hga : w.grownBy W3 (vs k).ownBlock := by
      have ha := World.grownBy_alloc w (.cells #[.string s] 9) (vs k).ownBlock
      exact ha.trans ⟨hg.os, hg.tape, hg.output, hg.size, hg.block⟩
    refine ⟨?_, (Kept.of_grown hga fun q hq => h.gv k q hk hq).trans (Kept.of_only ((Only.refl mb W3).set _ _) h.gm)⟩
    rw [← hm]
    refine h.setMay k hk v (m ++ [L]) hga ?_ hat
    rw [List.length_append, List.map_append]
    rw [hs] at hv2
    exact hv2
  have HV := hide hV
  have HS := hide hs
  have HGN := hide h.gn
  have HGV := hide (fun q hq => h.gv k q hk hq)
  have hk0 : (0 : Int) ≤ (k : Int) := Int.natCast_nonneg _
  have hkI : (k : Int) < 44 := by omega
  clear hwr e0 hrow h hm k1 k2 k3 k4 hs hV hv
  obtain ⟨i0, hi0, hz0, hz1, hz2⟩ := info_parts infoS
  go_enter Tryz.func13, Tryz.ntmps13
  go_wp2_with fail
  refine (unhide HWR).mono ?_
  rintro e w1 ⟨rfl, rfl⟩
  clear HWR
  go_wp2_with fail
  go_region_law (first | (refine step_append_lies _ (by rfl) _ _ _ (by rfl) 0 9 i0 _ 1 16 Tryz.underlying49 hi0 hz0 hz1 hz2 (by rfl) (by omega) (vs k) m.length (m.map sV) (by rfl) (unhide HRW) ⟨w1.heap.size, 0, none⟩ 1 1 [.string s] (by rfl) (by rfl) (World.news_of_block (cs := #[.string s]) (t := 9) (fr := (0, 0)) (heap_alloc_new w1 _)) (by simp [Value.oneCell']) (by omega) (by unfold maxLen; omega) (by omega) (Nat.zero_le _) (w1.heap.size + 1) (by simp) ?_; intro gg cap2 W3 hown3 hgrow hat hlt3; have cmW : W3.cell? ⟨mb, k, none⟩ = some (vs k) := (hgrow.cell_far ⟨mb, k, none⟩ (by show mb < (w1.alloc _).heap.size; simp; omega) (fun e => hkm e.symm)).trans ((World.cell?_alloc_lt _ _ _ lm).trans cm); have nmW : W3.frozen? ⟨mb, k, none⟩ = false := (hgrow.frozen_far ⟨mb, k, none⟩ (by show mb < (w1.alloc _).heap.size; simp; omega) (fun e => hkm e.symm)).trans ((World.frozen?_alloc_past _ _ _ lm).trans nm); have crW : W3.cell? ⟨rb, 1, none⟩ = some (.slice (some ⟨mb, 0, none⟩) 44 mc) := (hgrow.cell_far ⟨rb, 1, none⟩ (by show rb < (w1.alloc _).heap.size; simp; omega) (fun e => hkr e.symm)).trans ((World.cell?_alloc_lt _ _ _ lr).trans cr)))
  all_goals
    have HX := hide (unhide HFIN W3 _ hgrow hown3 (fun q hq => by cases hq; exact hat.imp id (fun h => by show w1.heap.size ≤ gg; omega)))
    have hsz : (W3.setCell ⟨mb, k, none⟩ (.slice (some ⟨gg, 0, none⟩) (m.length + 1) cap2)).heap.size = W3.heap.size := by simp [World.setCell]
    have HQ : Hid (∀ q, (fun q => G q ∨ (Value.slice (some ⟨gg, 0, none⟩) (m.length + 1) cap2).ownBlock = some q) q → G q ∨ (w1.heap.size ≤ q ∧ q < (W3.setCell ⟨mb, k, none⟩ (.slice (some ⟨gg, 0, none⟩) (m.length + 1) cap2)).heap.size)) := hide (fun q hq => by
      rcases hq with h1 | h1
      · exact .inl h1
      · cases h1
        rcases hat with h2 | h2
        · exact .inl (unhide HGV _ h2)
        · exact .inr ⟨by show w1.heap.size ≤ gg; omega, by rw [hsz]; exact hlt3⟩)
    obtain ⟨V4, hV4⟩ : ∃ V4, V4 = Value.slice (some ⟨gg, 0, none⟩) (m.length + 1) cap2 := ⟨_, rfl⟩
    rw [← hV4] at HX HQ ⊢
    obtain ⟨W4, hW4⟩ : ∃ W4, W4 = W3.setCell ⟨mb, k, none⟩ V4 := ⟨_, rfl⟩
    rw [← hW4] at HX HQ ⊢
    have TL := rPut_tail (unhide HX).1 (unhide HX).2 (unhide HGN) k hk s L (unhide HS) (unhide HV) (unhide HQ)
    obtain ⟨cr4, cn4, nn4, cv4, fin⟩ := TL
    have HFN := hide fin
    clear hgrow hown3 hat hlt3 cmW nmW crW hV4 hW4 hcv cr cm nm hsz hi0 hz0 hz1 hz2 lr lm hkm hkr hlen fin
    cases down with
    | true =>
      go_wp2
      go_ret
      exact ⟨rfl, _, _, (unhide HX).1, (unhide HX).2, unhide HQ⟩
    | false =>
      go_wp2_with fail
      go_region
      all_goals
        go_wp2
        go_ret
        exact ⟨rfl, _, _, unhide HFN⟩
end Go.Proofs.YtfnhhjpebilacaaGreat

/-
  DERIVED. The document's log, as a function of what is done; a device that fits it, wherever it stops.
-/
namespace Go.Proofs.YtfnhhjpebilacaaGreat
open Go.RowKit
set_option linter.unusedVariables false

/-- The document's log of 44 blocks: what they are; what each may be behind a crash; the commit under way. -/
structure Doc where
  now : Nat → List UInt8
  may : Nat → List (List UInt8)
  way : List (Nat × List UInt8)
  half : Bool
/-- What all blocks may be behind a crash. -/
def Doc.ok (D : Doc) (c : Nat → List UInt8) : Prop := (∀ n, n < 44 → c n ∈ D.may n) ∨ (D.half = true ∧ ∀ n, n < 44 → c n = over D.way D.now n)
def Doc.told (c : Nat → List UInt8) : Doc := ⟨c, fun n => [c n], [], false⟩
def Doc.put (D : Doc) (n : Nat) (L : List UInt8) (down : Bool) : Doc :=
  { D with now := fun m => if down = false ∧ m = n then L else D.now m, may := fun m => if m = n then D.may m ++ [L] else D.may m }
def Doc.commit (D : Doc) (ps : List (Nat × List UInt8)) (down : Bool) : Doc :=
  if down = true then { D with way := ps, half := true } else { D with now := over ps D.now, may := fun m => [over ps D.now m] }
/-- A device that fits it. -/
structure Fits (S : St) (D : Doc) : Prop where
  len : S.safe.length = 64
  crash : ∀ cr, ∃ ns c, Sound (S.crash cr) ns c ∧ D.ok c
  up : S.down = false → Quiet S D.now ∧ (∀ n, n < 44 → ∀ L, S.may (20 + n) L → L ∈ D.may n) ∧ D.half = false ∧ D.way = []

theorem crashTo_alike {S T : St} (h : Alike S T) (ps : List Int) : ∀ i, T.crashTo ps i = S.crashTo ps i
  | 0 => h.safe
  | i + 1 => by
    have hk : T.keys = S.keys := by unfold St.keys; rw [h.safe, h.pend]
    rw [St.crashTo, St.crashTo, crashTo_alike h ps i, hk]
    unfold St.keptB
    simp only [h.pend]
theorem Alike.crash {S T : St} (h : Alike S T) (ps : List Int) : Alike (S.crash ps) (T.crash ps) := by
  have hk : T.keys = S.keys := by unfold St.keys; rw [h.safe, h.pend]
  exact ⟨by show T.crashTo ps T.keys.length = S.crashTo ps S.keys.length; rw [hk, crashTo_alike h], rfl, h.ops⟩
theorem Alike.may {S T : St} (h : Alike S T) {n : Nat} {L : List UInt8} (hm : T.may n L) : S.may n L := by
  unfold St.may at hm ⊢
  rw [h.safe, h.pend] at hm
  exact hm
/-- A device whose blocks are the same, and that went down, or did not. -/
theorem Fits.alike {S T : St} {D : Doc} (h : Fits S D) (ha : Alike S T) (hd : T.down = false → S.down = false) : Fits T D := by
  refine ⟨by rw [ha.safe]; exact h.len, fun cr => ?_, fun hu => ?_⟩
  · obtain ⟨ns, c, s, k⟩ := h.crash cr
    exact ⟨ns, c, s.alike (ha.crash cr), k⟩
  · obtain ⟨q, m, f, y⟩ := h.up (hd hu)
    exact ⟨q.alike ha hu, fun n hn L hL => m n hn L (ha.may hL), f, y⟩
theorem Fits.fuseK {S : St} {D : Doc} (h : Fits S D) (k : Int) : Fits (S.fuseK k) D := h.alike ((Alike.refl S).fuseK k) fun hu => by rw [St.fuseK_down] at hu; exact hu
/-- Behind an opening. -/
theorem fits_told {S : St} {c : Nat → List UInt8} (hq : Quiet S c) (hn : ∀ k, S.pend k = []) (hl : S.safe.length = 64) : Fits S (Doc.told c) := by
  refine ⟨hl, fun cr => ⟨[], c, (hq.sound hn).crash cr, .inl fun n _ => List.mem_singleton.2 rfl⟩, fun _ => ⟨hq, fun n hn2 L hL => ?_, rfl, rfl⟩⟩
  rw [St.may_none (hn _) hL, hq.is n (by rw [hl]; exact hn2)]
  exact List.mem_singleton.2 rfl
theorem fits_quiet {S : St} {D : Doc} (hq : Quiet S D.now) (hl : S.safe.length = 64) (hm : ∀ n, n < 44 → ∀ L, S.may (20 + n) L → L ∈ D.may n) (hf : D.half = false) (hw : D.way = []) : Fits S D := by
  refine ⟨hl, fun cr => ?_, fun _ => ⟨hq, hm, hf, hw⟩⟩
  obtain ⟨c, s, k⟩ := hq.crash cr
  rw [hl] at k
  exact ⟨[], c, s, .inl fun n hn => hm n hn _ (k n hn)⟩
/-- A block that is put, wherever the device stops. -/
theorem Fits.put {S : St} {D : Doc} (h : Fits S D) (hd : S.down = false) (n : Nat) (hn : n < 44) (L : List UInt8) :
    (∃ T, S.wr (20 + n, L) = (0, T) ∧ T.down = false ∧ Fits T (D.put n L false)) ∨ (∃ T, S.wr (20 + n, L) = (2, T) ∧ T.down = true ∧ Fits T (D.put n L true)) := by
  obtain ⟨q, m, f, y⟩ := h.up hd
  rcases put_cases q n L (by rw [h.len]; exact hn) with ⟨T, t1, t2, t3⟩ | ⟨T, t1, t2, t3⟩
  · refine .inl ⟨T, t1, t3.up, fits_quiet (t3.congr fun i _ => ?_) (by rw [t2]; exact h.len) (fun i hi K hK => ?_) f y⟩
    · show (if i = n then L else D.now i) = if false = false ∧ i = n then L else D.now i
      simp
    · show K ∈ if i = n then D.may i ++ [L] else D.may i
      rw [t2] at hK
      have hK2 : K = (S.safe[20 + i]?).getD [] ∨ K ∈ putP S.pend (20 + n) L (20 + i) := hK
      unfold putP at hK2
      by_cases e : i = n
      · subst e
        rw [if_pos rfl] at hK2 ⊢
        rcases hK2 with hK2 | hK2
        · exact List.mem_append.2 (.inl (m i hi K (.inl hK2)))
        · rcases List.mem_append.1 hK2 with h2 | h2
          · exact List.mem_append.2 (.inl (m i hi K (.inr h2)))
          · exact List.mem_append.2 (.inr h2)
      · rw [if_neg (by omega)] at hK2
        rw [if_neg e]
        exact m i hi K hK2
  · refine .inr ⟨T, t1, t3, ?_⟩
    have a : Alike S T := by rw [t2]; exact (Alike.refl S).burn
    refine ⟨by rw [a.safe]; exact h.len, fun cr => ?_, fun hu => by rw [t3] at hu; cases hu⟩
    obtain ⟨c, s, k⟩ := q.crash cr
    rw [h.len] at k
    refine ⟨[], c, s.alike (a.crash cr), .inl fun i hi => ?_⟩
    show c i ∈ if i = n then D.may i ++ [L] else D.may i
    have := m i hi _ (k i hi)
    split
    · exact List.mem_append.2 (.inl this)
    · exact this
/-- A commit, wherever the device stops. -/
theorem Fits.commit {S : St} {D : Doc} (h : Fits S D) (hd : S.down = false) (hb : S.ops < 9000000) (ws : List (Int × List UInt8)) (hl : ws.length ≤ 16) (hok : okW ((64 - 20 : Nat) : Int) ws) :
    (∃ T, comE S ws = (0, T) ∧ T.down = false ∧ Fits T (D.commit (prtW ws) false)) ∨ (∃ T, comE S ws = (2, T) ∧ T.down = true ∧ Fits T (D.commit (prtW ws) true)) := by
  obtain ⟨q, m, f, y⟩ := h.up hd
  have hlen := h.len
  rcases com_cases q (by omega) ws hl (by rw [hlen]; exact hok) with ⟨T, t1, t2, t3, t4, t5⟩ | ⟨T, t1, t2, t3, t4⟩
  · refine .inl ⟨T, t1, t2.up, fits_quiet t2 (t4.trans hlen) (fun i hi K hK => ?_) f y⟩
    rw [St.may_none (t3 _) hK, t2.is i (by rw [t4, hlen]; exact hi)]
    exact List.mem_singleton.2 rfl
  · refine .inr ⟨T, t1, t2, t3.trans hlen, fun cr => ?_, fun hu => by rw [t2] at hu; cases hu⟩
    obtain ⟨ns, c, s, k⟩ := t4 cr
    rw [hlen] at k
    refine ⟨ns, c, s, ?_⟩
    rcases k with k | k
    · exact .inl fun i hi => m i hi _ (k i hi)
    · exact .inr ⟨rfl, k⟩
/-- A block that is read, wherever the device stops. -/
theorem Fits.read {S : St} {D : Doc} (h : Fits S D) (hd : S.down = false) :
    (∃ T, S.rd1 = (0, T) ∧ T.down = false ∧ Fits T D) ∨ (∃ T, S.rd1 = (2, T) ∧ T.down = true ∧ Fits T D) := by
  have a : Alike S S.burn := (Alike.refl S).burn
  unfold St.rd1
  rw [if_neg (by rw [hd]; decide)]
  by_cases hw : S.well
  · rw [if_pos hw]
    exact .inl ⟨_, rfl, by rw [St.well_up hw]; exact hd, h.alike a fun _ => hd⟩
  · rw [if_neg hw]
    exact .inr ⟨_, rfl, St.unwell hw, h.alike a fun _ => hd⟩
end Go.Proofs.YtfnhhjpebilacaaGreat

/-
  DERIVED. The document's log: a commit that is refused; one that goes well.
-/
namespace Go.Proofs.YtfnhhjpebilacaaGreat
open Go.RowKit
set_option linter.unusedVariables false
set_option maxRecDepth 20000

/-- The document's errors of a commit. -/
def comC (ws : List (Int × List UInt8)) : Int := if 16 < ws.length then 43 else if okW 44 ws then 0 else 42
theorem wrong512 (n : Int) : wrongC 44 n 512 = if 0 ≤ n ∧ n < 44 then 0 else 42 := by
  unfold wrongC
  by_cases h : 0 ≤ n ∧ n < 44
  · rw [if_neg (by simpa using h), if_neg (by simp), if_pos h]
  · rw [if_pos h, if_neg h]
theorem RefAt.head {w : World} {G : Nat → Prop} {rb nb mb nc mc : Nat} {yv : Value} {hf : Bool} {now : Nat → List UInt8} {may : Nat → List (List UInt8)} {vs : Nat → Value} (h : RefAt w G rb nb mb nc mc yv hf now may vs) : w.cell? ⟨rb, 0, none⟩ = some (.slice (some ⟨nb, 0, none⟩) 44 nc) ∧ w.cell? ⟨rb, 1, none⟩ = some (.slice (some ⟨mb, 0, none⟩) 44 mc) ∧ w.cell? ⟨rb, 2, none⟩ = some yv ∧ w.cell? ⟨rb, 3, none⟩ = some (.bool hf) ∧ ∀ i, w.frozen? ⟨rb, i, none⟩ = false :=
  ⟨(cell_of_row _ _ _ _ _ _ h.blk).trans rfl, (cell_of_row _ _ _ _ _ _ h.blk).trans rfl, (cell_of_row _ _ _ _ _ _ h.blk).trans rfl, (cell_of_row _ _ _ _ _ _ h.blk).trans rfl, fun i => frozen_of_row w rb i _ _ h.blk⟩
theorem RefAt.mayEq {w : World} {G : Nat → Prop} {rb nb mb nc mc : Nat} {yv : Value} {hf : Bool} {now now' : Nat → List UInt8} {may may' : Nat → List (List UInt8)} {vs : Nat → Value} (h : RefAt w G rb nb mb nc mc yv hf now may vs) (hn : ∀ i, i < 44 → now i = now' i) (he : ∀ i, i < 44 → may i = may' i) : RefAt w G rb nb mb nc mc yv hf now' may' vs := by
  have hr : ∀ i, i < 44 → w.ownsRow 0 9 1 (vs i) (may' i).length ((may' i).map sV) := fun i hi => by rw [← he i hi]; exact h.rows i hi
  have hnw : w.ownsRow 0 9 1 (.slice (some ⟨nb, 0, none⟩) 44 nc) 44 ((List.range 44).map fun i => sV (now' i)) := by
    have e : (List.range 44).map (fun i => sV (now' i)) = (List.range 44).map (fun i => sV (now i)) := List.map_congr_left fun i hi => by rw [hn i (List.mem_range.1 hi)]
    rw [e]; exact h.nowR
  exact { h with nowR := hnw, rows := hr }
theorem drewN_drewN (w : World) (a b : Nat) : (w.drewN a).drewN b = w.drewN (a + b) := by
  simp [World.drewN, Nat.add_assoc]
theorem kept_drew {G : Nat → Prop} {w W : World} (h : Kept G w W) : Kept G w W.drew := ⟨h.os, h.tape, h.output, h.size, h.block⟩
set_option maxHeartbeats 4000000 in
theorem rCommit_no {w : World} {G : Nat → Prop} {rb nb mb nc mc : Nat} {yv : Value} {hf : Bool} {now : Nat → List UInt8} {may : Nat → List (List UInt8)} {vs : Nat → Value} (h : RefAt w G rb nb mb nc mc yv hf now may vs) (v : Value) (ws : List (Int × List UInt8)) (hv : Wrs w v ws) (down : Bool) (hno : comC ws ≠ 0) :
    Calls Tryz.prog 14 #[.pointer (some ⟨rb, 0, none⟩), v, .bool down] w fun e w' => e = .returned (.int .i64 (comC ws)) ∧ ∃ nq, w' = w.drewN nq := by
  obtain ⟨ao, cap, rfl, hc1, hc2, hc3, hc4⟩ := hv
  obtain ⟨n, hn⟩ : ∃ n, n = ws.length := ⟨_, rfl⟩
  have HN := hide hn
  have H4 := hide hc4
  have H3 := hide hc3
  rw [← hn] at hc1 ⊢
  have HNO := hide hno
  by_cases h16 : 16 < n
  · have e : comC ws = 43 := by unfold comC; rw [if_pos (by omega)]
    rw [e]
    have h16I : (16 : Int) < (n : Int) := by omega
    clear hn hno e hc3 hc4 H3 H4 HN HNO
    go_enter Tryz.func14, Tryz.ntmps14
    go_wp2
    go_ret
    exact ⟨rfl, 0, rfl⟩
  · have hno' : ¬ okW 44 ws := fun hok => hno (by unfold comC; rw [if_neg (by omega), if_pos hok])
    have e : comC ws = 42 := by unfold comC; rw [if_neg (by omega), if_neg hno']
    rw [e]
    have h16I : ¬ (16 : Int) < (n : Int) := by omega
    have cr := h.head.1
    have HNK := hide hno'
    clear hn hno e hc3 hc4 HNO h hno'
    go_enter Tryz.func14, Tryz.ntmps14
    go_wp2_with fail
    go_loopw [7, 8] (fun i _ W => ∃ (j : Nat), i = .int .i64 (j : Int) ∧ j ≤ n ∧ Hid (∃ nq, W = w.drewN nq) ∧ Hid (∀ m, (hm : m < ws.length) → m < j → 0 ≤ ws[m].1 ∧ ws[m].1 < 44)) (fun i _ _ => n - (intOf i).toNat)
    case atStart => exact ⟨0, rfl, Nat.zero_le _, hide ⟨0, rfl⟩, hide (fun m _ h => by omega)⟩
    case round =>
      obtain ⟨j, rfl, hj, HW, HJ⟩ := hrel
      by_cases hlt : j < n
      · have hltI : (j : Int) < (n : Int) := by omega
        have hjl : j < ws.length := by rw [← unhide HN]; exact hlt
        obtain ⟨g, off, hao, hg, hcc⟩ := unhide H4 (by omega)
        subst hao
        obtain ⟨a, c, d0, d1, s1⟩ := hcc j hjl
        obtain ⟨x, hx⟩ : ∃ x, x = ws[j].1 := ⟨_, rfl⟩
        rw [← hx] at d0
        have hxi := (unhide H3 _ (List.getElem_mem hjl)).2
        rw [← hx] at hxi
        have HX := hide hx
        have WR : Hid (∀ m, Calls Tryz.prog 35 #[.pointer (some ⟨rb, 0, none⟩), .int .i64 x, .slice a 512 c] (wr.drewN m) fun e w' => e = .returned (.int .i64 (if 0 ≤ x ∧ x < 44 then 0 else 42)) ∧ w' = wr.drewN m) := hide (fun m => by
          have := wrong_go (wr.drewN m) rb 44 nc (some ⟨nb, 0, none⟩) (by obtain ⟨nq, e⟩ := unhide HW; rw [e]; exact cr) (by decide) x a 512 c (by decide)
          rw [show ((44 : Nat) : Int) = 44 from rfl, wrong512] at this
          exact this)
        clear hcc s1 hx
        have e0 : wr.cell? ⟨g, off + j * 2, none⟩ = some (.int .i64 x) := by obtain ⟨nq, e⟩ := unhide HW; rw [e]; exact d0
        have e1 : wr.cell? ⟨g, off + j * 2 + 1, none⟩ = some (.slice a 512 c) := by obtain ⟨nq, e⟩ := unhide HW; rw [e]; exact d1
        by_cases hok : 0 ≤ x ∧ x < 44
        · rw [if_pos hok] at WR
          have HJ2 : Hid (∀ m, (hm : m < ws.length) → m < j + 1 → 0 ≤ ws[m].1 ∧ ws[m].1 < 44) := hide (fun m hm h => by
            by_cases e : m < j
            · exact unhide HJ m hm e
            · have : m = j := by omega
              subst this
              rw [← unhide HX]; exact hok)
          clear hok HJ
          go_wp2_with fail
          go_quiet ((go_at_call 35; exact Calls.quiet_of_same (unhide WR _)))
          go_wp2
          go_roundw
          case rel => exact ⟨j + 1, by go_num, by omega, hide (by obtain ⟨nq, e⟩ := unhide HW; exact ⟨_, by rw [e]; exact drewN_drewN w nq _⟩), HJ2⟩
          case measure => simp [intOf]; omega
        · rw [if_neg hok] at WR
          clear hok HJ
          go_wp2_with fail
          go_quiet ((go_at_call 35; exact Calls.quiet_of_same (unhide WR _)))
          go_wp2
          go_ret
          obtain ⟨nq, e⟩ := unhide HW
          exact ⟨rfl, _, by rw [e]; exact drewN_drewN w nq _⟩
      · have hF : False := unhide HNK (fun p hp => by
          obtain ⟨m, hm, e⟩ := List.mem_iff_getElem.1 hp
          rw [← e]
          exact unhide HJ m hm (by have := unhide HN; omega))
        exact hF.elim
end Go.Proofs.YtfnhhjpebilacaaGreat

/-
  DERIVED. The document's log: a commit that goes well.
-/
namespace Go.Proofs.YtfnhhjpebilacaaGreat
open Go.RowKit
set_option linter.unusedVariables false
set_option maxRecDepth 20000

theorem over_take (ws : List (Int × List UInt8)) (now : Nat → List UInt8) (j : Nat) (hj : j < ws.length) : over (prtW (ws.take (j + 1))) now = updF (over (prtW (ws.take j)) now) ws[j].1.toNat ws[j].2 := by
  have e : prtW (ws.take (j + 1)) = prtW (ws.take j) ++ [(ws[j].1.toNat, ws[j].2)] := by
    unfold prtW; rw [List.take_succ_eq_append_getElem hj, List.map_append]; rfl
  rw [e, over_snoc]
  rfl
def capM (now : Nat → List UInt8) (may : Nat → List (List UInt8)) (j : Nat) : Nat → List (List UInt8) := fun n => if n < j then [now n] else may n
theorem capM_step (now : Nat → List UInt8) (may : Nat → List (List UInt8)) (j : Nat) : updF (capM now may j) j [now j] = capM now may (j + 1) := by
  funext n
  unfold updF capM
  by_cases e : n = j
  · subst e; rw [if_pos rfl, if_pos (by omega)]
  · by_cases h : n < j
    · rw [if_neg e, if_pos h, if_pos (by omega)]
    · rw [if_neg e, if_neg h, if_neg (by omega)]
theorem capM_zero (now : Nat → List UInt8) (may : Nat → List (List UInt8)) : capM now may 0 = may := by funext n; simp [capM]
theorem heap_comm (w : World) (b i : Nat) (v : Value) (o : Obj) (cs : Array Value) (t : TypeId) (hb : w.heap[b]? = some (.cells cs t (0, 0))) (q : Nat) : ((w.setCell ⟨b, i, none⟩ v).alloc o).heap[q]? = ((w.alloc o).setCell ⟨b, i, none⟩ v).heap[q]? := by
  have hl := lt_of_block hb
  have hs : (w.setCell ⟨b, i, none⟩ v).heap.size = w.heap.size := by simp [World.setCell]
  have hba : (w.alloc o).heap[b]? = some (.cells cs t (0, 0)) := (Below.heap_alloc _ _ _ hl).trans hb
  by_cases e : q = b
  · subst e
    rw [Below.heap_alloc _ _ _ (by omega), heap_setCell_same w q i _ _ v hb, heap_setCell_same _ q i _ _ v hba]
  · rw [heap_setCell_other (w.alloc o) _ _ _ e]
    by_cases h : q < w.heap.size
    · rw [Below.heap_alloc _ _ _ (by omega), Below.heap_alloc _ _ _ h, heap_setCell_other _ _ _ _ e]
    · by_cases h2 : q = w.heap.size
      · have a1 := heap_alloc_self (w.setCell ⟨b, i, none⟩ v) o
        rw [hs] at a1
        rw [h2, a1, heap_alloc_self]
      · rw [Array.getElem?_eq_none (by simp; omega), Array.getElem?_eq_none (by simp; omega)]
/-- One block's list becomes a list of one. -/
theorem RefAt.capped {w : World} {G : Nat → Prop} {rb nb mb nc mc : Nat} {yv : Value} {hf : Bool} {now : Nat → List UInt8} {may : Nat → List (List UInt8)} {vs : Nat → Value} (h : RefAt w G rb nb mb nc mc yv hf now may vs) (k : Nat) (hk : k < 44) (L : List UInt8) (W1 : World) (hW : W1.heap = (w.alloc (.cells #[sV L] 9)).heap) (ho : W1.os = w.os) (ht : W1.tape = w.tape) (hu : W1.output = w.output) :
    RefAt (W1.setCell ⟨mb, k, none⟩ (.slice (some ⟨w.heap.size, 0, none⟩) 1 1)) (fun q => G q ∨ q = w.heap.size) rb nb mb nc mc yv hf now (updF may k [L]) (updF vs k (.slice (some ⟨w.heap.size, 0, none⟩) 1 1)) := by
  have hg : w.grownBy W1 (vs k).ownBlock := ⟨ho, ht, hu, by rw [hW]; simp, fun q hq _ => by rw [hW]; exact Below.heap_alloc _ _ _ hq⟩
  have hb : W1.heap[w.heap.size]? = some (.cells #[sV L] 9 (0, 0)) := by rw [hW]; exact heap_alloc_self _ _
  have := h.setMay k hk (.slice (some ⟨w.heap.size, 0, none⟩) 1 1) [L] hg ⟨rfl, .inr ⟨w.heap.size, 1, _, rfl, Nat.zero_le _, hb, Nat.le_refl _, by unfold maxLen; omega, rfl, rfl⟩⟩ (fun q hq => by cases hq; exact .inr (Nat.le_refl _))
  exact { this with gr := this.gr.imp id (fun h => by cases h; rfl), gn := this.gn.imp id (fun h => by cases h; rfl), gm := this.gm.imp id (fun h => by cases h; rfl), gv := fun i q hi hq => (this.gv i q hi hq).imp id (fun h => by cases h; rfl) }
/-- Blocks to be written, in memory that stays while the blocks of G turn. -/
def WrsK (w : World) (G : Nat → Prop) (v : Value) (ws : List (Int × List UInt8)) : Prop :=
  ∃ ao cap, v = .slice ao ws.length cap ∧ ws.length ≤ cap ∧ cap ≤ 9223372036854775807 ∧
    (ws.length ≠ 0 → ∃ g off, ao = some ⟨g, off, none⟩ ∧ ∀ i, (h : i < ws.length) → ∃ a c, ∀ W, Kept G w W → W.cell? ⟨g, off + i * 2, none⟩ = some (.int .i64 ws[i].1) ∧ W.cell? ⟨g, off + i * 2 + 1, none⟩ = some (.slice a 512 c) ∧ Sl W (.slice a 512 c) ws[i].2)
theorem WrsK.kept {w w' : World} {G : Nat → Prop} {v : Value} {ws : List (Int × List UInt8)} (h : WrsK w G v ws) (hk : Kept G w w') : WrsK w' G v ws := by
  obtain ⟨ao, cap, e, h1, h2, h4⟩ := h
  refine ⟨ao, cap, e, h1, h2, fun hn => ?_⟩
  obtain ⟨g, off, e2, hc⟩ := h4 hn
  exact ⟨g, off, e2, fun i hi => by obtain ⟨a, c, q⟩ := hc i hi; exact ⟨a, c, fun W hW => q W (hk.trans hW)⟩⟩
def ComPost (w : World) (G : Nat → Prop) (rb nb mb nc mc : Nat) (yv : Value) (hf : Bool) (now : Nat → List UInt8) (ws : List (Int × List UInt8)) (e : Ending) (w' : World) : Prop := e = .returned (.int .i64 0) ∧ ∃ vs' H, RefAt w' H rb nb mb nc mc yv hf (over (prtW ws) now) (fun n => [over (prtW ws) now n]) vs' ∧ Kept G w w' ∧ ∀ q, H q → G q ∨ (w.heap.size ≤ q ∧ q < w'.heap.size)
theorem kept_set' {G : Nat → Prop} (w : World) {q : Nat} (hq : G q) (o : Nat) (v : Value) : Kept G w (w.setCell ⟨q, o, none⟩ v) := ⟨rfl, rfl, rfl, by simp [World.setCell], fun k _ hk => heap_setCell_other _ _ _ _ (fun e => hk (e ▸ hq))⟩
theorem kept_drewN' (G : Nat → Prop) (w : World) (n : Nat) : Kept G w (w.drewN n) := ⟨rfl, rfl, rfl, Nat.le_refl _, fun _ _ _ => rfl⟩
set_option maxHeartbeats 8000000 in
theorem rCommit_ok {w : World} {G : Nat → Prop} {rb nb mb nc mc : Nat} {yv : Value} {hf : Bool} {now : Nat → List UInt8} {may : Nat → List (List UInt8)} {vs : Nat → Value} (h : RefAt w G rb nb mb nc mc yv hf now may vs) (v : Value) (ws : List (Int × List UInt8)) (hV : WrsK w G v ws) (hl : ws.length ≤ 16) (hok : okW 44 ws) :
    Calls Tryz.prog 14 #[.pointer (some ⟨rb, 0, none⟩), v, .bool false] w (ComPost w G rb nb mb nc mc yv hf now ws) := by
  have HR := hide h
  obtain ⟨ao, cap, rfl, hc1, hc2, hc4⟩ := hV
  obtain ⟨n, hn⟩ : ∃ n, n = ws.length := ⟨_, rfl⟩
  have HN := hide hn
  have H4 := hide hc4
  have HOK := hide hok
  rw [← hn] at hc1 hl ⊢
  have h16I : ¬ (16 : Int) < (n : Int) := by omega
  have HCELL : Hid (∀ (j : Nat) (hj : j < ws.length), ∃ g off a c k, ao = some ⟨g, off, none⟩ ∧ k < 44 ∧ k = ws[j].1.toNat ∧ ∀ W, Kept G w W → W.cell? ⟨g, off + j * 2, none⟩ = some (.int .i64 ((k : Nat) : Int)) ∧ W.cell? ⟨g, off + j * 2 + 1, none⟩ = some (.slice a 512 c) ∧ Sl W (.slice a 512 c) ws[j].2) := hide (fun j hj => by
    obtain ⟨g, off, e5, hcc⟩ := unhide H4 (by omega)
    obtain ⟨a, c, q⟩ := hcc j hj
    have hb := unhide HOK _ (List.getElem_mem hj)
    refine ⟨g, off, a, c, ws[j].1.toNat, e5, by omega, rfl, fun W hk => ?_⟩
    obtain ⟨d0, d1, s1⟩ := q W hk
    exact ⟨by rw [d0]; congr 2; omega, d1, s1⟩)
  clear hc4 hok h hn
  go_enter Tryz.func14, Tryz.ntmps14
  go_wp2_with fail
  go_loopw [7, 8] (fun i _ W => ∃ (j : Nat), i = .int .i64 (j : Int) ∧ j ≤ n ∧ Hid (∃ nq, W = w.drewN nq)) (fun i _ _ => n - (intOf i).toNat)
  case atStart => exact ⟨0, rfl, Nat.zero_le _, hide ⟨0, rfl⟩⟩
  case round =>
    obtain ⟨j, rfl, hj, HW⟩ := hrel
    by_cases hlt : j < n
    · have hltI : (j : Int) < (n : Int) := by omega
      obtain ⟨g, off, a, c, k, hao, hk44, hke, q⟩ := unhide HCELL j (by rw [← unhide HN]; exact hlt)
      subst hao
      obtain ⟨e0, e1, s1⟩ := q wr (by obtain ⟨nq, e⟩ := unhide HW; rw [e]; exact kept_drewN' _ _ _)
      have WR : Hid (∀ m, Calls Tryz.prog 35 #[.pointer (some ⟨rb, 0, none⟩), .int .i64 (k : Int), .slice a 512 c] (wr.drewN m) fun e w' => e = .returned (.int .i64 0) ∧ w' = wr.drewN m) := hide (fun m => by
        have := wrong_go (wr.drewN m) rb 44 nc (some ⟨nb, 0, none⟩) (by obtain ⟨nq, e⟩ := unhide HW; rw [e]; exact (unhide HR).head.1) (by decide) (k : Int) a 512 c (by decide)
        rw [show ((44 : Nat) : Int) = 44 from rfl, wrong512, if_pos (by omega)] at this
        exact this)
      clear q s1 hke
      go_wp2_with fail
      go_quiet ((go_at_call 35; exact Calls.quiet_of_same (unhide WR _)))
      go_wp2
      go_roundw
      case rel => exact ⟨j + 1, by go_num, by omega, hide (by obtain ⟨nq, e⟩ := unhide HW; exact ⟨_, by rw [e]; exact drewN_drewN w nq _⟩)⟩
      case measure => simp [intOf]; omega
    · have hltI : ¬ (j : Int) < (n : Int) := by omega
      have R1 : Hid (RefAt wr G rb nb mb nc mc yv hf now may vs) := hide ((unhide HR).same fun q _ => by obtain ⟨nq, e⟩ := unhide HW; rw [e]; rfl)
      have K1 : Hid (Kept G w wr) := hide (by obtain ⟨nq, e⟩ := unhide HW; rw [e]; exact kept_drewN' _ _ _)
      obtain ⟨w1, hw1⟩ : ∃ w1, w1 = wr := ⟨_, rfl⟩
      rw [← hw1] at R1 K1 ⊢
      clear HW HR hw1
      go_wp2_with fail
      clear hltI hlt hj
      go_loopw [10] (fun i W => ∃ (j : Nat), i = .int .i64 (j : Int) ∧ j ≤ n ∧ Hid (RefAt W G rb nb mb nc mc yv hf (over (prtW (ws.take j)) now) may vs) ∧ Hid (Kept G w W)) (fun i _ => n - (intOf i).toNat)
      case atStart => exact ⟨0, rfl, Nat.zero_le _, R1, K1⟩
      case round =>
        obtain ⟨j, rfl, hj, RJ, KJ⟩ := hrel
        clear R1 K1
        by_cases hlt : j < n
        · have hltI : (j : Int) < (n : Int) := by omega
          have hjl : j < ws.length := by rw [← unhide HN]; exact hlt
          obtain ⟨g, off, a, c, k, hao, hk44, hke, q⟩ := unhide HCELL j hjl
          subst hao
          obtain ⟨e0, e1, s1⟩ := q wr (unhide KJ)
          obtain ⟨L, hL⟩ : ∃ L, L = ws[j].2 := ⟨_, rfl⟩
          obtain ⟨s, hs⟩ : ∃ s, s = (⟨L.toArray⟩ : ByteArray) := ⟨_, rfl⟩
          obtain ⟨r0, n0, n1, cv, fin⟩ := rPut_tail (unhide RJ) (unhide KJ) (unhide RJ).gn k hk44 s L hs (a := a) (c := c) (fun W hW => by rw [hL]; exact (q W hW).2.2) (fun q hq => .inl hq)
          have FN : Hid (RefAt (wr.drew.setCell ⟨nb, k, none⟩ (.string s)) G rb nb mb nc mc yv hf (over (prtW (ws.take (j + 1))) now) may vs ∧ Kept G w (wr.drew.setCell ⟨nb, k, none⟩ (.string s))) := hide (by
            rw [over_take ws now j hjl, ← hL, ← hke]
            exact ⟨fin.1, fin.2.1⟩)
          have hk44I : (k : Int) < 44 := by omega
          have hk0 : (0 : Int) ≤ (k : Int) := by omega
          clear q s1 hke fin hs hL RJ KJ
          go_wp2_with fail
          go_region
          all_goals
            go_wp2
            go_roundw
            case rel => exact ⟨j + 1, by go_num, by omega, hide (unhide FN).1, hide (unhide FN).2⟩
            case measure => simp [intOf]; omega
        · have hltI : ¬ (j : Int) < (n : Int) := by omega
          have R2 : Hid (RefAt wr G rb nb mb nc mc yv hf (over (prtW ws) now) may vs) := hide (by
            have := unhide RJ
            rw [List.take_of_length_le (by have := unhide HN; omega)] at this
            exact this)
          obtain ⟨now', hnow⟩ : ∃ now', now' = over (prtW ws) now := ⟨_, rfl⟩
          rw [← hnow] at R2
          have HNW := hide hnow
          obtain ⟨w2, hw2⟩ : ∃ w2, w2 = wr := ⟨_, rfl⟩
          rw [← hw2] at R2 KJ ⊢
          clear RJ hw2 hnow
          have hh0 := (unhide R2).head.1
          go_wp2_with fail
          clear hltI hlt hj hh0
          go_loopw [11] (fun i W => ∃ (j : Nat) (vs' : Nat → Value) (H : Nat → Prop), i = .int .i64 (j : Int) ∧ j ≤ 44 ∧ Hid (RefAt W H rb nb mb nc mc yv hf now' (capM now' may j) vs') ∧ Hid (Kept G w W) ∧ Hid (∀ q, H q → G q ∨ (w.heap.size ≤ q ∧ q < W.heap.size)) ∧ Hid (∀ q, G q → H q)) (fun i _ => 44 - (intOf i).toNat)
          case atStart => exact ⟨0, vs, G, rfl, by omega, hide (by rw [capM_zero]; exact unhide R2), KJ, hide (fun q hq => .inl hq), hide (fun q hq => hq)⟩
          case round =>
            obtain ⟨j, vs', H, rfl, hj, RJ, KJ', HH, HGH⟩ := hrel
            clear R2
            obtain ⟨h0, h1, h2, h3, h5⟩ := (unhide RJ).head
            by_cases hlt : j < 44
            · have hltI : (j : Int) < 44 := by omega
              have cn : wr.cell? ⟨nb, j, none⟩ = some (.string ⟨(now' j).toArray⟩) := (rowCell (unhide RJ).nowR j (sV (now' j)) (by rw [List.getElem?_map, List.getElem?_range hlt]; rfl)).1
              obtain ⟨cm, nm⟩ := rowCell (unhide RJ).mayR j (vs' j) (by rw [List.getElem?_map, List.getElem?_range hlt]; rfl)
              have lm := (rowL (unhide RJ).mayR (q := mb) rfl).1
              have ln := (rowL (unhide RJ).nowR (q := nb) rfl).1
              have lr := lt_of_block (unhide RJ).blk
              have FN : Hid (∀ W1 : World, W1.heap = (wr.alloc (.cells #[sV (now' j)] 9)).heap → W1.os = wr.os → W1.tape = wr.tape → W1.output = wr.output → RefAt (W1.setCell ⟨mb, j, none⟩ (.slice (some ⟨wr.heap.size, 0, none⟩) 1 1)) (fun q => H q ∨ q = wr.heap.size) rb nb mb nc mc yv hf now' (capM now' may (j + 1)) (updF vs' j (.slice (some ⟨wr.heap.size, 0, none⟩) 1 1)) ∧ Kept G w (W1.setCell ⟨mb, j, none⟩ (.slice (some ⟨wr.heap.size, 0, none⟩) 1 1)) ∧ (∀ q, (H q ∨ q = wr.heap.size) → G q ∨ (w.heap.size ≤ q ∧ q < (W1.setCell ⟨mb, j, none⟩ (.slice (some ⟨wr.heap.size, 0, none⟩) 1 1)).heap.size))) := hide (fun W1 e1 e2 e3 e4 => by
                have zz := (unhide KJ').size
                have hsz : (W1.setCell ⟨mb, j, none⟩ (.slice (some ⟨wr.heap.size, 0, none⟩) 1 1)).heap.size = wr.heap.size + 1 := by simp [World.setCell, e1]
                refine ⟨by rw [← capM_step]; exact (unhide RJ).capped j hlt _ W1 e1 e2 e3 e4, ?_, fun q hq => ?_⟩
                · have hgm := unhide HH mb (unhide RJ).gm
                  refine ⟨e2.trans (unhide KJ').os, e3.trans (unhide KJ').tape, e4.trans (unhide KJ').output, by omega, fun p hp hn => ?_⟩
                  have hpm : p ≠ mb := fun e => by subst e; rcases hgm with h | h; exact hn h; omega
                  rw [heap_setCell_other _ _ _ _ hpm, e1, Below.heap_alloc _ _ _ (by omega)]
                  exact (unhide KJ').block p hp hn
                · rw [hsz]
                  rcases hq with hq | hq
                  · rcases unhide HH q hq with h | h
                    · exact .inl h
                    · exact .inr ⟨h.1, by omega⟩
                  · exact .inr ⟨by omega, by omega⟩)
              obtain ⟨mcs, hmb⟩ := (rowL (unhide RJ).mayR (q := mb) rfl).2
              have FW : Hid (∀ W2 : World, W2 = ((wr.setCell ⟨mb, j, none⟩ (.slice (some ⟨wr.heap.size, 0, none⟩) 1 1)).alloc (.cells #[.string ⟨(now' j).toArray⟩] 9)).drew → RefAt W2 (fun q => H q ∨ q = wr.heap.size) rb nb mb nc mc yv hf now' (capM now' may (j + 1)) (updF vs' j (.slice (some ⟨wr.heap.size, 0, none⟩) 1 1)) ∧ Kept G w W2 ∧ (∀ q, (H q ∨ q = wr.heap.size) → G q ∨ (w.heap.size ≤ q ∧ q < W2.heap.size))) := hide (fun W2 hW2 => by
                obtain ⟨f1, f2, f3⟩ := unhide FN (wr.alloc (.cells #[sV (now' j)] 9)) rfl rfl rfl rfl
                have he : ∀ q, W2.heap[q]? = ((wr.alloc (.cells #[sV (now' j)] 9)).setCell ⟨mb, j, none⟩ (.slice (some ⟨wr.heap.size, 0, none⟩) 1 1)).heap[q]? := fun q => by rw [hW2]; exact heap_comm wr mb j _ _ _ _ hmb q
                have hz : W2.heap.size = ((wr.alloc (.cells #[sV (now' j)] 9)).setCell ⟨mb, j, none⟩ (.slice (some ⟨wr.heap.size, 0, none⟩) 1 1)).heap.size := by rw [hW2]; simp [World.setCell, World.drew]
                refine ⟨f1.same fun q _ => he q, ⟨by rw [hW2]; exact (unhide KJ').os, by rw [hW2]; exact (unhide KJ').tape, by rw [hW2]; exact (unhide KJ').output, by rw [hz]; exact f2.size, fun p hp hn => (he p).trans (f2.block p hp hn)⟩, fun q hq => by rw [hz]; exact f3 q hq⟩)
              have HGH2 : Hid (∀ q, G q → H q ∨ q = wr.heap.size) := hide (fun q hq => .inl (unhide HGH q hq))
              clear FN RJ KJ' HH HGH hmb
              go_wp2_with fail
              go_region
              all_goals
                have F2 := hide (unhide FW _ rfl)
                obtain ⟨W2, hW2⟩ : ∃ W2, W2 = ((wr.setCell ⟨mb, j, none⟩ (.slice (some ⟨wr.heap.size, 0, none⟩) 1 1)).alloc (.cells #[.string ⟨(now' j).toArray⟩] 9)).drew := ⟨_, rfl⟩
                rw [← hW2] at F2 ⊢
                clear FW hW2 cn cm nm h0 h1 h2 h3 h5
                go_wp2
                go_roundw
                case rel => exact ⟨j + 1, _, _, by go_num, by omega, hide (unhide F2).1, hide (unhide F2).2.1, hide (unhide F2).2.2, HGH2⟩
                case measure => simp [intOf]; omega
            · have hltI : ¬ (j : Int) < 44 := by omega
              obtain rfl : j = 44 := by omega
              go_wp2
              go_ret
              refine ⟨rfl, vs', H, ?_, unhide KJ', unhide HH⟩
              rw [← unhide HNW]
              exact (unhide RJ).mayEq (fun i _ => rfl) (fun i hi => by simp only [capM, if_pos hi])
end Go.Proofs.YtfnhhjpebilacaaGreat

/-
  DERIVED. The document's log: a commit in which the device goes down: what was under way is kept.
-/
namespace Go.Proofs.YtfnhhjpebilacaaGreat
open Go.RowKit
set_option linter.unusedVariables false
set_option maxRecDepth 20000

/-- A write's cells: its block's number, its bytes' slice (block, capacity). -/
def vcells (xs : List (Int × Nat × Nat)) : List Value := xs.flatMap fun x => [.int .i64 x.1, .slice (some ⟨x.2.1, 0, none⟩) 512 x.2.2]
theorem vcells_snoc (xs : List (Int × Nat × Nat)) (x : Int × Nat × Nat) : vcells (xs ++ [x]) = vcells xs ++ [.int .i64 x.1, .slice (some ⟨x.2.1, 0, none⟩) 512 x.2.2] := by simp [vcells]
theorem vcells_len : ∀ xs : List (Int × Nat × Nat), (vcells xs).length = xs.length * 2
  | [] => rfl
  | x :: xs => by show (vcells xs).length + 1 + 1 = _; rw [vcells_len xs, List.length_cons]; omega
theorem vcells_at : ∀ (xs : List (Int × Nat × Nat)) (i : Nat) (h : i < xs.length), (vcells xs)[i * 2]? = some (.int .i64 xs[i].1) ∧ (vcells xs)[i * 2 + 1]? = some (.slice (some ⟨xs[i].2.1, 0, none⟩) 512 xs[i].2.2)
  | [], i, h => by simp at h
  | x :: xs, 0, _ => ⟨rfl, rfl⟩
  | x :: xs, i + 1, h => by
    have ih := vcells_at xs i (by simpa using h)
    rw [show vcells (x :: xs) = .int .i64 x.1 :: .slice (some ⟨x.2.1, 0, none⟩) 512 x.2.2 :: vcells xs from rfl, show (i + 1) * 2 = i * 2 + 1 + 1 by omega, show i * 2 + 1 + 1 + 1 = (i * 2 + 1) + 1 + 1 by omega]
    simp only [List.getElem?_cons_succ, List.getElem_cons_succ]
    exact ih
/-- A row of writes of one's own. -/
def VOwn (w : World) (base : Nat) (v : Value) (xs : List (Int × Nat × Nat)) : Prop := w.ownsRow base 42 2 v xs.length (vcells xs)
theorem VOwn.keptB {W W' : World} {base : Nat} {v : Value} {xs : List (Int × Nat × Nat)} (h : VOwn W base v xs) (hk : ∀ q, v.ownBlock = some q → q < W.heap.size → W'.heap[q]? = W.heap[q]?) : VOwn W' base v xs := by
  obtain ⟨h1, h2⟩ := h
  refine ⟨h1, ?_⟩
  rcases h2 with h2 | ⟨g, cap, cur, rfl, hb, hgb, r⟩
  · exact .inl h2
  · exact .inr ⟨g, cap, cur, rfl, hb, (hk g rfl (lt_of_block hgb)).trans hgb, r⟩
theorem VOwn.row {W : World} {base : Nat} {v : Value} {xs : List (Int × Nat × Nat)} (h : VOwn W base v xs) {q : Nat} (hq : v.ownBlock = some q) : base ≤ q ∧ ∃ cur, W.heap[q]? = some (.cells cur 42 (0, 0)) := by
  rcases h.2 with ⟨rfl, _⟩ | ⟨g, cap, cur, rfl, hb, hg, r⟩
  · cases hq
  · cases hq; exact ⟨hb, cur, hg⟩
theorem VOwn.form {w : World} {base : Nat} {v : Value} {xs : List (Int × Nat × Nat)} (h : VOwn w base v xs) : ∃ ao cap, v = .slice ao xs.length cap ∧ xs.length ≤ cap ∧ cap ≤ 9223372036854775807 ∧ (xs.length ≠ 0 → ∃ g, ao = some ⟨g, 0, none⟩ ∧ base ≤ g ∧ g < w.heap.size ∧ ∀ i, (h : i < xs.length) → w.cell? ⟨g, i * 2, none⟩ = some (.int .i64 xs[i].1) ∧ w.cell? ⟨g, i * 2 + 1, none⟩ = some (.slice (some ⟨xs[i].2.1, 0, none⟩) 512 xs[i].2.2)) := by
  rcases h.2 with ⟨rfl, h0⟩ | ⟨g, cap, cur, rfl, hb, hg, hn, hm, hs, ht⟩
  · exact ⟨none, 0, by rw [h0], by omega, by omega, fun h => absurd h0 h⟩
  · refine ⟨some ⟨g, 0, none⟩, cap, rfl, hn, by unfold maxLen at hm; omega, fun _ => ⟨g, rfl, hb, lt_of_block hg, fun i hi => ?_⟩⟩
    obtain ⟨e1, e2⟩ := vcells_at xs i hi
    have at' : ∀ j, j < xs.length * 2 → cur[j]? = (vcells xs)[j]? := fun j hj => by
      have e : (cur.toList.take (xs.length * 2))[j]? = (vcells xs)[j]? := by rw [ht]
      rw [List.getElem?_take_of_lt (by omega)] at e
      simpa using e
    constructor
    · rw [cell_of_row _ _ _ _ _ _ hg, at' _ (by omega), e1]
    · rw [cell_of_row _ _ _ _ _ _ hg, at' _ (by omega), e2]
/-- An append of a write, as one step of a region that draws. -/
theorem step_append_wr {ops : Array Oper} {o : Oper} {a : Act} {w : World} {K : Act → World → Prop} {Q : Exit → Act → World → Prop} {E : Prop}
    (hg : o.guard = none) (s x : Operand) (ho : o.op = .call { callee := .builtin .append, args := #[s, x], argTypes := #[43, 43] })
    (base : Nat) (v : Value) (xs : List (Int × Nat × Nat)) (hs : a.eval s = v) (hown : VOwn w base v xs) (hl : xs.length ≤ 1048576) (hbase : base ≤ w.heap.size)
    (ad : Addr) (c : Nat) (y : Int × Nat × Nat) (hx : a.eval x = .slice (some ad) 1 c) (hc : ∀ j u, ([.int .i64 y.1, .slice (some ⟨y.2.1, 0, none⟩) 512 y.2.2] : List Value)[j]? = some u → w.cell? (ad.add j) = some u)
    (hK : ∀ v' w', VOwn w' base v' (xs ++ [y]) → w.grownBy w' v.ownBlock → K (a.put o.dst v') w') :
    if Region.wanted o (yielded ops a.tmps) = true then Oper.wp Tryz.prog o a w K Q else E := by
  have hw : Region.wanted o (yielded ops a.tmps) = true := by simp [Region.wanted, hg]
  rw [if_pos hw]
  obtain ⟨i0, hi, hh⟩ := Option.map_eq_some_iff.1 Tryz.infoWrite
  simp only [Prod.mk.injEq] at hh
  have h1c : ∀ u ∈ ([.int .i64 y.1, .slice (some ⟨y.2.1, 0, none⟩) 512 y.2.2] : List Value), u.oneCell' = true := by
    intro u hu
    rcases List.mem_cons.1 hu with rfl | hu
    · rfl
    · rcases List.mem_cons.1 hu with rfl | hu
      · rfl
      · cases hu
  obtain ⟨v', w', hrun, r1, r2, _⟩ := run_append_own (P := Tryz.prog) w base 43 o.type 42 i0 (.agg #[.int .i64 0, .slice none 0 0]) 2 32 Tryz.underlying43 hi hh.1 hh.2.1 hh.2.2 rfl (by decide) v xs.length (vcells xs) hown ad 1 c _ rfl hc h1c (by unfold maxLen; omega) (by omega) hbase
  unfold Oper.wp
  simp [execOp, ho, resolve, invoke, builtin, hs, hx, hrun, Result.andThen]
  exact hK v' w' (by unfold VOwn; rw [vcells_snoc, List.length_append]; exact r1) r2
/-- An append of bytes to an empty slice without room, as one step of a region that draws. -/
theorem step_append_fresh {ops : Array Oper} {o : Oper} {a : Act} {w : World} {K : Act → World → Prop} {Q : Exit → Act → World → Prop} {E : Prop}
    (hg : o.guard = none) (s x : Operand) (ho : o.op = .call { callee := .builtin .append, args := #[s, x], argTypes := #[34, 34] })
    (g0 : Nat) (hs : a.eval s = .slice (some ⟨g0, 0, none⟩) 0 0)
    (ad : Addr) (c : Nat) (m : List UInt8) (hx : a.eval x = .slice (some ad) 512 c) (hy : Sl w (.slice (some ad) 512 c) m)
    (hK : ∀ g' c' w', Own w' w.heap.size (.slice (some ⟨g', 0, none⟩) 512 c') m → Below w.heap.size w w' → K (a.put o.dst (.slice (some ⟨g', 0, none⟩) 512 c')) w') :
    if Region.wanted o (yielded ops a.tmps) = true then Oper.wp Tryz.prog o a w K Q else E := by
  have hw : Region.wanted o (yielded ops a.tmps) = true := by simp [Region.wanted, hg]
  rw [if_pos hw]
  obtain ⟨i0, hi, hz0, hz1, hz2⟩ := info_parts Tryz.info5
  have hm := hy.lenEq
  obtain ⟨ao, cap, e, h1, h2, h4⟩ := hy
  injection e with e1 e2 e3
  subst e1 e3
  have hnews : ∀ j u, (m.map bv)[j]? = some u → w.cell? (ad.add j) = some u := by
    intro j u hj
    rw [List.getElem?_map] at hj
    by_cases hjl : j < m.length
    · rw [List.getElem?_eq_getElem hjl] at hj
      simp only [Option.map_some, Option.some.injEq] at hj
      subst hj
      obtain ⟨b, off, e, _, hc⟩ := h4 (by omega)
      cases e
      rw [addr_add]; exact hc j hjl
    · rw [List.getElem?_eq_none (by omega)] at hj; cases hj
  obtain ⟨v', w', hrun, r1, r2⟩ := run_append_arg_grows (P := Tryz.prog) w 34 o.type 5 i0 (.int .u8 0) 1 1 Tryz.underlying34 hi hz0 hz1 hz2 rfl (by decide) ⟨g0, 0, none⟩ 0 0 [] (by simp) (fun j u hj => by simp at hj) ad 512 c (m.map bv) (by simp; omega) hnews (by omega) (by unfold maxLen; omega) (by omega)
  have hown : Own w' w.heap.size v' m := by unfold Own; rw [← hm]; simpa using r1
  have hform : ∃ g' c', v' = .slice (some ⟨g', 0, none⟩) 512 c' := by
    rcases hown.2 with ⟨_, h0⟩ | ⟨g, cap, cur, hv, _⟩
    · omega
    · exact ⟨g, cap, by rw [hv, ← hm]⟩
  obtain ⟨g', c', rfl⟩ := hform
  unfold Oper.wp
  simp [execOp, ho, resolve, invoke, builtin, hs, hx, hrun, Result.andThen]
  exact hK _ _ _ hown ((Below.refl _ _).grown r2 (Nat.le_refl _) (fun k hk => by cases hk))
/-- The writes' bytes, each in memory of its own. -/
def DV (w : World) (base : Nat) (xs : List (Int × Nat × Nat)) (ws : List (Int × List UInt8)) : Prop :=
  xs.length = ws.length ∧ ∀ i (h1 : i < xs.length) (h2 : i < ws.length), xs[i].1 = ws[i].1 ∧ Own w base (.slice (some ⟨xs[i].2.1, 0, none⟩) 512 xs[i].2.2) ws[i].2
theorem DV.nil (w : World) (base : Nat) : DV w base [] [] := ⟨rfl, fun i h => by simp at h⟩
theorem DV.snoc {w : World} {base : Nat} {xs : List (Int × Nat × Nat)} {ws : List (Int × List UInt8)} (h : DV w base xs ws) (x : Int) (q c : Nat) (L : List UInt8) (ho : Own w base (.slice (some ⟨q, 0, none⟩) 512 c) L) : DV w base (xs ++ [(x, q, c)]) (ws ++ [(x, L)]) := by
  refine ⟨by simp [h.1], fun i h1 h2 => ?_⟩
  by_cases hi : i < xs.length
  · have hi2 : i < ws.length := by rw [← h.1]; exact hi
    rw [List.getElem_append_left hi, List.getElem_append_left hi2]
    exact h.2 i hi hi2
  · have e1 : i = xs.length := by simp at h1; omega
    subst e1
    have e2 : xs.length = ws.length := h.1
    rw [List.getElem_append_right (Nat.le_refl _), List.getElem_append_right (by omega)]
    simp only [Nat.sub_self, e2, List.getElem_cons_zero]
    exact ⟨trivial, ho⟩
theorem own_blk {w : World} {base g n cap : Nat} {l : List UInt8} (h : Own w base (.slice (some ⟨g, 0, none⟩) n cap) l) : base ≤ g ∧ g < w.heap.size ∧ ∃ cur, w.heap[g]? = some (.cells cur 5 (0, 0)) := by
  rcases h.2 with ⟨hh, _⟩ | ⟨q, c, cur, e1, hb, hg, r⟩
  · cases hh
  · cases e1; exact ⟨hb, lt_of_block hg, cur, hg⟩
theorem own_keep {w w' : World} {base g n cap : Nat} {l : List UInt8} (h : Own w base (.slice (some ⟨g, 0, none⟩) n cap) l) (e : w'.heap[g]? = w.heap[g]?) : Own w' base (.slice (some ⟨g, 0, none⟩) n cap) l := by
  obtain ⟨h1, h2⟩ := h
  refine ⟨h1, ?_⟩
  rcases h2 with h2 | ⟨q, c, cur, e1, hb, hg, r⟩
  · exact .inl h2
  · cases e1; exact .inr ⟨_, _, cur, rfl, hb, e.trans hg, r⟩
theorem own_from {w : World} {base base' g n cap : Nat} {l : List UInt8} (h : Own w base (.slice (some ⟨g, 0, none⟩) n cap) l) (hb : base' ≤ base) : Own w base' (.slice (some ⟨g, 0, none⟩) n cap) l := by
  obtain ⟨h1, h2⟩ := h
  refine ⟨h1, ?_⟩
  rcases h2 with h2 | ⟨q, c, cur, e1, hb', hg, r⟩
  · exact .inl h2
  · exact .inr ⟨q, c, cur, e1, by omega, hg, r⟩
theorem DV.kept {w w' : World} {base : Nat} {xs : List (Int × Nat × Nat)} {ws : List (Int × List UInt8)} (h : DV w base xs ws) (hk : ∀ (q : Nat) (cs : Array Value), w.heap[q]? = some (.cells cs 5 (0, 0)) → w'.heap[q]? = w.heap[q]?) : DV w' base xs ws :=
  ⟨h.1, fun i h1 h2 => ⟨(h.2 i h1 h2).1, by
    have ho := (h.2 i h1 h2).2
    obtain ⟨_, _, cur, hg⟩ := own_blk ho
    exact own_keep ho (hk _ _ hg)⟩⟩
/-- Writes of one's own, as blocks that were to be written: they stay while new memory does. -/
theorem wrs_way {w : World} {base : Nat} {v : Value} {xs : List (Int × Nat × Nat)} {ws : List (Int × List UInt8)} (h : VOwn w base v xs) (hd : DV w base xs ws) (hw : ∀ p ∈ ws, p.2.length = 512 ∧ -9223372036854775808 ≤ p.1 ∧ p.1 ≤ 9223372036854775807) : WrsG w (fun j => base ≤ j ∧ j < w.heap.size) v ws := by
  intro w' hs
  obtain ⟨ao, cap, e, h1, h2, h4⟩ := h.form
  refine ⟨ao, cap, by rw [e, hd.1], by rw [← hd.1]; exact h1, h2, hw, fun hn => ?_⟩
  obtain ⟨g, e2, hb, hlt, hc⟩ := h4 (by rw [hd.1]; exact hn)
  have hbg := hs.2 g ⟨hb, hlt⟩
  refine ⟨g, 0, e2, by have := hs.1; omega, fun i hi => ?_⟩
  have hi2 : i < xs.length := by rw [hd.1]; exact hi
  obtain ⟨c0, c1⟩ := hc i hi2
  obtain ⟨d0, d1⟩ := hd.2 i hi2 hi
  obtain ⟨o1, o2, _⟩ := own_blk d1
  refine ⟨some ⟨xs[i].2.1, 0, none⟩, xs[i].2.2, ?_, ?_, ?_⟩
  · rw [Nat.zero_add, World.cell?_of_block hbg, c0, d0]
  · rw [Nat.zero_add, World.cell?_of_block hbg, c1]
  · exact (own_keep d1 (hs.2 _ ⟨o1, o2⟩)).sl
/-- The document's log stays where all but writes and its head do. -/
theorem RefAt.stay {w w' : World} {G : Nat → Prop} {rb nb mb nc mc : Nat} {yv yv' : Value} {hf hf' : Bool} {now : Nat → List UInt8} {may : Nat → List (List UInt8)} {vs : Nat → Value} (h : RefAt w G rb nb mb nc mc yv hf now may vs)
    (hk : ∀ (q : Nat) (cs : Array Value) (t : TypeId), w.heap[q]? = some (.cells cs t (0, 0)) → t ≠ 42 → q ≠ rb → w'.heap[q]? = w.heap[q]?)
    (hr : w'.heap[rb]? = some (.cells #[.slice (some ⟨nb, 0, none⟩) 44 nc, .slice (some ⟨mb, 0, none⟩) 44 mc, yv', .bool hf'] 52 (0, 0))) : RefAt w' G rb nb mb nc mc yv' hf' now may vs := by
  obtain ⟨k1, k2, k3, k4⟩ := h.kinds
  exact { h with
    blk := hr
    nowR := rowF h.nowR fun q hq _ => by
      obtain ⟨_, cur, hg⟩ := rowL h.nowR hq
      exact hk q cur _ hg (by decide) (by cases hq; exact k1)
    mayR := rowF h.mayR fun q hq _ => by
      obtain ⟨_, cur, hg⟩ := rowL h.mayR hq
      exact hk q cur _ hg (by decide) (by cases hq; exact k2)
    rows := fun i hi => rowF (h.rows i hi) fun q hq _ => by
      obtain ⟨_, cur, hg⟩ := rowL (h.rows i hi) hq
      exact hk q cur _ hg (by decide) (k4 i q hi hq).1 }
end Go.Proofs.YtfnhhjpebilacaaGreat
