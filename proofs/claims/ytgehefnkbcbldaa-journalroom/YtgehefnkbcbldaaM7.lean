/-
  DERIVED. A log in a law, and the law's own blocks beside it, which stay.
-/
import Derived.Test.YtgehefnkbcbldaaM6
import Derived.Test.YtgehefnkbcbldaaM5
namespace Go.Proofs.Ytgehefnkbcbldaa
open Go.RowKit
set_option linter.unusedVariables false
set_option maxRecDepth 20000

/-- The blocks of G stay. -/
def SameG (G : Nat → Prop) (w w' : World) : Prop := w.heap.size ≤ w'.heap.size ∧ ∀ q, G q → w'.heap[q]? = w.heap[q]?
theorem SameG.refl (G : Nat → Prop) (w : World) : SameG G w w := ⟨Nat.le_refl _, fun _ _ => rfl⟩
theorem SameG.trans {G : Nat → Prop} {a b c : World} (h : SameG G a b) (k : SameG G b c) : SameG G a c := ⟨Nat.le_trans h.1 k.1, fun q hq => (k.2 q hq).trans (h.2 q hq)⟩
theorem SameG.mono {G H : Nat → Prop} {a b : World} (h : SameG G a b) (hH : ∀ q, H q → G q) : SameG H a b := ⟨h.1, fun q hq => h.2 q (hH q hq)⟩
/-- A log with its device; G: the law's own blocks. -/
def Rst (w0 w : World) (b lb N : Nat) (G : Nat → Prop) (S : St) (dn : Bool) : Prop := ∃ F, LAt w0 w b lb N F S dn ∧ ∀ j, G j → j < w.heap.size ∧ ¬ F j ∧ j ≠ lb
/-- A device. -/
def RstD (w0 w : World) (b N : Nat) (G : Nat → Prop) (S : St) : Prop := ∃ F, Run w0 w b N F S ∧ ∀ j, G j → j < w.heap.size ∧ ¬ F j
theorem Rst.bel {w0 w : World} {b lb N : Nat} {G : Nat → Prop} {S : St} {dn : Bool} (h : Rst w0 w b lb N G S dn) : Below w0.heap.size w0 w := by
  obtain ⟨F, h1, _⟩ := h
  exact h1.run.bel
theorem RstD.bel {w0 w : World} {b N : Nat} {G : Nat → Prop} {S : St} (h : RstD w0 w b N G S) : Below w0.heap.size w0 w := by
  obtain ⟨F, h1, _⟩ := h
  exact h1.bel
theorem RstD.ops {w0 w : World} {b N : Nat} {G : Nat → Prop} {S : St} (h : RstD w0 w b N G S) : 64 ≤ S.safe.length ∧ S.safe.length ≤ 512 ∧ 0 ≤ S.ops ∧ S.ops ≤ N := by
  obtain ⟨F, h1, _⟩ := h
  exact h1.devB.len
theorem Rst.dev {w0 w : World} {b lb N : Nat} {G : Nat → Prop} {S : St} {dn : Bool} (h : Rst w0 w b lb N G S dn) : RstD w0 w b N G S := by
  obtain ⟨F, h1, h2⟩ := h
  exact ⟨F, h1.run, fun j hj => ⟨(h2 j hj).1, (h2 j hj).2.1⟩⟩
theorem Rst.ops {w0 w : World} {b lb N : Nat} {G : Nat → Prop} {S : St} {dn : Bool} (h : Rst w0 w b lb N G S dn) : 64 ≤ S.safe.length ∧ S.safe.length ≤ 512 ∧ 0 ≤ S.ops ∧ S.ops ≤ N := h.dev.ops
theorem LAt.grown {w0 w w' : World} {b lb N : Nat} {F : Nat → Prop} {S : St} {dn : Bool} (h : LAt w0 w b lb N F S dn) (hb : Below w.heap.size w w') : LAt w0 w' b lb N F S dn :=
  ⟨h.run.grown hb, h.log.of (hb.block _ h.log.lt), h.lo, h.off⟩
/-- New memory of the law's own is kept too. -/
theorem Rst.grown {w0 w w' : World} {b lb N : Nat} {G H : Nat → Prop} {S : St} {dn : Bool} (h : Rst w0 w b lb N G S dn) (hb : Below w.heap.size w w') (hH : ∀ j, H j → G j ∨ (w.heap.size ≤ j ∧ j < w'.heap.size)) : Rst w0 w' b lb N H S dn := by
  obtain ⟨F, h1, h2⟩ := h
  refine ⟨F, h1.grown hb, fun j hj => ?_⟩
  have hs := hb.size
  have hlt := h1.log.lt
  rcases hH j hj with h | h
  · have := h2 j h
    exact ⟨by omega, this.2⟩
  · exact ⟨h.2, fun hf => by have := (h1.run.foot j hf).2; omega, by omega⟩
theorem RstD.grown {w0 w w' : World} {b N : Nat} {G H : Nat → Prop} {S : St} (h : RstD w0 w b N G S) (hb : Below w.heap.size w w') (hH : ∀ j, H j → G j ∨ (w.heap.size ≤ j ∧ j < w'.heap.size)) : RstD w0 w' b N H S := by
  obtain ⟨F, h1, h2⟩ := h
  refine ⟨F, h1.grown hb, fun j hj => ?_⟩
  have hs := hb.size
  rcases hH j hj with h | h
  · have := h2 j h
    exact ⟨by omega, this.2⟩
  · exact ⟨h.2, fun hf => by have := (h1.foot j hf).2; omega⟩
theorem Rst.mono {w0 w : World} {b lb N M : Nat} {G : Nat → Prop} {S : St} {dn : Bool} (h : Rst w0 w b lb N G S dn) (hM : N ≤ M) : Rst w0 w b lb M G S dn := by
  obtain ⟨F, h1, h2⟩ := h
  exact ⟨F, ⟨⟨h1.run.dev.mono (fun _ h => h) hM, h1.run.foot, h1.run.bel⟩, h1.log, h1.lo, h1.off⟩, h2⟩
theorem RstD.mono {w0 w : World} {b N M : Nat} {G : Nat → Prop} {S : St} (h : RstD w0 w b N G S) (hM : N ≤ M) : RstD w0 w b M G S := by
  obtain ⟨F, h1, h2⟩ := h
  exact ⟨F, ⟨h1.dev.mono (fun _ h => h) hM, h1.foot, h1.bel⟩, h2⟩
/-- The law's own blocks turn. -/
theorem Rst.only {w0 w w' : World} {b lb N : Nat} {G : Nat → Prop} {S : St} {dn : Bool} (h : Rst w0 w b lb N G S dn) {x : Nat} (ho : Only x w w') (hx : G x) (hw : w0.heap.size ≤ x) : Rst w0 w' b lb N G S dn := by
  obtain ⟨F, h1, h2⟩ := h
  have hx2 := h2 x hx
  refine ⟨F, ⟨⟨h1.run.dev.frame fun k hk _ => ho.other k fun e => hx2.2.1 (e ▸ hk), fun j hj => by rw [ho.size]; exact h1.run.foot j hj, h1.run.bel.trans (ho.below _ hw)⟩, h1.log.of (ho.other lb (Ne.symm hx2.2.2)), h1.lo, h1.off⟩, fun j hj => by rw [ho.size]; exact h2 j hj⟩
theorem RstD.only {w0 w w' : World} {b N : Nat} {G : Nat → Prop} {S : St} (h : RstD w0 w b N G S) {x : Nat} (ho : Only x w w') (hx : G x) (hw : w0.heap.size ≤ x) : RstD w0 w' b N G S := by
  obtain ⟨F, h1, h2⟩ := h
  have hx2 := h2 x hx
  exact ⟨F, ⟨h1.dev.frame fun k hk _ => ho.other k fun e => hx2.2 (e ▸ hk), fun j hj => by rw [ho.size]; exact h1.foot j hj, h1.bel.trans (ho.below _ hw)⟩, fun j hj => by rw [ho.size]; exact h2 j hj⟩

theorem LW.rst {w0 w w' : World} {b lb M : Nat} {F : Nat → Prop} {T : St} {dn : Bool} (h : LW w0 w w' b lb F M T dn) {G : Nat → Prop} (hG : ∀ j, G j → j < w.heap.size ∧ ¬ F j ∧ j ≠ lb) : Rst w0 w' b lb M G T dn ∧ SameG G w w' := by
  obtain ⟨F', l, f, k⟩ := h
  have hs := k.size
  refine ⟨⟨F', l, fun j hj => ?_⟩, hs, fun q hq => ?_⟩
  · have := hG j hj
    exact ⟨by omega, fun hf => (f j hf).elim this.2.1 fun h => by omega, this.2.2⟩
  · have := hG q hq
    exact k.block q this.1 fun hf => hf.elim this.2.1 this.2.2

theorem LWs.rst {w0 w w' : World} {b lb M : Nat} {F : Nat → Prop} {T : St} {dn : Bool} (h : LWs w0 w w' b lb F M T dn) {G : Nat → Prop} (hG : ∀ j, G j → j < w.heap.size ∧ ¬ F j ∧ j ≠ lb) (hl : lb < w.heap.size) (hF : ∀ j, F j → j < w.heap.size) (q : Nat) (hq : w.heap.size ≤ q) (hq2 : q < w'.heap.size) : Rst w0 w' b lb M (fun j => G j ∨ j = q) T dn ∧ SameG G w w' := by
  obtain ⟨l, k⟩ := h
  have hs := k.size
  refine ⟨⟨F, l, fun j hj => ?_⟩, hs, fun q hq => ?_⟩
  · rcases hj with hj | rfl
    · have := hG j hj
      exact ⟨by omega, this.2⟩
    · exact ⟨hq2, fun hf => by have := hF _ hf; omega, by omega⟩
  · have := hG q hq
    exact k.block q this.1 fun hf => hf.elim this.2.1 this.2.2
theorem LWs.rst0 {w0 w w' : World} {b lb M : Nat} {F : Nat → Prop} {T : St} {dn : Bool} (h : LWs w0 w w' b lb F M T dn) {G : Nat → Prop} (hG : ∀ j, G j → j < w.heap.size ∧ ¬ F j ∧ j ≠ lb) : Rst w0 w' b lb M G T dn ∧ SameG G w w' := by
  obtain ⟨l, k⟩ := h
  have hs := k.size
  refine ⟨⟨F, l, fun j hj => ?_⟩, hs, fun q hq => ?_⟩
  · have := hG j hj
    exact ⟨by omega, this.2⟩
  · have := hG q hq
    exact k.block q this.1 fun hf => hf.elim this.2.1 this.2.2
theorem Rst.less {w0 w : World} {b lb N : Nat} {G H : Nat → Prop} {S : St} {dn : Bool} (h : Rst w0 w b lb N G S dn) (hH : ∀ j, H j → G j) : Rst w0 w b lb N H S dn := by
  obtain ⟨F, h1, h2⟩ := h
  exact ⟨F, h1, fun j hj => h2 j (hH j hj)⟩
theorem Read_r {w0 w : World} {b lb N : Nat} {G : Nat → Prop} {S : St} (h : Rst w0 w b lb N G S false) (hd : S.down = false) (hN : N < 800000) (n : Nat) (hn : n < S.safe.length - 20) :
    Calls Try.prog 12 #[.pointer (some ⟨lb, 0, none⟩), .int .i64 (n : Int)] w fun e w' => SameG G w w' ∧
      (((S.rd1).1 = 0 ∧ ∃ q, e = .returned (.tuple #[.slice (some ⟨q, 0, none⟩) 512 512, .int .i64 0]) ∧ w.heap.size ≤ q ∧ w'.heap[q]? = some (.cells ((S.newest (20 + n)).map bv).toArray 74 (0, 0)) ∧ (S.newest (20 + n)).length = 512 ∧ Rst w0 w' b lb (N + 2) (fun j => G j ∨ j = q) (S.rd1).2 false) ∨
       ((S.rd1).1 = 2 ∧ e = .returned (.tuple #[.slice none 0 0, .int .i64 2]) ∧ Rst w0 w' b lb (N + 2) G (S.rd1).2 true)) := by
  obtain ⟨F, h1, h2⟩ := h
  refine (Read_go h1 hd hN n hn).mono ?_
  rintro e w' ⟨hl, hh⟩
  rcases hh with ⟨e0, q, rfl, hq, hr, h5⟩ | ⟨e2, rfl⟩
  · rw [e0] at hl
    obtain ⟨r1, r2⟩ := hl.rst h2 h1.log.lt (fun j hj => (h1.run.foot j hj).2) q hq (lt_of_block hr)
    exact ⟨r2, .inl ⟨e0, q, rfl, hq, hr, h5, r1⟩⟩
  · rw [e2] at hl
    obtain ⟨r1, r2⟩ := hl.rst0 h2
    exact ⟨r2, .inr ⟨e2, rfl, r1⟩⟩
/-- Read where there is no fuse. -/
theorem Read_f {w0 w : World} {b lb N : Nat} {G : Nat → Prop} {S : St} {c : Nat → List UInt8} (h : Rst w0 w b lb N G S false) (hq : Quiet S c) (hf : Free S) (hN : N < 800000) (n : Nat) (hn : n < S.safe.length - 20) :
    Calls Try.prog 12 #[.pointer (some ⟨lb, 0, none⟩), .int .i64 (n : Int)] w fun e w' => SameG G w w' ∧
      ∃ q, e = .returned (.tuple #[.slice (some ⟨q, 0, none⟩) 512 512, .int .i64 0]) ∧ w.heap.size ≤ q ∧ w'.heap[q]? = some (.cells ((c n).map bv).toArray 74 (0, 0)) ∧ (c n).length = 512 ∧ Rst w0 w' b lb (N + 2) (fun j => G j ∨ j = q) S.burn false := by
  refine (Read_r h hf.up hN n hn).mono ?_
  rintro e w' ⟨r2, hh⟩
  rw [hf.rd1] at hh
  rcases hh with ⟨_, q, e1, e2, e3, e4, r1⟩ | ⟨e1, _⟩
  · rw [hq.is n hn] at e3 e4
    exact ⟨r2, q, e1, e2, e3, e4, r1⟩
  · exact absurd (show (0 : Int) = 2 from e1) (by decide)
theorem Quiet.burn {S : St} {c : Nat → List UInt8} (h : Quiet S c) (hf : Free S) : Quiet S.burn c := h.alike (Alike.refl S).burn hf.burn.up
/-- A block's slice. -/
theorem sl_block {w : World} {q : Nat} {L : List UInt8} {ty : TypeId} {fr : Nat × Nat} (h : w.heap[q]? = some (.cells (L.map bv).toArray ty fr)) (hL : L.length = 512) : Sl w (.slice (some ⟨q, 0, none⟩) 512 512) L := by
  refine ⟨some ⟨q, 0, none⟩, 512, by rw [hL], by rw [hL]; exact Nat.le_refl _, by unfold maxLen; omega, fun _ => ⟨q, 0, rfl, lt_of_block h, fun i hi => ?_⟩⟩
  rw [cell_of_row _ _ _ _ _ _ h]
  simp [hi]

/-- The blocks to be written, in the law's own memory. -/
def WrsG (w : World) (G : Nat → Prop) (v : Value) (ws : List (Int × List UInt8)) : Prop := ∀ w', SameG G w w' → Wrs w' v ws
theorem WrsG.here {w : World} {G : Nat → Prop} {v : Value} {ws : List (Int × List UInt8)} (h : WrsG w G v ws) : Wrs w v ws := h w (SameG.refl G w)
theorem WrsG.same {w w' : World} {G : Nat → Prop} {v : Value} {ws : List (Int × List UInt8)} (h : WrsG w G v ws) (hs : SameG G w w') : WrsG w' G v ws := fun w2 h2 => h w2 (hs.trans h2)
theorem WrsG.mono {w : World} {G H : Nat → Prop} {v : Value} {ws : List (Int × List UInt8)} (h : WrsG w G v ws) (hH : ∀ q, G q → H q) : WrsG w H v ws := fun w2 h2 => h w2 (h2.mono hH)

theorem Commit_r {w0 w : World} {b lb N : Nat} {G : Nat → Prop} {S : St} {c : Nat → List UInt8} (h : Rst w0 w b lb N G S false) (hq : Quiet S c) (hN : N < 400000) (v : Value) (ws : List (Int × List UInt8)) (hv : Wrs w v ws) :
    Calls Try.prog 11 #[.pointer (some ⟨lb, 0, none⟩), v] w fun e w' => e = .returned (.int .i64 (comE S ws).1) ∧ Rst w0 w' b lb (N + 200) G (comE S ws).2 (decide ((comE S ws).1 = 2)) ∧ SameG G w w' := by
  have ho := h.ops
  obtain ⟨F, h1, h2⟩ := h
  have hc := hq.cnt
  refine (Commit_go h1 hN hq.up (by omega) (fun ps hl h0 => lay_cnt hq (by omega) ps hl h0) v ws hv).mono ?_
  rintro e w' ⟨rfl, hl⟩
  obtain ⟨r1, r2⟩ := hl.rst h2
  exact ⟨rfl, r1, r2⟩
theorem okW_prt {size : Nat} {ws : List (Int × List UInt8)} (h : okW (size : Int) ws) : ∀ p ∈ prtW ws, p.1 < size := by
  intro p hp
  obtain ⟨x, hx, rfl⟩ := List.mem_map.1 hp
  have := h x hx
  simp only
  omega
/-- What a commit comes to, wherever the device stops. -/
theorem com_cases {S : St} {c : Nat → List UInt8} (h : Quiet S c) (hb : S.ops < 9000000000) (ws : List (Int × List UInt8)) (hl : ws.length ≤ 16) (hok : okW ((S.safe.length - 20 : Nat) : Int) ws) :
    (∃ T, comE S ws = (0, T) ∧ Quiet T (over (prtW ws) c) ∧ (∀ n, T.pend n = []) ∧ T.safe.length = S.safe.length ∧ T.fused = S.fused) ∨
    (∃ T, comE S ws = (2, T) ∧ T.down = true ∧ T.safe.length = S.safe.length ∧ ∀ cr, ∃ ns' c', Sound (T.crash cr) ns' c' ∧ ((∀ n, n < S.safe.length - 20 → S.may (20 + n) (c' n)) ∨ ∀ n, n < S.safe.length - 20 → c' n = over (prtW ws) c n)) := by
  have e : comE S ws = S.commitJ (prtW ws) := by unfold comE; rw [if_neg (by omega), if_pos hok]
  rw [e]
  have hpl : (prtW ws).length = ws.length := List.length_map _
  exact commit_cases h (prtW ws) (by omega) (okW_prt hok) (by omega) fun T hT => by
    have := lay_le S (prtW ws)
    rw [hT] at this
    simp only at this
    omega
theorem com_free {S : St} {c : Nat → List UInt8} (h : Quiet S c) (hf : Free S) (hb : S.ops < 9000000000) (ws : List (Int × List UInt8)) (hl : ws.length ≤ 16) (hok : okW ((S.safe.length - 20 : Nat) : Int) ws) :
    ∃ T, comE S ws = (0, T) ∧ Quiet T (over (prtW ws) c) ∧ (∀ n, T.pend n = []) ∧ T.safe.length = S.safe.length ∧ Free T := by
  have e : comE S ws = S.commitJ (prtW ws) := by unfold comE; rw [if_neg (by omega), if_pos hok]
  have hpl : (prtW ws).length = ws.length := List.length_map _
  rw [e]
  exact commit_free h hf (prtW ws) (by omega) (okW_prt hok) (by omega) fun T hT => by
    have := lay_le S (prtW ws)
    rw [hT] at this
    simp only at this
    omega

theorem Crash_r {w0 w : World} {b N : Nat} {G : Nat → Prop} {S : St} (h : RstD w0 w b N G S) (hN : N < 800000) (ps : List Int) (v : Value) (hv : Ints w0 v ps) :
    Calls Try.prog 16 #[.pointer (some ⟨b, 0, none⟩), v] w fun e w' => e = .returned (.tuple #[]) ∧ RstD w0 w' b N G (S.crash ps) ∧ SameG G w w' := by
  obtain ⟨F, h1, h2⟩ := h
  refine (Crash_run h1 hN ps v hv).mono ?_
  rintro e w' ⟨rfl, r1, k1⟩
  have := k1.size
  exact ⟨rfl, ⟨F, r1, fun j hj => ⟨by have := (h2 j hj).1; omega, (h2 j hj).2⟩⟩, k1.size, fun q hq => k1.block q (h2 q hq).1 (h2 q hq).2⟩
theorem Fuse_r {w0 w : World} {b lb N : Nat} {G : Nat → Prop} {S : St} {dn : Bool} (h : Rst w0 w b lb N G S dn) (k : Int) (k1 : -9223372036854775808 ≤ k) (k2 : k < 9223372036854775808) :
    Calls Try.prog 13 #[.pointer (some ⟨b, 0, none⟩), .int .i64 k] w fun e w' => e = .returned (.int .i64 (if S.down then 2 else 0)) ∧ Rst w0 w' b lb N G (S.fuseK k) dn ∧ SameG G w w' := by
  obtain ⟨F, h1, h2⟩ := h
  refine (Fuse_run h1.run k k1 k2).mono ?_
  rintro e w' ⟨rfl, r1, kk⟩
  have hs := kk.size
  refine ⟨rfl, ⟨F, ⟨r1, ?_, h1.lo, h1.off⟩, fun j hj => ⟨by have := (h2 j hj).1; omega, (h2 j hj).2⟩⟩, kk.size, fun q hq => kk.block q (h2 q hq).1 (h2 q hq).2.1⟩
  rw [St.fuseK_len]
  exact h1.log.of (kk.block lb h1.log.lt h1.off)
theorem Down_r {w0 w : World} {b N : Nat} {G : Nat → Prop} {S : St} (h : RstD w0 w b N G S) :
    Calls Try.prog 15 #[.pointer (some ⟨b, 0, none⟩)] w fun e w' => e = .returned (.bool S.down) ∧ w = w' := by
  obtain ⟨F, h1, h2⟩ := h
  exact Down_run h1
/-- Open, wherever the device stops. -/
theorem Open_r {w0 w : World} {b N : Nat} {G : Nat → Prop} {S : St} {ns : List Nat} {c : Nat → List UInt8} (h : RstD w0 w b N G S) (hs : Sound S ns c) (hN : N < 400000) :
    Calls Try.prog 17 #[.pointer (some ⟨b, 0, none⟩)] w fun e w' => SameG G w w' ∧
      (((S.openJ ((S.safe.length - 20 : Nat) : Int)).1 = 0 ∧ ∃ lb, e = .returned (.tuple #[.pointer (some ⟨lb, 0, none⟩), .int .i64 0]) ∧ Rst w0 w' b lb (N + 100) G (S.openJ ((S.safe.length - 20 : Nat) : Int)).2 false) ∨
       ((S.openJ ((S.safe.length - 20 : Nat) : Int)).1 ≠ 0 ∧ e = .returned (.tuple #[.pointer none, .int .i64 (S.openJ ((S.safe.length - 20 : Nat) : Int)).1]) ∧ RstD w0 w' b (N + 100) G (S.openJ ((S.safe.length - 20 : Nat) : Int)).2)) := by
  have ho := h.ops
  obtain ⟨F, h1, h2⟩ := h
  refine (Open_go h1 (by omega) (by have := hs.cnt; omega)).mono ?_
  rintro e w' hp
  have hG : ∀ (F' : Nat → Prop), (∀ j, F' j → F j ∨ w.heap.size ≤ j) → ∀ j, G j → ¬ F' j := fun F' hF' j hj hf => (hF' j hf).elim (h2 j hj).2 fun h => by have := (h2 j hj).1; omega
  rcases hp with ⟨e0, lb, F', rfl, hlb, l, f, k⟩ | ⟨e0, rfl, F', r, f, k⟩
  · have hs := k.size
    exact ⟨⟨hs, fun q hq => k.block q (h2 q hq).1 (h2 q hq).2⟩, .inl ⟨e0, lb, rfl, F', l, fun j hj => ⟨by have := (h2 j hj).1; omega, hG F' f j hj, by have := (h2 j hj).1; omega⟩⟩⟩
  · have hs := k.size
    exact ⟨⟨hs, fun q hq => k.block q (h2 q hq).1 (h2 q hq).2⟩, .inr ⟨e0, rfl, F', r, fun j hj => ⟨by have := (h2 j hj).1; omega, hG F' f j hj⟩⟩⟩
/-- Open where there is no fuse. -/
theorem Open_f {w0 w : World} {b N : Nat} {G : Nat → Prop} {S : St} {ns : List Nat} {c : Nat → List UInt8} (h : RstD w0 w b N G S) (hs : Sound S ns c) (hf : Free S) (hN : N < 400000) :
    Calls Try.prog 17 #[.pointer (some ⟨b, 0, none⟩)] w fun e w' => SameG G w w' ∧ ∃ lb T, e = .returned (.tuple #[.pointer (some ⟨lb, 0, none⟩), .int .i64 0]) ∧ Rst w0 w' b lb (N + 100) G T false ∧ Quiet T c ∧ (∀ n, T.pend n = []) ∧ T.safe.length = S.safe.length ∧ Free T := by
  have ho := h.ops
  obtain ⟨T, t1, t2, t3, t4, t5⟩ := open_free hs hf fun U hU => by have := wait_le hs U hU; omega
  refine (Open_r h hs hN).mono ?_
  rintro e w' ⟨sg, hp⟩
  rw [t1] at hp
  rcases hp with ⟨_, lb, e1, r⟩ | ⟨e0, _⟩
  · exact ⟨sg, lb, T, e1, r, t2, t3, t4, t5⟩
  · exact absurd rfl e0
theorem laid_r (w0 w : World) (hb : Below w0.heap.size w0 w) (n : Nat) (h1 : 64 ≤ n) (h2 : n ≤ 512) :
    Calls Try.prog 9 #[.int .i64 (n : Int)] w fun e w' => ∃ b lb T, e = .returned (.tuple #[.pointer (some ⟨b, 0, none⟩), .pointer (some ⟨lb, 0, none⟩)]) ∧ Rst w0 w' b lb 2200 (fun _ => False) T false ∧ Quiet T zeros ∧ (∀ k, T.pend k = []) ∧ T.safe.length = n ∧ Free T := by
  refine (laid_go w0 w hb n h1 h2).mono ?_
  rintro e w' ⟨b, lb, F, T, rfl, hf, _⟩
  exact ⟨b, lb, T, rfl, ⟨F, hf.at_, fun _ h => h.elim⟩, hf.quiet, hf.none, hf.len, hf.free⟩
theorem Size_r {w0 w : World} {b lb N : Nat} {G : Nat → Prop} {S : St} {dn : Bool} (h : Rst w0 w b lb N G S dn) : Calls Try.prog 18 #[.pointer (some ⟨lb, 0, none⟩)] w fun e w' => e = .returned (.int .i64 ((S.safe.length - 20 : Nat) : Int)) ∧ w' = w := by
  obtain ⟨F, h1, h2⟩ := h
  exact Size_any w lb _ h1.log.c1
end Go.Proofs.Ytgehefnkbcbldaa

/-
  DERIVED. The chapter's examples are so.
-/
namespace Go.Proofs.Ytgehefnkbcbldaa
open Go.RowKit
set_option linter.unusedVariables false
set_option maxRecDepth 20000

theorem okW_two (size : Nat) (h : 2 ≤ size) (A B : List UInt8) : okW (size : Int) [(0, A), (1, B)] := by
  intro p hp
  simp only [List.mem_cons, List.not_mem_nil, or_false] at hp
  rcases hp with rfl | rfl <;> simp only <;> omega

set_option maxHeartbeats 8000000 in
theorem Jawake_any (w : World) : Calls Try.prog 8 #[] w fun e w' => e = .returned (.bool true) ∧ Below w.heap.size w w' := by
  go_enter Try.func8, Try.ntmps8
  go_wp2_with fail
  refine (laid_r w w (Below.refl _ _) 64 (by omega) (by omega)).mono ?_
  rintro e w1 ⟨b, lb, T, rfl, r1, q1, n1, l1, f1⟩
  have R1 := hide r1
  have SZ := Size_r r1
  rw [l1] at SZ
  have HSZ := hide SZ
  clear r1 SZ
  go_wp2_with fail
  refine (unhide HSZ).mono ?_
  rintro e w2 ⟨rfl, rfl⟩
  go_wp2_with fail
  refine (Block_any 1 ⟨#[]⟩ w2 (by omega) (by omega)).mono ?_
  rintro e w3 ⟨rfl, s3, b3⟩
  obtain ⟨A, hA⟩ : ∃ A, A = headL ⟨#[]⟩ (fillL (UInt8.ofNat (pickR 1 255)) 512) := ⟨_, rfl⟩
  have hAl : A.length = 512 := by rw [hA]; exact headL_len _ _
  rw [← hA] at s3
  have B3 := hide b3
  have S3 := hide s3
  have z3 := b3.size
  have y3 : w2.heap.size < w3.heap.size := lt_of_block s3
  clear b3 s3 hA
  go_wp2_with fail
  refine (Block_any 2 ⟨#[]⟩ w3 (by omega) (by omega)).mono ?_
  rintro e w4 ⟨rfl, s4, b4⟩
  obtain ⟨C, hC⟩ : ∃ C, C = headL ⟨#[]⟩ (fillL (UInt8.ofNat (pickR 2 255)) 512) := ⟨_, rfl⟩
  have hCl : C.length = 512 := by rw [hC]; exact headL_len _ _
  rw [← hC] at s4
  have B4 := hide b4
  have S4 := hide s4
  have z4 := b4.size
  clear b4 s4 hC
  go_wp2_with fail
  obtain ⟨W5, hW5⟩ : ∃ W5, W5 = w4.alloc (.cells #[.int .i64 0, .slice (some ⟨w2.heap.size, 0, none⟩) 512 512, .int .i64 1, .slice (some ⟨w3.heap.size, 0, none⟩) 512 512] 38) := ⟨_, rfl⟩
  have hB5 : Below w4.heap.size w4 W5 := by rw [hW5]; exact (Below.refl _ _).alloc (Nat.le_refl _) _
  have hr5 : W5.heap[w4.heap.size]? = some (.cells #[.int .i64 0, .slice (some ⟨w2.heap.size, 0, none⟩) 512 512, .int .i64 1, .slice (some ⟨w3.heap.size, 0, none⟩) 512 512] 38 (0, 0)) := by rw [hW5]; exact heap_alloc_self _ _
  have y4 : w3.heap.size < w4.heap.size := lt_of_block (unhide S4)
  have z5 := hB5.size
  have sA : W5.heap[w2.heap.size]? = some (.cells (A.map bv).toArray 5 (0, 0)) := (hB5.block _ (by omega)).trans (((unhide B4).block _ (by omega)).trans (unhide S3))
  have sC : W5.heap[w3.heap.size]? = some (.cells (C.map bv).toArray 5 (0, 0)) := (hB5.block _ (by omega)).trans (unhide S4)
  have hB : Below w2.heap.size w2 W5 := ((unhide B3).trans ((unhide B4).mono z3)).trans (hB5.mono (by omega))
  obtain ⟨xa, hxa⟩ : ∃ xa, xa = w2.heap.size := ⟨_, rfl⟩
  obtain ⟨xc, hxc⟩ : ∃ xc, xc = w3.heap.size := ⟨_, rfl⟩
  have R5 : Hid (Rst w W5 b lb 2200 (fun j => j = xa ∨ j = xc) T false) := hide ((unhide R1).grown hB fun j hj => .inr (by rcases hj with rfl | rfl <;> omega))
  have hwr : Wrs W5 (.slice (some ⟨w4.heap.size, 0, none⟩) 2 2) [(0, A), (1, C)] := by
    refine ⟨_, 2, rfl, by simp, by omega, fun p hp => ?_, fun _ => ⟨w4.heap.size, 0, rfl, lt_of_block hr5, fun i hi => ?_⟩⟩
    · simp only [List.mem_cons, List.not_mem_nil, or_false] at hp
      rcases hp with rfl | rfl
      · exact ⟨hAl, by simp only; omega, by simp only; omega⟩
      · exact ⟨hCl, by simp only; omega, by simp only; omega⟩
    · have hi2 : i < 2 := hi
      rcases (show i = 0 ∨ i = 1 by omega) with rfl | rfl
      · exact ⟨_, _, (cell_of_row _ _ _ _ _ _ hr5).trans rfl, (cell_of_row _ _ _ _ _ _ hr5).trans rfl, sl_block sA hAl⟩
      · exact ⟨_, _, (cell_of_row _ _ _ _ _ _ hr5).trans rfl, (cell_of_row _ _ _ _ _ _ hr5).trans rfl, sl_block sC hCl⟩
  have ho5 := (unhide R5).ops
  obtain ⟨T2, t1, t2, t3, t4, t5⟩ := com_free q1 f1 (by omega) [(0, A), (1, C)] (by simp) (okW_two _ (by rw [l1]; decide) A C)
  have CM := Commit_r (unhide R5) q1 (by omega) _ _ hwr
  rw [t1] at CM
  have HCM := hide CM
  have SA := hide sA
  have SC := hide sC
  have HTQ := hide t2
  have HTP := hide t3
  rw [← hW5]
  rw [← hxa, ← hxc] at *
  clear hW5 hwr CM t1 hr5 sA sC hB hB5 R1 B3 B4 S3 S4 hxa hxc t2 t3 q1 n1 ho5 z3 y3 z4 y4 z5
  refine (unhide HCM).mono ?_
  rintro e w6 ⟨rfl, r6, g6⟩
  have R6 : Hid (RstD w w6 b 2400 (fun j => j = xa ∨ j = xc) T2) := hide r6.dev
  have SG6 := hide g6
  clear r6 g6 HCM R5
  go_wp2_with fail
  refine (Crash_r (unhide R6) (by omega) [] _ (ints_nil w)).mono ?_
  rintro e w7 ⟨rfl, r7, g7⟩
  have R7 := hide r7
  have SG7 := hide ((unhide SG6).trans g7)
  clear r7 g7 R6 SG6
  have hsd := ((unhide HTQ).sound (unhide HTP)).crash []
  have HOP := hide (Open_f (unhide R7) hsd (Free.crash T2 []) (by omega))
  have l7 : (T2.crash []).safe.length = 64 := by rw [crash_len, t4, l1]
  rw [l7] at HOP
  clear hsd l7
  go_wp2_with fail
  refine (unhide HOP).mono ?_
  rintro e w8 ⟨g8, mb, T3, rfl, r8, q8, p8, l8, f8⟩
  have R8 := hide r8
  have SG8 := hide ((unhide SG7).trans g8)
  have Q8 := hide q8
  clear r8 g8 SG7 R7 HOP p8
  go_wp2_with fail
  refine (Read_f (unhide R8) (unhide Q8) f8 (by omega) 0 (by rw [l8]; decide)).mono ?_
  rintro e w9 ⟨g9, qa, rfl, hqa, s9, h9, r9⟩
  have R9 := hide r9
  have SG9 := hide ((unhide SG8).trans g9)
  have Q9 := hide ((unhide Q8).burn f8)
  have S9 := hide s9
  clear r9 g9 SG8 R8 Q8 s9
  go_wp2_with fail
  refine (Read_f (unhide R9) (unhide Q9) f8.burn (by omega) 1 (by show 1 < T3.safe.length - 20; rw [l8]; decide)).mono ?_
  rintro e wA ⟨gA, qb, rfl, hqb, sA, hA9, rA⟩
  have e0 : over (prtW [(0, A), (1, C)]) zeros 0 = A := by simp [over, prtW]
  have e1 : over (prtW [(0, A), (1, C)]) zeros 1 = C := by simp [over, prtW]
  have k0 : Sl wA (.slice (some ⟨qa, 0, none⟩) 512 512) A := sl_block ((gA.2 qa (.inr rfl)).trans (by have := unhide S9; rw [e0] at this; exact this)) hAl
  have k1 : Sl wA (.slice (some ⟨qb, 0, none⟩) 512 512) C := sl_block (by rw [e1] at sA; exact sA) hCl
  have k2 : Sl wA (.slice (some ⟨xa, 0, none⟩) 512 512) A := sl_block ((gA.2 xa (.inl (.inl rfl))).trans (((unhide SG9).2 xa (.inl rfl)).trans (unhide SA))) hAl
  have k3 : Sl wA (.slice (some ⟨xc, 0, none⟩) 512 512) C := sl_block ((gA.2 xc (.inl (.inr rfl))).trans (((unhide SG9).2 xc (.inr rfl)).trans (unhide SC))) hCl
  have v0 := k0.strJ
  have v1 := k1.strJ
  have v2 := k2.strJ
  have v3 := k3.strJ
  have RA := hide rA.bel
  clear k0 k1 k2 k3 rA gA SG9 S9 sA R9 Q9 e0 e1 SA SC
  go_wp2
  go_ret
  exact ⟨rfl, unhide RA⟩
end Go.Proofs.Ytgehefnkbcbldaa

/-
  DERIVED. Format of no device, Commit of no log.
-/
namespace Go.Proofs.Ytgehefnkbcbldaa
open Go.RowKit
set_option linter.unusedVariables false

theorem JFormat_nil (w : World) : Calls Try.prog 22 #[.pointer none] w fun e w' => e = .returned (.int .i64 1) ∧ w.grownBy w' none := by
  have hg := World.grownBy_alloc w (.cells #[.pointer none] 25) none
  go_enter Try.func22, Try.ntmps22
  go_wp2
  go_ret
  exact ⟨rfl, hg⟩
theorem JCommit_nil (w : World) (v : Value) : Calls Try.prog 11 #[.pointer none, v] w fun e w' => e = .returned (.int .i64 1) ∧ w.grownBy w' none := by
  have hg := World.grownBy_alloc w (.cells #[.pointer none] 26) none
  go_enter Try.func11, Try.ntmps11
  go_wp2_with fail
  refine (Jup_nil _).mono ?_
  rintro e w1 ⟨rfl, rfl⟩
  go_wp2
  go_ret
  exact ⟨rfl, hg⟩
end Go.Proofs.Ytgehefnkbcbldaa
