/-
  DERIVED. The walk of Index.All.
-/
import Derived.Test.YtabcmmhmghgliaaXall
namespace Go.Proofs.Ytabcmmhmghgliaa
open Go.RowKit Go.Maps
set_option linter.unusedVariables false

theorem IxIn.avc {w : World} {F : Nat → Prop} {st mp mk N : Nat} {I : Ix} {xs : List (Ent × Nat)} {av : Value} {pf : List UInt8 → Value} {D1 D2 : DataW Value} (h : IxIn w F st mp mk N I xs av pf D1 D2) : (av = .slice none 0 0 ∧ xs.length = 0) ∨ ∃ g cap, av = .slice (some ⟨g, 0, none⟩) xs.length cap ∧ xs.length ≤ cap ∧ cap ≤ 9223372036854775807 := by
  rcases h.row.2 with ⟨e, h0⟩ | ⟨g, cap, cur, e, _, _, h1, h2, _⟩
  · exact .inl ⟨e, h0⟩
  · exact .inr ⟨g, cap, e, h1, by unfold maxLen at h2; omega⟩

/-- Where the loop stands: so many entries from a place on. -/
structure AlSt (w W : World) (q m k : Nat) (I : Ix) (fr : Nat) (zs : List Eno) : Prop where
  blk : EnBlk W q m zs
  len : zs.length = k
  ent : ∀ i, (h : i < zs.length) → zs[i].pos = fr + i ∧ I.all[fr + i]? = some zs[i].e
  new : ∀ z ∈ zs, w.heap.size ≤ z.fb
  bel : Below w.heap.size w W
  hq : w.heap.size ≤ q

theorem AlSt.step {w W W1 W2 : World} {q m k fr : Nat} {I : Ix} {zs : List Eno} (h : AlSt w W q m k I fr zs) (hk : k < m) (hb1 : Below W.heap.size W W1) (x : Ent) (hx : I.all[fr + k]? = some x) (h16 : x.e.fields.length ≤ 16) (p : Nat) (hp : W1.heap.size ≤ p) (hf : FdBlk W2 p x.e.fields.length x.e.fields) (hb : Below W1.heap.size W1 W2) :
    (∀ j, j < 6 → (∃ v, W2.cell? ⟨q, k * 6 + j, none⟩ = some v) ∧ W2.frozen? ⟨q, k * 6 + j, none⟩ = false) ∧ AlSt w (put6 W2 q k ⟨fr + k, x, p⟩) q m (k + 1) I fr (zs ++ [⟨fr + k, x, p⟩]) := by
  have hbb : Below W.heap.size W W2 := hb1.trans (hb.mono hb1.size)
  have hblk : EnBlk W2 q m zs := h.blk.grown hbb
  have hlen := h.len
  subst hlen
  have hz1 := hb1.size
  have hz := h.bel.size
  refine ⟨fun j hj => hblk.room hk j hj, ?_⟩
  refine { blk := hblk.put hk ⟨fr + zs.length, x, p⟩ hf h16, len := by simp, ent := ?_, new := ?_, bel := ?_, hq := h.hq }
  · intro i hi
    by_cases hlt : i < zs.length
    · rw [List.getElem_append_left hlt]; exact h.ent i hlt
    · have hi' : i = zs.length := by simp at hi; omega
      subst hi'
      have hf' : (zs ++ [(⟨fr + zs.length, x, p⟩ : Eno)])[zs.length] = ⟨fr + zs.length, x, p⟩ := by simp
      rw [hf']
      exact ⟨rfl, hx⟩
  · intro z hz'
    rcases List.mem_append.1 hz' with h' | h'
    · exact h.new z h'
    · rw [List.mem_singleton.1 h']; show w.heap.size ≤ p; omega
  · have hq := h.hq
    unfold put6
    exact ((((((h.bel.trans (hbb.mono hz)).setCell (p := ⟨q, _, none⟩) hq _).setCell (p := ⟨q, _, none⟩) hq _).setCell (p := ⟨q, _, none⟩) hq _).setCell (p := ⟨q, _, none⟩) hq _).setCell (p := ⟨q, _, none⟩) hq _).setCell (p := ⟨q, _, none⟩) hq _

def AllPost (I : Ix) (fr mo : Nat) (w : World) (e : Ending) (w' : World) : Prop :=
  ∃ q zs, e = .returned (.tuple #[.slice (some ⟨q, 0, none⟩) (min mo (I.all.length - fr)) (min mo (I.all.length - fr)), .int .i64 0]) ∧ AlSt w w' q (min mo (I.all.length - fr)) (min mo (I.all.length - fr)) I fr zs

set_option maxRecDepth 20000 in
set_option maxHeartbeats 4000000 in
theorem All_go {w : World} {F : Nat → Prop} {x N : Nat} {I : Ix} (h : IxAt w F x N I) (hN : N ≤ 100000) (fr mo : Nat) (hfr : fr ≤ 9223372036854775807) (hmo : mo ≤ 9223372036854775807) :
    Calls Try.prog 7 #[.pointer (some ⟨x, 0, none⟩), .int .i64 (fr : Int), .int .i64 (mo : Int)] w (AllPost I fr mo w) := by
  obtain ⟨st, hx, _, mp, mk, xs, av, pf, D1, D2, hi⟩ := h
  have hl : xs.length = I.all.length := by rw [← hi.all, List.length_map]
  have hlN := hi.len
  obtain ⟨L, hL⟩ : ∃ L, L = I.all.length := ⟨_, rfl⟩
  rw [← hL] at hl hlN
  have hav : ∃ a c, av = .slice a L c ∧ L ≤ c ∧ c ≤ 9223372036854775807 ∧ (a = none → L = 0 ∧ c = 0) ∧ (∀ ad, a = some ad → ∃ g, ad = ⟨g, 0, none⟩) := by
    rcases hi.avc with ⟨e, h0⟩ | ⟨g, cap, e, h1, h2⟩
    · exact ⟨none, 0, by rw [e, ← hl, h0], by omega, by omega, fun _ => ⟨by omega, rfl⟩, fun _ h => (by cases h)⟩
    · exact ⟨some ⟨g, 0, none⟩, cap, by rw [e, hl], by omega, h2, fun h => (by cases h), fun ad h => (by cases h; exact ⟨g, rfl⟩)⟩
  obtain ⟨a, c, rfl, hLc, hc9, hnone, hsome⟩ := hav
  have CN := hide (now_go hx hi.stc ⟨a, _, c, rfl⟩)
  obtain ⟨w1, hw1⟩ : ∃ w1, w1 = w.alloc (.cells (stV (.slice a L c) (some mp) (some mk)) 68) := ⟨_, rfl⟩
  have b1 : Below w.heap.size w w1 := by rw [hw1]; exact (Below.refl _ _).alloc (Nat.le_refl _) _
  have i1 := hi.frame (w' := w1) fun q _ hl => b1.block q hl
  obtain ⟨m, hm⟩ : ∃ m, m = min mo (L - fr) := ⟨_, rfl⟩
  have CP : Hid (Calls Try.prog 24 #[.slice a L c, .int .i64 (fr : Int), .int .i64 (mo : Int)] w1 (PartEPost w1 a L fr mo)) := hide (by
    cases a with
    | none =>
      obtain ⟨h0, h1⟩ := hnone rfl
      rw [h0, h1]
      exact PartE_nil w1 fr mo hfr hmo
    | some ad =>
      obtain ⟨g, rfl⟩ := hsome ad rfl
      by_cases hlt : fr < L
      · exact PartE_in w1 g L c fr mo hLc hc9 hlt hmo
      · exact PartE_out w1 g L c fr mo hLc hc9 (by omega) hfr hmo)
  have f0 := field0 a L c (some mp) (some mk)
  obtain ⟨w2, hmk, blk0, g2⟩ := make_entries w1 m (by omega)
  have b2 : Below w.heap.size w w2 := b1.trans ⟨g2.os, g2.tape, g2.output, g2.size, fun k hk => g2.block k (by have := b1.size; omega) (by simp)⟩
  have ST0 : Hid (AlSt w w2 w1.heap.size m 0 I fr []) := hide { blk := blk0, len := rfl, ent := fun i h => by simp at h, new := fun z hz => by simp at hz, bel := b2, hq := b1.size }
  have HE : Hid (∀ W, Below w.heap.size w W → ∀ k, k < m → ∃ g, a = some ⟨g, 0, none⟩ ∧ ∃ (e : Ent) (fb : Nat), I.all[fr + k]? = some e ∧ W.cell? ⟨g, fr * 6 + k * 6, none⟩ = some (natV (fr + k)) ∧ W.cell? ⟨g, fr * 6 + k * 6 + 1, none⟩ = some (sv e.s) ∧ W.cell? ⟨g, fr * 6 + k * 6 + 2, none⟩ = some (natV e.num) ∧ W.cell? ⟨g, fr * 6 + k * 6 + 3, none⟩ = some (sv e.e.type) ∧ W.cell? ⟨g, fr * 6 + k * 6 + 4, none⟩ = some (.int .i64 e.e.ver) ∧ W.cell? ⟨g, fr * 6 + k * 6 + 5, none⟩ = some (.slice (some ⟨fb, 0, none⟩) e.e.fields.length e.e.fields.length) ∧ FdBlk W fb e.e.fields.length e.e.fields ∧ e.e.fields.length ≤ 16) := hide (fun W hW k hk => by
    have iW := hi.frame (w' := W) fun q _ hl => hW.block q hl
    cases a with
    | none => have := (hnone rfl).1; omega
    | some ad =>
      obtain ⟨g, rfl⟩ := hsome ad rfl
      refine ⟨g, rfl, ?_⟩
      have hik : fr + k < xs.length := by omega
      rw [← hl] at iW
      obtain ⟨e0, e1, e2, e3, e4, e5, e6, e7⟩ := iW.ent (fr + k) hik
      have hmul : (fr + k) * 6 = fr * 6 + k * 6 := Nat.add_mul _ _ _
      rw [hmul] at e0 e1 e2 e3 e4 e5
      refine ⟨xs[fr + k].1, xs[fr + k].2, ?_, e0, e1, e2, e3, e4, e5, e6, e7⟩
      rw [← hi.all, List.getElem?_map, List.getElem?_eq_getElem hik]; rfl)
  have HPZ : Hid (∀ W q zs, AlSt w W q m m I fr zs → AllPost I fr mo w (.returned (.tuple #[.slice (some ⟨q, 0, none⟩) m m, .int .i64 0])) W) := hide (fun W q zs h => ⟨q, zs, by rw [← hL, ← hm], by rw [← hL, ← hm]; exact h⟩)
  have HM := hide hm
  have hm1 : m ≤ 100000 := by omega
  clear hx hi i1 blk0 g2 b2 hl hL hnone hsome hm b1 hlN hLc hc9
  go_enter Try.func7, Try.ntmps7
  go_wp2_with fail
  refine (unhide CN).mono ?_
  rintro e w1' ⟨rfl, rfl⟩
  rw [← hw1]
  clear hw1 CN
  go_wp2_with fail
  refine (unhide CP).mono ?_
  rintro e w1' ⟨a', c', rfl, ha', hmc, rfl⟩
  rw [← unhide HM] at ha' hmc ⊢
  have HA := hide ha'
  clear ha' CP f0
  obtain ⟨q, hq⟩ : ∃ q, q = w1'.heap.size := ⟨_, rfl⟩
  rw [← hq] at hmk ST0
  clear hq
  go_wp2
  go_loopw [32] (fun i wr => ∃ (k : Nat) (zs : List Eno), k ≤ m ∧ i = .int .i64 (k : Int) ∧ Hid (AlSt w wr q m k I fr zs)) (fun i _ => m - (intOf i).toNat)
  case atStart => exact ⟨0, [], by omega, rfl, ST0⟩
  case round =>
    obtain ⟨k, zs, hk, rfl, ST⟩ := hrel
    clear ST0 hmk
    by_cases hlt : k < m
    · obtain ⟨g, hag, e, fb, hee, d0, d1, d2, d3, d4, d5, d6, d7⟩ := unhide HE wr (unhide ST).bel k hlt
      obtain rfl := unhide HA (by omega) g hag
      obtain ⟨es, en, ⟨et, ev, ef⟩⟩ := e
      simp only at d1 d2 d3 d4 d5 d6 d7
      have hz : wr.heap.size ≤ wr.heap.size := Nat.le_refl _
      have bA : Below wr.heap.size wr (wr.alloc (.cells (enA ((fr + k : Nat) : Int) es (en : Int) et ev (some ⟨fb, 0, none⟩) ef.length ef.length) 64)) := (Below.refl _ _).alloc (Nat.le_refl _) _
      have CA := hide (entryApart_go ((fr + k : Nat) : Int) es (en : Int) et ev (some ⟨fb, 0, none⟩) ef.length ef.length ef (wr.alloc (.cells (enA ((fr + k : Nat) : Int) es (en : Int) et ev (some ⟨fb, 0, none⟩) ef.length ef.length) 64)) ((d6.same (bA.block fb d6.lt)).fdl rfl (by omega)) d7)
      have STP := hide (fun W2 p (hp : (wr.alloc (.cells (enA ((fr + k : Nat) : Int) es (en : Int) et ev (some ⟨fb, 0, none⟩) ef.length ef.length) 64)).heap.size ≤ p) hf hb => (unhide ST).step (W2 := W2) hlt bA ⟨es, en, ⟨et, ev, ef⟩⟩ hee d7 p hp hf hb)
      obtain ⟨fk, hfk⟩ : ∃ fk : Int, fk = ((fr + k : Nat) : Int) := ⟨_, rfl⟩
      obtain ⟨M, hM⟩ : ∃ M, M = ef.length := ⟨_, rfl⟩
      have HFK := hide (And.intro hfk hM)
      unfold natV at d0 d2
      rw [← hfk] at d0 CA
      rw [← hM] at d5 CA
      rw [← hfk, ← hM] at STP
      clear hz bA d6 d7 hee hfk hM hag
      go_wp2_with fail
      refine (unhide CA).mono ?_
      clear CA
      rintro e2 w5 ⟨p, rfl, hp, hf, hb5⟩
      obtain ⟨rm, st2⟩ := unhide STP w5 p hp (by rw [(unhide HFK).2]; exact hf) hb5
      obtain ⟨⟨v0, r0⟩, s0⟩ := rm 0 (by omega)
      obtain ⟨⟨v1, r1⟩, s1⟩ := rm 1 (by omega)
      obtain ⟨⟨v2, r2⟩, s2⟩ := rm 2 (by omega)
      obtain ⟨⟨v3, r3⟩, s3⟩ := rm 3 (by omega)
      obtain ⟨⟨v4, r4⟩, s4⟩ := rm 4 (by omega)
      obtain ⟨⟨v5, r5⟩, s5⟩ := rm 5 (by omega)
      rw [Nat.add_zero] at r0 s0
      have ST2 : Hid (AlSt w ((((((w5.setCell ⟨q, k * 6, none⟩ (.int .i64 fk)).setCell ⟨q, k * 6 + 1, none⟩ (sv es)).setCell ⟨q, k * 6 + 2, none⟩ (.int .i64 (en : Int))).setCell ⟨q, k * 6 + 3, none⟩ (sv et)).setCell ⟨q, k * 6 + 4, none⟩ (.int .i64 ev)).setCell ⟨q, k * 6 + 5, none⟩ (.slice (some ⟨p, 0, none⟩) M M)) q m (k + 1) I fr (zs ++ [⟨fr + k, ⟨es, en, ⟨et, ev, ef⟩⟩, p⟩])) := hide (by
        have := st2
        unfold put6 natV at this
        rw [(unhide HFK).1, (unhide HFK).2]
        exact this)
      rw [← (unhide HFK).2]
      clear rm st2 hp hf hb5 STP HFK d0 d1 d2 d3 d4 d5 ST
      go_wp2
      go_roundw
      case rel => exact ⟨k + 1, _, by omega, by go_num, ST2⟩
      case measure => simp [intOf]; omega
    · have hkN : k = m := by omega
      subst hkN
      have HP := hide (unhide HPZ wr q zs (unhide ST))
      clear ST HE HPZ
      go_wp2
      go_ret2
      exact unhide HP
end Go.Proofs.Ytabcmmhmghgliaa
