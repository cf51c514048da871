/-
  DERIVED. The walk of Index.Stream.
-/
import Derived.Test.YtabcmmhmghgliaaXall2
namespace Go.Proofs.Ytabcmmhmghgliaa
open Go.RowKit Go.Maps
set_option linter.unusedVariables false

theorem plc_at {l : List Ent} {s : List UInt8} {p : Nat} (h : p ∈ plc l s) : ∃ e, l[p]? = some e ∧ e.s = s := by
  unfold plc at h
  obtain ⟨⟨e, i⟩, hm, rfl⟩ := List.mem_map.1 h
  obtain ⟨h1, h2⟩ := List.mem_filter.1 hm
  exact ⟨e, by simpa using (List.mem_zipIdx_iff_getElem?.1 h1), by simpa using h2⟩
theorem IxIn.pvc {w : World} {F : Nat → Prop} {st mp mk N : Nat} {I : Ix} {xs : List (Ent × Nat)} {av : Value} {pf : List UInt8 → Value} {D1 D2 : DataW Value} (h : IxIn w F st mp mk N I xs av pf D1 D2) (s : List UInt8) : (pf s = .slice none 0 0 ∧ I.ver s = 0) ∨ ∃ g cap, pf s = .slice (some ⟨g, 0, none⟩) (I.ver s) cap ∧ I.ver s ≤ cap ∧ cap ≤ 9223372036854775807 ∧ ∀ i, (hi : i < (plc I.all s).length) → w.cell? ⟨g, i, none⟩ = some (natV (plc I.all s)[i]) := by
  rcases (h.rows s).2 with ⟨e, h0⟩ | ⟨g, cap, cur, e, _, _, h1, h2, _⟩
  · exact .inl ⟨e, h0⟩
  · refine .inr ⟨g, cap, e, h1, by unfold maxLen at h2; omega, fun i hi => ?_⟩
    have hr := h.rows s
    rw [e] at hr
    rw [hr.cellAt i (by omega), List.getElem?_map, List.getElem?_eq_getElem hi]
    rfl

/-- Where the loop stands: so many entries, by their places. -/
structure PlSt (w W : World) (q m k : Nat) (I : Ix) (s : List UInt8) (fr : Nat) (zs : List Eno) : Prop where
  blk : EnBlk W q m zs
  len : zs.length = k
  ent : ∀ i, (h : i < zs.length) → (plc I.all s)[fr + i]? = some zs[i].pos ∧ I.all[zs[i].pos]? = some zs[i].e
  new : ∀ z ∈ zs, w.heap.size ≤ z.fb
  bel : Below w.heap.size w W
  hq : w.heap.size ≤ q

theorem PlSt.step {w W W2 : World} {q m k fr : Nat} {I : Ix} {s : List UInt8} {zs : List Eno} (h : PlSt w W q m k I s fr zs) (hk : k < m) (n : Nat) (hn : (plc I.all s)[fr + k]? = some n) (x : Ent) (hx : I.all[n]? = some x) (h16 : x.e.fields.length ≤ 16) (p : Nat) (hp : W.heap.size ≤ p) (hf : FdBlk W2 p x.e.fields.length x.e.fields) (hb : Below W.heap.size W W2) :
    (∀ j, j < 6 → (∃ v, W2.cell? ⟨q, k * 6 + j, none⟩ = some v) ∧ W2.frozen? ⟨q, k * 6 + j, none⟩ = false) ∧ PlSt w (put6 W2 q k ⟨n, x, p⟩) q m (k + 1) I s fr (zs ++ [⟨n, x, p⟩]) := by
  have hblk : EnBlk W2 q m zs := h.blk.grown hb
  have hlen := h.len
  subst hlen
  have hz := h.bel.size
  refine ⟨fun j hj => hblk.room hk j hj, ?_⟩
  refine { blk := hblk.put hk ⟨n, x, p⟩ hf h16, len := by simp, ent := ?_, new := ?_, bel := ?_, hq := h.hq }
  · intro i hi
    by_cases hlt : i < zs.length
    · rw [List.getElem_append_left hlt]; exact h.ent i hlt
    · have hi' : i = zs.length := by simp at hi; omega
      subst hi'
      have hf' : (zs ++ [(⟨n, x, p⟩ : Eno)])[zs.length] = ⟨n, x, p⟩ := by simp
      rw [hf']
      exact ⟨hn, hx⟩
  · intro z hz'
    rcases List.mem_append.1 hz' with h' | h'
    · exact h.new z h'
    · rw [List.mem_singleton.1 h']; show w.heap.size ≤ p; omega
  · have hq := h.hq
    unfold put6
    exact ((((((h.bel.trans (hb.mono hz)).setCell (p := ⟨q, _, none⟩) hq _).setCell (p := ⟨q, _, none⟩) hq _).setCell (p := ⟨q, _, none⟩) hq _).setCell (p := ⟨q, _, none⟩) hq _).setCell (p := ⟨q, _, none⟩) hq _).setCell (p := ⟨q, _, none⟩) hq _

def StrPost (I : Ix) (s : List UInt8) (fr mo : Nat) (w : World) (e : Ending) (w' : World) : Prop :=
  ∃ q zs, e = .returned (.tuple #[.slice (some ⟨q, 0, none⟩) (min mo (I.ver s - fr)) (min mo (I.ver s - fr)), .int .i64 0]) ∧ PlSt w w' q (min mo (I.ver s - fr)) (min mo (I.ver s - fr)) I s fr zs

set_option maxRecDepth 20000 in
set_option maxHeartbeats 4000000 in
theorem Stream_go {w : World} {F : Nat → Prop} {x N : Nat} {I : Ix} (h : IxAt w F x N I) (hN : N ≤ 100000) (s : List UInt8) (hs : s.length ≤ maxLen) (fr mo : Nat) (hfr : fr ≤ 9223372036854775807) (hmo : mo ≤ 9223372036854775807) :
    Calls Try.prog 21 #[.pointer (some ⟨x, 0, none⟩), sv s, .int .i64 (fr : Int), .int .i64 (mo : Int)] w (StrPost I s fr mo w) := by
  obtain ⟨st, hx, _, mp, mk, xs, av, pf, D1, D2, hi⟩ := h
  have hl : xs.length = I.all.length := by rw [← hi.all, List.length_map]
  have hlN := hi.len
  obtain ⟨a, c, hav⟩ := hi.avs
  obtain ⟨V, hV⟩ : ∃ V, V = I.ver s := ⟨_, rfl⟩
  have hVN : V ≤ N := by rw [hV]; exact Nat.le_trans (ver_le I s) hlN
  have hpv : ∃ pa pc, pf s = .slice pa V pc ∧ V ≤ pc ∧ pc ≤ 9223372036854775807 ∧ (pa = none → V = 0 ∧ pc = 0) ∧ (∀ ad, pa = some ad → ∃ g, ad = ⟨g, 0, none⟩ ∧ ∀ i, (hi : i < (plc I.all s).length) → w.cell? ⟨g, i, none⟩ = some (natV (plc I.all s)[i])) := by
    rcases hi.pvc s with ⟨e, h0⟩ | ⟨g, cap, e, h1, h2, h3⟩
    · exact ⟨none, 0, by rw [e, hV, h0], by omega, by omega, fun _ => ⟨by omega, rfl⟩, fun _ h => (by cases h)⟩
    · exact ⟨some ⟨g, 0, none⟩, cap, by rw [e, hV], by omega, h2, fun h => (by cases h), fun ad h => (by cases h; exact ⟨g, rfl, h3⟩)⟩
  obtain ⟨pa, pc, hpf, hVc, hp9, hnone, hsome⟩ := hpv
  obtain ⟨L, hL⟩ : ∃ L, L = xs.length := ⟨_, rfl⟩
  rw [← hL] at hav hl
  subst hav
  have CN := hide (now_go hx hi.stc ⟨a, _, c, rfl⟩)
  obtain ⟨w1, hw1⟩ : ∃ w1, w1 = (w.alloc (.cells (stV (.slice a L c) (some mp) (some mk)) 68)).alloc (.cells (stV (.slice a L c) (some mp) (some mk)) 68) := ⟨_, rfl⟩
  have b1 : Below w.heap.size w w1 := by rw [hw1]; exact ((Below.refl _ _).alloc (Nat.le_refl _) _).alloc (by simp) _
  have z1 : w1.heap.size = w.heap.size + 2 := by rw [hw1]; simp
  obtain ⟨sb, hsb⟩ : ∃ sb, sb = w.heap.size + 1 := ⟨_, rfl⟩
  have bx1 : w1.heap[sb]? = some (.cells (stV (.slice a L c) (some mp) (some mk)) 68 (0, 0)) := by rw [hw1, hsb, show w.heap.size + 1 = (w.alloc (.cells (stV (.slice a L c) (some mp) (some mk)) 68)).heap.size by simp]; exact heap_alloc_self _ _
  have s1 : w1.cell? ⟨sb, 1, none⟩ = some (.map (some mp)) := (cell_of_row _ _ _ _ _ _ bx1).trans rfl
  have hlk := hi.look (W := w1) (b1.block mp hi.mpo.lt) s hs
  rw [hpf] at hlk
  obtain ⟨m, hm⟩ : ∃ m, m = min mo (V - fr) := ⟨_, rfl⟩
  have CP : Hid (Calls Try.prog 43 #[.slice pa V pc, .int .i64 (fr : Int), .int .i64 (mo : Int)] w1 (PartIPost w1 pa V fr mo)) := hide (by
    cases pa with
    | none =>
      obtain ⟨h0, h1⟩ := hnone rfl
      rw [h0, h1]
      exact PartI_nil w1 fr mo hfr hmo
    | some ad =>
      obtain ⟨g, rfl, _⟩ := hsome ad rfl
      by_cases hlt : fr < V
      · exact PartI_in w1 g V pc fr mo hVc hp9 hlt hmo
      · exact PartI_out w1 g V pc fr mo hVc hp9 (by omega) hfr hmo)
  obtain ⟨w2, hmk, blk0, g2⟩ := make_entries w1 m (by omega)
  have bm : Below w1.heap.size w1 w2 := ⟨g2.os, g2.tape, g2.output, g2.size, fun k hk => g2.block k hk (by simp)⟩
  have b2 : Below w.heap.size w w2 := b1.trans (bm.mono b1.size)
  have ST0 : Hid (PlSt w1 w2 w1.heap.size m 0 I s fr []) := hide { blk := blk0, len := rfl, ent := fun i h => by simp at h, new := fun z hz => by simp at hz, bel := bm, hq := Nat.le_refl _ }
  have HE : Hid (∀ W, Below w1.heap.size w1 W → W.cell? ⟨sb, 0, none⟩ = some (.slice a L c) ∧ ∀ k, k < m → ∃ g qa n, pa = some ⟨g, 0, none⟩ ∧ a = some ⟨qa, 0, none⟩ ∧ n < L ∧ (plc I.all s)[fr + k]? = some n ∧ W.cell? ⟨g, fr + k, none⟩ = some (natV n) ∧ ∃ (e : Ent) (fb : Nat), I.all[n]? = some e ∧ W.cell? ⟨qa, n * 6, none⟩ = some (natV n) ∧ W.cell? ⟨qa, n * 6 + 1, none⟩ = some (sv e.s) ∧ W.cell? ⟨qa, n * 6 + 2, none⟩ = some (natV e.num) ∧ W.cell? ⟨qa, n * 6 + 3, none⟩ = some (sv e.e.type) ∧ W.cell? ⟨qa, n * 6 + 4, none⟩ = some (.int .i64 e.e.ver) ∧ W.cell? ⟨qa, n * 6 + 5, none⟩ = some (.slice (some ⟨fb, 0, none⟩) e.e.fields.length e.e.fields.length) ∧ FdBlk W fb e.e.fields.length e.e.fields ∧ e.e.fields.length ≤ 16) := hide (fun W hW => by
    have hWw : Below w.heap.size w W := b1.trans (hW.mono b1.size)
    have bxW := (hW.block sb (by omega)).trans bx1
    refine ⟨(cell_of_row _ _ _ _ _ _ bxW).trans rfl, fun k hk => ?_⟩
    cases pa with
    | none => have := (hnone rfl).1; omega
    | some ad =>
      obtain ⟨g, rfl, hcell⟩ := hsome ad rfl
      have hvl : fr + k < (plc I.all s).length := by have : V = (plc I.all s).length := hV; omega
      obtain ⟨n, hn⟩ : ∃ n, n = (plc I.all s)[fr + k] := ⟨_, rfl⟩
      have hn2 : (plc I.all s)[fr + k]? = some n := by rw [hn]; exact List.getElem?_eq_getElem hvl
      obtain ⟨e, he, _⟩ := plc_at (List.mem_of_getElem? hn2)
      have hnl : n < I.all.length := by
        rcases Nat.lt_or_ge n I.all.length with h' | h'
        · exact h'
        · rw [List.getElem?_eq_none h'] at he; cases he
      have iW := hi.frame (w' := W) fun q _ hl => hWw.block q hl
      rcases hi.avc with ⟨e0, h0⟩ | ⟨qa, cap, e0, _, _⟩
      · omega
      · injection e0 with q1 q2 q3
        subst q1 q3
        have hnx : n < xs.length := by omega
        rw [hL] at iW
        obtain ⟨e0, e1, e2, e3, e4, e5, e6, e7⟩ := iW.ent n hnx
        have hxe : xs[n].1 = e := by
          have := hi.all
          have h2 : (xs.map (·.1))[n]? = I.all[n]? := by rw [this]
          rw [List.getElem?_map, List.getElem?_eq_getElem hnx, he] at h2
          exact Option.some.inj h2
        rw [hxe] at e1 e2 e3 e4 e5 e6 e7
        have hgc := hcell (fr + k) hvl
        rw [← hn] at hgc
        exact ⟨g, qa, n, rfl, rfl, by omega, hn2, (hWw.cell (p := ⟨g, fr + k, none⟩) (World.block_lt_of_cell? w ⟨g, fr + k, none⟩ hgc)).trans hgc, e, xs[n].2, he, e0, e1, e2, e3, e4, e5, e6, e7⟩)
  have HPZ : Hid (∀ W q zs, PlSt w1 W q m m I s fr zs → StrPost I s fr mo w (.returned (.tuple #[.slice (some ⟨q, 0, none⟩) m m, .int .i64 0])) W) := hide (fun W q zs h => ⟨q, zs, by rw [← hV, ← hm], by rw [← hV, ← hm]; exact ⟨h.blk, h.len, h.ent, fun z hz => Nat.le_trans b1.size (h.new z hz), b1.trans (h.bel.mono b1.size), Nat.le_trans b1.size h.hq⟩⟩)
  have HM := hide hm
  have hm1 : m ≤ 100000 := by omega
  have hL1 : L ≤ 100000 := by omega
  have hLc : L ≤ c := by
    rcases hi.avc with ⟨e0, h0⟩ | ⟨qa, cap, e0, h1, _⟩
    · omega
    · injection e0 with q1 q2 q3; omega
  clear hx hi blk0 g2 b2 bm hl hL hnone hsome hm b1 hlN hVc hp9 hpf hVN hV bx1 z1
  go_enter Try.func21, Try.ntmps21
  go_wp2_with fail
  refine (unhide CN).mono ?_
  rintro e w1' ⟨rfl, rfl⟩
  clear CN
  go_upto_region 4 with fail
  rw [← hw1]
  rw [← hsb]
  clear hw1 hsb
  go_wp2_with fail
  refine (unhide CP).mono ?_
  rintro e w1' ⟨a', c', rfl, ha', hmc, rfl⟩
  rw [← unhide HM] at ha' hmc ⊢
  have HA := hide ha'
  clear ha' CP hlk s1
  obtain ⟨q, hq⟩ : ∃ q, q = w1'.heap.size := ⟨_, rfl⟩
  rw [← hq] at hmk ST0
  clear hq
  go_wp2
  go_loopw [38] (fun i wr => ∃ (k : Nat) (zs : List Eno), k ≤ m ∧ i = .int .i64 (k : Int) ∧ Hid (PlSt w1' wr q m k I s fr zs)) (fun i _ => m - (intOf i).toNat)
  case atStart => exact ⟨0, [], by omega, rfl, ST0⟩
  case round =>
    obtain ⟨k, zs, hk, rfl, ST⟩ := hrel
    clear ST0 hmk
    by_cases hlt : k < m
    · obtain ⟨x0, hx1⟩ := unhide HE wr (unhide ST).bel
      obtain ⟨g, qa, n, hpa, haq, hnL, hn, x1, e, fb, hee, d0, d1, d2, d3, d4, d5, d6, d7⟩ := hx1 k hlt
      obtain rfl := unhide HA (by omega) g hpa
      subst haq
      obtain ⟨es, en, ⟨et, ev, ef⟩⟩ := e
      simp only at d1 d2 d3 d4 d5 d6 d7
      have CA := hide (entryApart_go (n : Int) es (en : Int) et ev (some ⟨fb, 0, none⟩) ef.length ef.length ef wr (d6.fdl rfl (by omega)) d7)
      have STP := hide (fun W2 p (hp : wr.heap.size ≤ p) hf hb => (unhide ST).step (W2 := W2) hlt n hn ⟨es, en, ⟨et, ev, ef⟩⟩ hee d7 p hp hf hb)
      obtain ⟨M, hM⟩ : ∃ M, M = ef.length := ⟨_, rfl⟩
      have HFK := hide hM
      unfold natV at x1 d0 d2
      rw [← hM] at d5 CA
      rw [← hM] at STP
      clear d6 d7 hee hM hpa hn hx1
      go_wp2_with fail
      refine (unhide CA).mono ?_
      clear CA
      rintro e2 w5 ⟨p, rfl, hp, hf, hb5⟩
      obtain ⟨rm, st2⟩ := unhide STP w5 p hp (by rw [unhide HFK]; exact hf) hb5
      obtain ⟨⟨v0, r0⟩, s0⟩ := rm 0 (by omega)
      obtain ⟨⟨v1, r1⟩, s1⟩ := rm 1 (by omega)
      obtain ⟨⟨v2, r2⟩, s2⟩ := rm 2 (by omega)
      obtain ⟨⟨v3, r3⟩, s3⟩ := rm 3 (by omega)
      obtain ⟨⟨v4, r4⟩, s4⟩ := rm 4 (by omega)
      obtain ⟨⟨v5, r5⟩, s5⟩ := rm 5 (by omega)
      rw [Nat.add_zero] at r0 s0
      have ST2 : Hid (PlSt w1' ((((((w5.setCell ⟨q, k * 6, none⟩ (.int .i64 (n : Int))).setCell ⟨q, k * 6 + 1, none⟩ (sv es)).setCell ⟨q, k * 6 + 2, none⟩ (.int .i64 (en : Int))).setCell ⟨q, k * 6 + 3, none⟩ (sv et)).setCell ⟨q, k * 6 + 4, none⟩ (.int .i64 ev)).setCell ⟨q, k * 6 + 5, none⟩ (.slice (some ⟨p, 0, none⟩) M M)) q m (k + 1) I s fr (zs ++ [⟨n, ⟨es, en, ⟨et, ev, ef⟩⟩, p⟩])) := hide (by
        have := st2
        unfold put6 natV at this
        rw [unhide HFK]
        exact this)
      rw [← unhide HFK]
      clear rm st2 hp hf hb5 STP HFK d0 d1 d2 d3 d4 d5 ST x0 x1
      go_wp2
      go_roundw
      case rel => exact ⟨k + 1, _, by omega, by go_num, ST2⟩
      case measure => simp [intOf]; omega
    · have hkN : k = m := by omega
      subst hkN
      have HP := hide (unhide HPZ wr q zs (unhide ST))
      clear ST HE HPZ
      go_wp2
      go_ret2
      exact unhide HP
end Go.Proofs.Ytabcmmhmghgliaa
