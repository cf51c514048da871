/-
  InodePlays: for every slice of calls it returns true, and its argument reads as before.
-/
import Derived.Test.YthjcdibblhcgpaaM3
import Derived.Deep.CutRange
import Derived.OpenShut
namespace Go.Proofs.Ythjcdibblhcgpaa
open Go.ChangeShapes Go.WideShapes Go.ChangeAt Go.RowKit
set_option linter.unusedVariables false

theorem do_any (w : World) (b c n : Nat) (v u vl : Value) (L : List Nat) (k N : Int) (two : Bool) (l : List (Int × Int)) (hr : Rn w vl l) (hne : ∀ n c, vl = .slice none n c → c = 0) (hl : l.length ≤ 8796093021952) (h : NdAt w b n v L) (h2 : RdAt w c n u L) (hN : I64 N) :
    Calls Try.prog 20 #[.pointer (some ⟨b, 0, none⟩), .pointer (some ⟨c, 0, none⟩), .agg #[.int .i64 k, .int .i64 N, vl, .bool two]] w (DoPost w b c) := by
  obtain ⟨ao, cap, e, _⟩ := id hr
  have hne' : ∀ c, vl = .slice none 0 c → c = 0 := fun c h => hne 0 c h
  by_cases k1 : k = 1
  · subst k1; exact do_ext1 w b c n v u vl L N two ao _ cap l e hr hne' hl h h2 hN
  · by_cases k7 : k = 7
    · subst k7; exact do_ext7 w b c n v u vl L N two ao _ cap l e hr hne' hl h h2 hN
    · by_cases k2 : k = 2
      · subst k2; exact do_cut w b c n v u vl L N two ao _ cap e h h2 hN
      · by_cases k3 : k = 3
        · subst k3; exact do_at w b c n v u vl L N two ao _ cap e h h2 hN
        · by_cases k4 : k = 4
          · subst k4; exact do_need w b c n v u vl L N two ao _ cap e h h2 hN
          · by_cases k5 : k = 5
            · subst k5; exact do_asked w b c n v u vl L N two ao _ cap e h h2
            · exact do_other w b c n v u vl L k N two ao _ cap e h h2 ⟨k1, k7, k2, k3, k4, k5⟩

/-- A node and the document's, of the same. -/
def Pair (w : World) (b c : Nat) : Prop := ∃ n v u L, NdAt w b n v L ∧ RdAt w c n u L
theorem Pair.grown {w w' : World} {b c : Nat} (h : Pair w b c) (hg : w.grownBy w' none) : Pair w' b c := by
  obtain ⟨n, v, u, L, h1, h2⟩ := h
  exact ⟨n, v, u, L, h1.grown hg, h2.grown hg⟩
/-- The other pair stays. -/
theorem Pair.beside {w w' : World} {b c b' c' : Nat} (h : Pair w b c) (h' : Pair w b' c') (hf : Fr2 w w' b' c') (hb : b ≠ b') (hc : c ≠ c') : Pair w' b c := by
  obtain ⟨n, v, u, L, h1, h2⟩ := h
  obtain ⟨n', v', u', L', k1, k2⟩ := h'
  have bt : ∀ {j q : Nat} {C D : Array Value} {t s : TypeId} {fr gr : Nat × Nat}, w.heap[j]? = some (.cells C t fr) → w.heap[q]? = some (.cells D s gr) → t ≠ s → j ≠ q := by
    intro j q C D t s fr gr h1 h2 hts e
    rw [e, h2] at h1
    injection h1 with h1
    injection h1 with _ h1
    exact hts h1.symm
  have hk : ∀ {q : Nat} {C : Array Value} {t : TypeId} {fr : Nat × Nat}, w.heap[q]? = some (.cells C t fr) → q ≠ b' → q ≠ c' → w'.heap[q]? = some (.cells C t fr) := fun hq h3 h4 => (hf.block _ (lt_of_block hq) h3 h4).trans hq
  refine ⟨n, v, u, L, ⟨hk h1.blk hb (bt h1.blk k2.blk (by decide)), ?_, h1.le, h1.len, h1.lw⟩, ⟨hk h2.blk (bt h2.blk k1.blk (by decide)) hc, ?_, h2.le, h2.len, h2.lw⟩⟩
  · obtain ⟨e1, e2⟩ := h1.runs
    refine ⟨e1, ?_⟩
    rcases e2 with e2 | ⟨g, cap, cur, rfl, hgb, hg, r⟩
    · exact .inl e2
    · exact .inr ⟨g, cap, cur, rfl, hgb, hk hg (bt hg k1.blk (by decide)) (bt hg k2.blk (by decide)), r⟩
  · obtain ⟨e1, e2⟩ := h2.list
    refine ⟨e1, ?_⟩
    rcases e2 with e2 | ⟨g, cap, cur, rfl, hgb, hg, r⟩
    · exact .inl e2
    · exact .inr ⟨g, cap, cur, rfl, hgb, hk hg (bt hg k1.blk (by decide)) (bt hg k2.blk (by decide)), r⟩
theorem fr2_far {w W W' : World} {b c : Nat} (h : w.grownBy W none) (hf : Fr2 W W' b c) (hb : w.heap.size ≤ b) (hc : w.heap.size ≤ c) : w.grownBy W' none :=
  ⟨hf.os.trans h.os, hf.tape.trans h.tape, hf.output.trans h.output, Nat.le_trans h.size hf.size, fun k hk _ => (hf.block k (Nat.lt_of_lt_of_le hk h.size) (by omega) (by omega)).trans (h.block k hk (by simp))⟩
theorem Pair.lt {w : World} {b c : Nat} (h : Pair w b c) : b < w.heap.size ∧ c < w.heap.size := by
  obtain ⟨n, v, u, L, h1, h2⟩ := h
  exact ⟨h1.lt, h2.lt⟩

theorem blk_ne {w : World} {j q : Nat} {C D : Array Value} {t s : TypeId} {fr gr : Nat × Nat} (h1 : w.heap[j]? = some (.cells C t fr)) (h2 : w.heap[q]? = some (.cells D s gr)) (hts : t ≠ s) : j ≠ q := by
  intro e
  rw [e, h2] at h1
  injection h1 with h1
  injection h1 with _ h1
  exact hts h1.symm
/-- Where the law stands: two nodes and two of the document's, in two slices. -/
structure PSt (w W : World) (fb rb b0 b1 c0 c1 : Nat) : Prop where
  fs : W.heap[fb]? = some (.cells #[.pointer (some ⟨b0, 0, none⟩), .pointer (some ⟨b1, 0, none⟩)] 25 (0, 0))
  rs : W.heap[rb]? = some (.cells #[.pointer (some ⟨c0, 0, none⟩), .pointer (some ⟨c1, 0, none⟩)] 44 (0, 0))
  p0 : Pair W b0 c0
  p1 : Pair W b1 c1
  bne : b0 ≠ b1
  cne : c0 ≠ c1
  nb0 : w.heap.size ≤ b0
  nb1 : w.heap.size ≤ b1
  nc0 : w.heap.size ≤ c0
  nc1 : w.heap.size ≤ c1
  nf : w.heap.size ≤ fb
  nr : w.heap.size ≤ rb
  grown : w.grownBy W none
theorem NdAt.apart {w w' : World} {b n z : Nat} {v : Value} {L : List Nat} {C : Array Value} {t : TypeId} {fr : Nat × Nat} (h : NdAt w b n v L) (hz : w.heap[z]? = some (.cells C t fr)) (h1 : 58 ≠ t) (h2 : 36 ≠ t) (hg : w.grownBy w' (some z)) : NdAt w' b n v L :=
  h.other hg (blk_ne h.blk hz h1) (fun q hq => by
    obtain ⟨_, cur, hc⟩ := h.runs.row hq
    exact blk_ne hc hz h2)
theorem RdAt.apart {w w' : World} {b n z : Nat} {v : Value} {L : List Nat} {C : Array Value} {t : TypeId} {fr : Nat × Nat} (h : RdAt w b n v L) (hz : w.heap[z]? = some (.cells C t fr)) (h1 : 52 ≠ t) (h2 : 3 ≠ t) (hg : w.grownBy w' (some z)) : RdAt w' b n v L :=
  h.other hg (blk_ne h.blk hz h1) (fun q hq => by
    obtain ⟨_, cur, hc⟩ := h.list.row hq
    exact blk_ne hc hz h2)
theorem PSt.f0 {w W : World} {fb rb b0 b1 c0 c1 : Nat} (h : PSt w W fb rb b0 b1 c0 c1) : W.cell? ⟨fb, 0, none⟩ = some (.pointer (some ⟨b0, 0, none⟩)) := (cell_of_row _ _ _ _ _ _ h.fs).trans rfl
theorem PSt.f1 {w W : World} {fb rb b0 b1 c0 c1 : Nat} (h : PSt w W fb rb b0 b1 c0 c1) : W.cell? ⟨fb, 1, none⟩ = some (.pointer (some ⟨b1, 0, none⟩)) := (cell_of_row _ _ _ _ _ _ h.fs).trans rfl
theorem PSt.r0 {w W : World} {fb rb b0 b1 c0 c1 : Nat} (h : PSt w W fb rb b0 b1 c0 c1) : W.cell? ⟨rb, 0, none⟩ = some (.pointer (some ⟨c0, 0, none⟩)) := (cell_of_row _ _ _ _ _ _ h.rs).trans rfl
theorem PSt.r1 {w W : World} {fb rb b0 b1 c0 c1 : Nat} (h : PSt w W fb rb b0 b1 c0 c1) : W.cell? ⟨rb, 1, none⟩ = some (.pointer (some ⟨c1, 0, none⟩)) := (cell_of_row _ _ _ _ _ _ h.rs).trans rfl
theorem PSt.kept {w W W' : World} {fb rb b0 b1 c0 c1 : Nat} (h : PSt w W fb rb b0 b1 c0 c1) (hg : W.grownBy W' none) : PSt w W' fb rb b0 b1 c0 c1 :=
  { fs := (hg.block fb (lt_of_block h.fs) (by simp)).trans h.fs, rs := (hg.block rb (lt_of_block h.rs) (by simp)).trans h.rs, p0 := h.p0.grown hg, p1 := h.p1.grown hg, bne := h.bne, cne := h.cne, nb0 := h.nb0, nb1 := h.nb1, nc0 := h.nc0, nc1 := h.nc1, nf := h.nf, nr := h.nr, grown := h.grown.trans hg }
/-- A call on the first pair, on the second. -/
theorem PSt.did0 {w W W' : World} {fb rb b0 b1 c0 c1 : Nat} {e : Ending} (h : PSt w W fb rb b0 b1 c0 c1) (hd : DoPost W b0 c0 e W') : PSt w W' fb rb b0 b1 c0 c1 := by
  obtain ⟨_, hp, hf⟩ := hd
  obtain ⟨n, v, u, L, k1, k2⟩ := id h.p0
  exact { fs := (hf.block fb (lt_of_block h.fs) (blk_ne h.fs k1.blk (by decide)) (blk_ne h.fs k2.blk (by decide))).trans h.fs, rs := (hf.block rb (lt_of_block h.rs) (blk_ne h.rs k1.blk (by decide)) (blk_ne h.rs k2.blk (by decide))).trans h.rs, p0 := hp, p1 := h.p1.beside h.p0 hf h.bne.symm h.cne.symm, bne := h.bne, cne := h.cne, nb0 := h.nb0, nb1 := h.nb1, nc0 := h.nc0, nc1 := h.nc1, nf := h.nf, nr := h.nr, grown := fr2_far h.grown hf h.nb0 h.nc0 }
theorem PSt.did1 {w W W' : World} {fb rb b0 b1 c0 c1 : Nat} {e : Ending} (h : PSt w W fb rb b0 b1 c0 c1) (hd : DoPost W b1 c1 e W') : PSt w W' fb rb b0 b1 c0 c1 := by
  obtain ⟨_, hp, hf⟩ := hd
  obtain ⟨n, v, u, L, k1, k2⟩ := id h.p1
  exact { fs := (hf.block fb (lt_of_block h.fs) (blk_ne h.fs k1.blk (by decide)) (blk_ne h.fs k2.blk (by decide))).trans h.fs, rs := (hf.block rb (lt_of_block h.rs) (blk_ne h.rs k1.blk (by decide)) (blk_ne h.rs k2.blk (by decide))).trans h.rs, p0 := h.p0.beside h.p1 hf h.bne h.cne, p1 := hp, bne := h.bne, cne := h.cne, nb0 := h.nb0, nb1 := h.nb1, nc0 := h.nc0, nc1 := h.nc1, nf := h.nf, nr := h.nr, grown := fr2_far h.grown hf h.nb1 h.nc1 }

set_option maxRecDepth 100000 in
set_option maxHeartbeats 16000000 in
theorem Plays.walk (vs : Value) (cs : List ICl) (B : Nat) (w : World) (hs : IClL3 w vs cs B) (hB : B ≤ 140737488351232) :
    Calls Try.prog 5 #[vs] w fun e w' => e = .returned (.bool true) ∧ Below w.heap.size w w' := by
  have HS := hide hs
  obtain ⟨so, scap, rfl, hs1, _⟩ := hs
  obtain ⟨ns, hns⟩ : ∃ n, n = cs.length := ⟨_, rfl⟩
  rw [← hns] at hs1 HS ⊢
  have HNs := hide hns
  have hsi : (ns : Int) ≤ 9223372036854775807 := by omega
  clear hns
  go_enter Try.func5, Try.ntmps5
  go_wp2_with fail
  refine (awake_ok _).mono ?_
  rintro e w1 ⟨rfl, g1⟩
  have G1 := hide g1
  clear g1
  go_wp2_with fail
  refine (New_any w1).mono ?_
  rintro e w2 ⟨rfl, m2, g2⟩
  have M2 := hide m2
  have G2 : Hid (w.grownBy w2 none) := hide ((unhide G1).trans g2)
  have Z12 : Hid (w1.heap.size < w2.heap.size) := hide m2.lt
  have Z01 : Hid (w.heap.size ≤ w1.heap.size) := hide (unhide G1).size
  obtain ⟨b0, hb0⟩ : ∃ b, b = w1.heap.size := ⟨_, rfl⟩
  rw [← hb0] at M2 Z12 Z01 ⊢
  clear m2 g2 G1 hb0
  go_wp2_with fail
  refine (New_any w2).mono ?_
  rintro e w3 ⟨rfl, m3, g3⟩
  have N0 := hide ((unhide M2).grown g3)
  have N1 := hide m3
  have G3 : Hid (w.grownBy w3 none) := hide ((unhide G2).trans g3)
  obtain ⟨b1, hb1⟩ : ∃ b, b = w2.heap.size := ⟨_, rfl⟩
  rw [← hb1] at N1 Z12 ⊢
  clear m3 g3 M2 G2 hb1
  go_wp2
  have STS : Hid (PSt w ((((w3.alloc (.cells #[.pointer (some ⟨b0, 0, none⟩), .pointer (some ⟨b1, 0, none⟩)] 25)).alloc (.cells #[.int .i64 0, .slice none 0 0] 52)).alloc (.cells #[.int .i64 0, .slice none 0 0] 52)).alloc (.cells #[.pointer (some ⟨w3.heap.size + 1, 0, none⟩), .pointer (some ⟨w3.heap.size + 1 + 1, 0, none⟩)] 44)) w3.heap.size (w3.heap.size + 1 + 1 + 1) b0 b1 (w3.heap.size + 1) (w3.heap.size + 1 + 1)) := hide (by
    have q1 := World.grownBy_alloc w3 (.cells #[.pointer (some ⟨b0, 0, none⟩), .pointer (some ⟨b1, 0, none⟩)] 25) none
    obtain ⟨x1, hx1⟩ : ∃ x, x = w3.alloc (.cells #[.pointer (some ⟨b0, 0, none⟩), .pointer (some ⟨b1, 0, none⟩)] 25) := ⟨_, rfl⟩
    have z1 : x1.heap.size = w3.heap.size + 1 := by rw [hx1]; exact World.size_alloc _ _
    have f1 : x1.heap[w3.heap.size]? = some (.cells #[.pointer (some ⟨b0, 0, none⟩), .pointer (some ⟨b1, 0, none⟩)] 25 (0, 0)) := by rw [hx1]; exact heap_alloc_new _ _
    rw [← hx1] at q1 ⊢
    clear hx1
    have q2 := World.grownBy_alloc x1 (.cells #[.int .i64 0, .slice none 0 0] 52) none
    have r0 := RdAt.new x1
    obtain ⟨x2, hx2⟩ : ∃ x, x = x1.alloc (.cells #[.int .i64 0, .slice none 0 0] 52) := ⟨_, rfl⟩
    have z2 : x2.heap.size = x1.heap.size + 1 := by rw [hx2]; exact World.size_alloc _ _
    rw [← hx2] at q2 r0 ⊢
    clear hx2
    have q3 := World.grownBy_alloc x2 (.cells #[.int .i64 0, .slice none 0 0] 52) none
    have r1 := RdAt.new x2
    obtain ⟨x3, hx3⟩ : ∃ x, x = x2.alloc (.cells #[.int .i64 0, .slice none 0 0] 52) := ⟨_, rfl⟩
    have z3 : x3.heap.size = x2.heap.size + 1 := by rw [hx3]; exact World.size_alloc _ _
    rw [← hx3] at q3 r1 ⊢
    clear hx3
    have q4 := World.grownBy_alloc x3 (.cells #[.pointer (some ⟨w3.heap.size + 1, 0, none⟩), .pointer (some ⟨w3.heap.size + 1 + 1, 0, none⟩)] 44) none
    have f4 : (x3.alloc (.cells #[.pointer (some ⟨w3.heap.size + 1, 0, none⟩), .pointer (some ⟨w3.heap.size + 1 + 1, 0, none⟩)] 44)).heap[x3.heap.size]? = _ := heap_alloc_new _ _
    rw [z3, z2, z1] at f4
    rw [z1] at r0
    rw [z2, z1] at r1
    have G := (unhide G3).size
    have hb1 := (unhide N1).lt
    have hb01 := unhide Z12
    have hz := unhide Z01
    exact
      { fs := ((((q2.trans q3).trans q4).block w3.heap.size (by omega) (by simp))).trans f1
        rs := f4
        p0 := ⟨0, _, _, [], (unhide N0).grown (((q1.trans q2).trans q3).trans q4), r0.grown (q3.trans q4)⟩
        p1 := ⟨0, _, _, [], (unhide N1).grown (((q1.trans q2).trans q3).trans q4), r1.grown q4⟩
        bne := by omega
        cne := by omega
        nb0 := by omega
        nb1 := by omega
        nc0 := by omega
        nc1 := by omega
        nf := by omega
        nr := by omega
        grown := (unhide G3).trans (((q1.trans q2).trans q3).trans q4) })
  obtain ⟨fb, hfb⟩ : ∃ fb, fb = w3.heap.size := ⟨_, rfl⟩
  obtain ⟨rb, hrb⟩ : ∃ rb, rb = w3.heap.size + 1 + 1 + 1 := ⟨_, rfl⟩
  rw [← hrb] at STS ⊢
  rw [← hfb] at STS ⊢
  clear hfb hrb
  go_loopw [6] (fun i wr => ∃ (k b0 b1 c0 c1 : Nat), i = .int .i64 (k : Int) ∧ k ≤ 100 ∧ PSt w wr fb rb b0 b1 c0 c1) (fun i _ => 100 - (intOf i).toNat)
  case atStart => exact ⟨0, _, _, _, _, rfl, by omega, unhide STS⟩
  case round =>
    obtain ⟨k, b0, b1, c0, c1, rfl, hk, hst⟩ := hrel
    have ST := hide hst
    clear hst STS N0 N1 G3 Z12 Z01
    by_cases hlt : k < ns ∧ k < 100
    · have hl1 : (k : Int) < (ns : Int) := by omega
      have hl2 : (k : Int) < 100 := by omega
      have hkl : k < cs.length := by rw [← unhide HNs]; exact hlt.1
      obtain ⟨pb, off, hso, hpb, hat⟩ : ∃ pb off, so = some ⟨pb, off, none⟩ ∧ pb < w.heap.size ∧ IClAt w pb (off + k * 4) cs[k] ∧ (∃ v, w.cell? ⟨pb, off + k * 4 + 2, none⟩ = some v ∧ Rn w v cs[k].l ∧ ∀ n c, v = .slice none n c → c = 0) ∧ cs[k].l.length * 16 ≤ B := by
        obtain ⟨ao', cap', e, _, h4⟩ := unhide HS
        injection e with e1 e2 e3
        subst e1
        obtain ⟨pb, off, e, h5, h6⟩ := h4 (by omega)
        exact ⟨pb, off, e, h5, h6 k hkl⟩
      subst hso
      obtain ⟨hat1, ⟨vl, hvl, hrn, hnl⟩, hlb⟩ := hat
      have hg := (unhide ST).grown
      have d0 := hg.cell hat1.c0 (by simp)
      have d1 := hg.cell hat1.c1 (by simp)
      have d2 := hg.cell hvl (by simp)
      have d3 := hg.cell hat1.c3 (by simp)
      have hnum := hat1.i1
      have HRn := hide (hrn.kept hg)
      have HNn := hide hnl
      have HLn : Hid (cs[k].l.length ≤ 8796093021952) := hide (by omega)
      obtain ⟨kind, hkind⟩ : ∃ x, x = cs[k].kind := ⟨_, rfl⟩
      obtain ⟨num, hnume⟩ : ∃ x, x = cs[k].n := ⟨_, rfl⟩
      obtain ⟨rl, hrl⟩ : ∃ x, x = cs[k].l := ⟨_, rfl⟩
      obtain ⟨two, htwo⟩ : ∃ x, x = cs[k].two := ⟨_, rfl⟩
      rw [← hkind] at d0
      rw [← hnume] at d1 hnum
      rw [← hrl] at HRn HLn
      rw [← htwo] at d3
      obtain ⟨lo, lcap, hvle, _⟩ := id hrn
      obtain ⟨lq, hlq⟩ : ∃ lq, vl = .slice lo lq lcap := ⟨_, hvle⟩
      clear hvle hat1 hvl hrn hnl hlb hg hkind hnume hrl htwo hlt
      subst hlq
      cases two with
      | false =>
        by_cases hk6 : kind = 6
        · subst hk6
          obtain ⟨n, v, u, L, k1, k2⟩ := id (unhide ST).p0
          have K1 := hide k1
          have K2 := hide k2
          have e0 := (unhide ST).f0
          clear k1 k2
          go_wp2_with fail
          refine (Copy_any wr b0 n v L (unhide K1)).mono ?_
          rintro e w5 ⟨nb, nv, rfl, hnb, m5, _, g5⟩
          have s5 := (unhide ST).kept g5
          have hz5 : w5.grownBy (w5.setCell ⟨fb, 1, none⟩ (.pointer (some ⟨nb, 0, none⟩))) (some fb) := setCell_grown _ _ _ _
          have NN := hide (m5.apart s5.fs (by decide) (by decide) hz5)
          have KN := hide (((unhide K1).grown g5).apart s5.fs (by decide) (by decide) hz5)
          have KR := hide (((unhide K2).grown g5).apart s5.fs (by decide) (by decide) hz5)
          have FS5 : Hid ((w5.setCell ⟨fb, 1, none⟩ (.pointer (some ⟨nb, 0, none⟩))).heap[fb]? = some (.cells #[.pointer (some ⟨b0, 0, none⟩), .pointer (some ⟨nb, 0, none⟩)] 25 (0, 0))) := hide (heap_setCell_same w5 fb 1 _ _ _ s5.fs)
          have RS5 : Hid ((w5.setCell ⟨fb, 1, none⟩ (.pointer (some ⟨nb, 0, none⟩))).heap[rb]? = some (.cells #[.pointer (some ⟨c0, 0, none⟩), .pointer (some ⟨c1, 0, none⟩)] 44 (0, 0))) := hide ((hz5.block rb (lt_of_block s5.rs) (by simpa using blk_ne s5.rs s5.fs (by decide))).trans s5.rs)
          have G5 : Hid (w.grownBy (w5.setCell ⟨fb, 1, none⟩ (.pointer (some ⟨nb, 0, none⟩))) none) := hide (own_step s5.grown s5.nf hz5)
          have HNb : Hid (b0 ≠ nb ∧ w.heap.size ≤ nb) := hide ⟨by have := (unhide K1).lt; omega, by have := (unhide ST).grown.size; omega⟩
          have fz5 : w5.frozen? ⟨fb, 1, none⟩ = false := by simp [World.frozen?, s5.fs]
          have x1 := s5.f1
          have ZS := hide g5.size
          obtain ⟨W5, hW5⟩ : ∃ W5, W5 = w5.setCell ⟨fb, 1, none⟩ (.pointer (some ⟨nb, 0, none⟩)) := ⟨_, rfl⟩
          have HZ5 : Hid (wr.heap.size ≤ W5.heap.size) := hide (by rw [hW5]; exact Nat.le_trans g5.size hz5.size)
          rw [← hW5] at NN KN KR FS5 RS5 G5
          have y0 : W5.cell? ⟨rb, 0, none⟩ = some (.pointer (some ⟨c0, 0, none⟩)) := (cell_of_row _ _ _ _ _ _ (unhide RS5)).trans rfl
          clear m5 g5 s5 hz5 hnb K1 K2 e0
          go_upto_region 14 with fail
          rw [← hW5]
          clear hW5 fz5 x1
          go_wp2_with fail
          refine (rCopy_any W5 c0 n u L (unhide KR)).mono ?_
          rintro e w6 ⟨nc, nu, rfl, hnc, m6, g6⟩
          have rs6 : w6.heap[rb]? = some (.cells #[.pointer (some ⟨c0, 0, none⟩), .pointer (some ⟨c1, 0, none⟩)] 44 (0, 0)) := (g6.block rb (lt_of_block (unhide RS5)) (by simp)).trans (unhide RS5)
          have fs6 := (g6.block fb (lt_of_block (unhide FS5)) (by simp)).trans (unhide FS5)
          have hz6 : w6.grownBy (w6.setCell ⟨rb, 1, none⟩ (.pointer (some ⟨nc, 0, none⟩))) (some rb) := setCell_grown _ _ _ _
          have hcl := (unhide KR).lt
          have ST2 : Hid (PSt w (w6.setCell ⟨rb, 1, none⟩ (.pointer (some ⟨nc, 0, none⟩))) fb rb b0 nb c0 nc) := hide
            { fs := (hz6.block fb (lt_of_block fs6) (by simpa using blk_ne fs6 rs6 (by decide))).trans fs6
              rs := heap_setCell_same w6 rb 1 _ _ _ rs6
              p0 := ⟨n, v, u, L, ((unhide KN).grown g6).apart rs6 (by decide) (by decide) hz6, ((unhide KR).grown g6).apart rs6 (by decide) (by decide) hz6⟩
              p1 := ⟨n, nv, nu, L, ((unhide NN).grown g6).apart rs6 (by decide) (by decide) hz6, m6.apart rs6 (by decide) (by decide) hz6⟩
              bne := (unhide HNb).1
              cne := by omega
              nb0 := (unhide ST).nb0
              nb1 := (unhide HNb).2
              nc0 := (unhide ST).nc0
              nc1 := by have := (unhide G5).size; omega
              nf := (unhide ST).nf
              nr := (unhide ST).nr
              grown := own_step ((unhide G5).trans g6) (unhide ST).nr hz6 }
          have fz6 : w6.frozen? ⟨rb, 1, none⟩ = false := by simp [World.frozen?, rs6]
          have z1 : w6.cell? ⟨rb, 1, none⟩ = some (.pointer (some ⟨c1, 0, none⟩)) := (cell_of_row _ _ _ _ _ _ rs6).trans rfl
          clear m6 g6 rs6 fs6 hz6 NN KN KR FS5 RS5 G5 y0
          go_wp2
          go_roundw
          case rel => exact ⟨k + 1, _, _, _, _, rfl, by omega, unhide ST2⟩
          case measure => simp [intOf]; omega
        · have hkb : (kind == 6) = false := beq_eq_false_iff_ne.2 hk6
          obtain ⟨n, v, u, L, k1, k2⟩ := id (unhide ST).p0
          have K1 := hide k1
          have K2 := hide k2
          have e0 := (unhide ST).f0
          have y0 := (unhide ST).r0
          clear k1 k2
          go_upto_region 15 with fail
          go_cut [8] from 34 to 87 (fun t wx => t = .bool true ∧ PSt w wx fb rb b0 b1 c0 c1)
          case first =>
            go_region_with (go_at_call 20; refine (do_any _ b0 c0 n v u (.slice lo lq lcap) L kind num false rl ((unhide HRn).kept (gr_d _)) (unhide HNn) (unhide HLn) ((unhide K1).drewN _) ((unhide K2).drewN _) hnum).mono ?_; rintro e w5 hd; have he := hd.1; subst he; have ST5 := hide (((unhide ST).kept (gr_d _)).did0 hd); clear hd)
            all_goals go_wp2_with fail
            all_goals go_meet
            all_goals exact ⟨rfl, unhide ST5⟩
          case rest =>
            obtain ⟨rfl, st5⟩ := hcut
            have ST5 := hide st5
            clear st5 K1 K2 e0 y0
            go_wp2
            go_roundw
            case rel => exact ⟨k + 1, _, _, _, _, rfl, by omega, unhide ST5⟩
            case measure => simp [intOf]; omega
      | true =>
        by_cases hk6 : kind = 6
        · subst hk6
          obtain ⟨n, v, u, L, k1, k2⟩ := id (unhide ST).p1
          have K1 := hide k1
          have K2 := hide k2
          have e1 := (unhide ST).f1
          clear k1 k2
          go_wp2_with fail
          refine (Copy_any wr b1 n v L (unhide K1)).mono ?_
          rintro e w5 ⟨nb, nv, rfl, hnb, m5, _, g5⟩
          have s5 := (unhide ST).kept g5
          have hz5 : w5.grownBy (w5.setCell ⟨fb, 0, none⟩ (.pointer (some ⟨nb, 0, none⟩))) (some fb) := setCell_grown _ _ _ _
          have NN := hide (m5.apart s5.fs (by decide) (by decide) hz5)
          have KN := hide (((unhide K1).grown g5).apart s5.fs (by decide) (by decide) hz5)
          have KR := hide (((unhide K2).grown g5).apart s5.fs (by decide) (by decide) hz5)
          have FS5 : Hid ((w5.setCell ⟨fb, 0, none⟩ (.pointer (some ⟨nb, 0, none⟩))).heap[fb]? = some (.cells #[.pointer (some ⟨nb, 0, none⟩), .pointer (some ⟨b1, 0, none⟩)] 25 (0, 0))) := hide (heap_setCell_same w5 fb 0 _ _ _ s5.fs)
          have RS5 : Hid ((w5.setCell ⟨fb, 0, none⟩ (.pointer (some ⟨nb, 0, none⟩))).heap[rb]? = some (.cells #[.pointer (some ⟨c0, 0, none⟩), .pointer (some ⟨c1, 0, none⟩)] 44 (0, 0))) := hide ((hz5.block rb (lt_of_block s5.rs) (by simpa using blk_ne s5.rs s5.fs (by decide))).trans s5.rs)
          have G5 : Hid (w.grownBy (w5.setCell ⟨fb, 0, none⟩ (.pointer (some ⟨nb, 0, none⟩))) none) := hide (own_step s5.grown s5.nf hz5)
          have HNb : Hid (b1 ≠ nb ∧ w.heap.size ≤ nb) := hide ⟨by have := (unhide K1).lt; omega, by have := (unhide ST).grown.size; omega⟩
          have fz5 : w5.frozen? ⟨fb, 0, none⟩ = false := by simp [World.frozen?, s5.fs]
          have x0 := s5.f0
          have ZS := hide g5.size
          obtain ⟨W5, hW5⟩ : ∃ W5, W5 = w5.setCell ⟨fb, 0, none⟩ (.pointer (some ⟨nb, 0, none⟩)) := ⟨_, rfl⟩
          have HZ5 : Hid (wr.heap.size ≤ W5.heap.size) := hide (by rw [hW5]; exact Nat.le_trans g5.size hz5.size)
          rw [← hW5] at NN KN KR FS5 RS5 G5
          have y1 : W5.cell? ⟨rb, 1, none⟩ = some (.pointer (some ⟨c1, 0, none⟩)) := (cell_of_row _ _ _ _ _ _ (unhide RS5)).trans rfl
          clear m5 g5 s5 hz5 hnb K1 K2 e1
          go_upto_region 14 with fail
          rw [← hW5]
          clear hW5 fz5 x0
          go_wp2_with fail
          refine (rCopy_any W5 c1 n u L (unhide KR)).mono ?_
          rintro e w6 ⟨nc, nu, rfl, hnc, m6, g6⟩
          have rs6 : w6.heap[rb]? = some (.cells #[.pointer (some ⟨c0, 0, none⟩), .pointer (some ⟨c1, 0, none⟩)] 44 (0, 0)) := (g6.block rb (lt_of_block (unhide RS5)) (by simp)).trans (unhide RS5)
          have fs6 := (g6.block fb (lt_of_block (unhide FS5)) (by simp)).trans (unhide FS5)
          have hz6 : w6.grownBy (w6.setCell ⟨rb, 0, none⟩ (.pointer (some ⟨nc, 0, none⟩))) (some rb) := setCell_grown _ _ _ _
          have hcl := (unhide KR).lt
          have ST2 : Hid (PSt w (w6.setCell ⟨rb, 0, none⟩ (.pointer (some ⟨nc, 0, none⟩))) fb rb nb b1 nc c1) := hide
            { fs := (hz6.block fb (lt_of_block fs6) (by simpa using blk_ne fs6 rs6 (by decide))).trans fs6
              rs := heap_setCell_same w6 rb 0 _ _ _ rs6
              p1 := ⟨n, v, u, L, ((unhide KN).grown g6).apart rs6 (by decide) (by decide) hz6, ((unhide KR).grown g6).apart rs6 (by decide) (by decide) hz6⟩
              p0 := ⟨n, nv, nu, L, ((unhide NN).grown g6).apart rs6 (by decide) (by decide) hz6, m6.apart rs6 (by decide) (by decide) hz6⟩
              bne := (unhide HNb).1.symm
              cne := by omega
              nb1 := (unhide ST).nb1
              nb0 := (unhide HNb).2
              nc1 := (unhide ST).nc1
              nc0 := by have := (unhide G5).size; omega
              nf := (unhide ST).nf
              nr := (unhide ST).nr
              grown := own_step ((unhide G5).trans g6) (unhide ST).nr hz6 }
          have fz6 : w6.frozen? ⟨rb, 0, none⟩ = false := by simp [World.frozen?, rs6]
          have z0 : w6.cell? ⟨rb, 0, none⟩ = some (.pointer (some ⟨c0, 0, none⟩)) := (cell_of_row _ _ _ _ _ _ rs6).trans rfl
          clear m6 g6 rs6 fs6 hz6 NN KN KR FS5 RS5 G5 y1
          go_wp2
          go_roundw
          case rel => exact ⟨k + 1, _, _, _, _, rfl, by omega, unhide ST2⟩
          case measure => simp [intOf]; omega
        · have hkb : (kind == 6) = false := beq_eq_false_iff_ne.2 hk6
          obtain ⟨n, v, u, L, k1, k2⟩ := id (unhide ST).p1
          have K1 := hide k1
          have K2 := hide k2
          have e1 := (unhide ST).f1
          have y1 := (unhide ST).r1
          clear k1 k2
          go_upto_region 15 with fail
          go_cut [8] from 34 to 87 (fun t wx => t = .bool true ∧ PSt w wx fb rb b0 b1 c0 c1)
          case first =>
            go_region_with (go_at_call 20; refine (do_any _ b1 c1 n v u (.slice lo lq lcap) L kind num true rl ((unhide HRn).kept (gr_d _)) (unhide HNn) (unhide HLn) ((unhide K1).drewN _) ((unhide K2).drewN _) hnum).mono ?_; rintro e w5 hd; have he := hd.1; subst he; have ST5 := hide (((unhide ST).kept (gr_d _)).did1 hd); clear hd)
            all_goals go_wp2_with fail
            all_goals go_meet
            all_goals exact ⟨rfl, unhide ST5⟩
          case rest =>
            obtain ⟨rfl, st5⟩ := hcut
            have ST5 := hide st5
            clear st5 K1 K2 e1 y1
            go_wp2
            go_roundw
            case rel => exact ⟨k + 1, _, _, _, _, rfl, by omega, unhide ST5⟩
            case measure => simp [intOf]; omega
    · have hout : ¬ ((k : Int) < (ns : Int) ∧ (k : Int) < 100) := by omega
      have HLL : Hid (∀ K : Prop, ((¬ (k : Int) < (ns : Int)) → K) → (((k : Int) < (ns : Int) ∧ ¬ (k : Int) < 100) → K) → K) := hide (fun K h1 h2 => by
        by_cases e : (k : Int) < (ns : Int)
        · exact h2 ⟨e, fun h => hout ⟨e, h⟩⟩
        · exact h1 e)
      have e0 := (unhide ST).f0
      have y0 := (unhide ST).r0
      clear hlt hout
      refine unhide HLL _ ?_ ?_
      all_goals intro hx
      all_goals try obtain ⟨hx1, hx2⟩ := hx
      all_goals go_upto_region 18 with fail
      all_goals
        go_cut [9] from 88 to 94 (fun t wx => t = .bool true ∧ PSt w wx fb rb b0 b1 c0 c1)
        case first =>
          obtain ⟨n, v, u, L, k1, k2⟩ := id (unhide ST).p0
          have K1 := hide k1
          have K2 := hide k2
          clear k1 k2
          go_region_with (go_at_call 17; refine (asked_ok _ b0 c0 n v u L ((unhide K1).drewN _) ((unhide K2).drewN _)).mono ?_; rintro e w5 ⟨rfl, g5⟩; have ST5 := hide ((unhide ST).kept ((gr_d _).trans g5)); clear g5)
          all_goals go_wp2_with fail
          all_goals go_meet
          all_goals exact ⟨rfl, unhide ST5⟩
        case rest =>
          obtain ⟨rfl, st5⟩ := hcut
          have ST5 := hide st5
          have e1 := st5.f1
          have y1 := st5.r1
          clear st5 ST e0 y0
          go_upto_region 19 with fail
          go_cut [10] from 95 to 101 (fun t wx => t = .bool true ∧ w.grownBy wx none)
          case first =>
            obtain ⟨n, v, u, L, k1, k2⟩ := id (unhide ST5).p1
            have K1 := hide k1
            have K2 := hide k2
            clear k1 k2
            go_region_with (go_at_call 17; refine (asked_ok _ b1 c1 n v u L ((unhide K1).drewN _) ((unhide K2).drewN _)).mono ?_; rintro e w6 ⟨rfl, g6⟩; have G6 : Hid (w.grownBy w6 none) := hide ((unhide ST5).grown.trans ((gr_d _).trans g6)); clear g6)
            all_goals go_wp2_with fail
            all_goals go_meet
            all_goals exact ⟨rfl, unhide G6⟩
          case rest =>
            obtain ⟨rfl, g6⟩ := hcut
            go_wp2
            go_ret
            exact ⟨rfl, below_of_grown g6⟩

set_option maxRecDepth 100000 in
theorem Plays.lifted (os : Os) (started : os.Started) (H : Type) (enc : TypeId × Value → H) :
    ReturnsInHanded {} Try.checked os 5 .any (Rows.inodePlaysSpec.pre6 enc Try.prog Try.f5 Rows.inodePlaysRow.domain false) (Rows.inodePlaysSpec.post enc Try.prog Try.f5 false true false false) := by
  refine returnsInHanded_of_change_sized (C := Try.checked) own_knob started (by kernel_rfl) Try.func5
    (ChangeSpec.witness6 (enc := enc) (C := Try.checked) false ⟨#[], #[.slice none 0 0], []⟩ 8 (by kernel_rfl) (by kernel_rfl) (by kernel_rfl) (by kernel_rfl)) ?_
  intro W base args ds gs before hval0 hW hcnd hsz0 hholds
  have hval : ∀ (j : Nat) t v, Try.f5.params[j]? = some t → args[j]? = some v → Value.okWide Try.prog W .any base t v := hval0
  have hsz : (DataW.weightsEach Try.prog (Try.f5.params.toList ++ Rows.inodePlaysSpec.plain.varTypes Try.prog) (ds ++ gs)).all (· ≤ reachBytes) = true := hsz0
  have hW' := hW
  obtain ⟨p, q, hA0, hV, rfl, hfz, hnd⟩ := hW
  have hA : DataW.TrodAll enc Try.prog W 0 (fun _ => true) true Try.f5.params.toList args.toList ds p := hA0
  rw [Try.params5] at hA hval hsz
  obtain ⟨v1, d1, rfl, rfl, h1⟩ := trodAll_one hA
  obtain ⟨rfl, rfl⟩ := trodVars_none hV
  have k1 := h1
  have lt1 : ∀ x ∈ p, x.block < W.heap.size := by obtain ⟨m, hm⟩ := k1; exact DataW.trod_lt m _ _ _ hm
  obtain ⟨a1, len1, cap1, rfl⟩ := okWide_slice Try.underlying22 (hval 0 22 v1 rfl rfl)
  have hB : ∀ x ∈ d1.weights Try.prog 22, x ≤ 140737488351232 := fun x hx => by
    have := List.all_eq_true.1 hsz x (DataW.weights_mem_each (j := 0) (t := 22) rfl rfl x hx)
    have := of_decide_eq_true this
    simp only [reachBytes] at this
    omega
  obtain ⟨l, hl⟩ := open_icalls3 h1 hB
  clear hA0 hval0 hsz0
  refine (Plays.walk _ l _ W hl (Nat.le_refl _)).mono fun e W' ⟨he, bel⟩ => ?_
  subst he
  exact ⟨_, rfl, _, _, _, [], _, [], hW', trodAll_mk1 (shut_bool Try.underlying4 _), trodAll_mk1 (Below.trod laid_out (by kernel_rfl) (of_decide_eq_true (by kernel_rfl)) k1 bel lt1), rfl, bel.frame _, fun h => by cases h⟩

theorem inodePlays_holds : Rows.InodePlaysSaid :=
  OpenClaim.holds_of_wide 5 Try.f5 rfl rfl rfl rfl rfl rfl rfl ⟨rfl, rfl, rfl, rfl, rfl⟩ rfl rfl rfl rfl rfl (by kernel_rfl) Try.func5 (by kernel_rfl)
    (of_decide_eq_true (by kernel_rfl)) (by unfold Func.isWrapper; first | (rw [if_pos (by decide +kernel)]; kernel_rfl) | (rw [if_neg (by decide +kernel)]; exact ⟨rfl, rfl⟩))
    (fun os started H enc _ => Plays.lifted os started H enc)
#print axioms inodePlays_holds
end Go.Proofs.Ythjcdibblhcgpaa
