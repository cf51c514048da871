/-
  DERIVED. Where the play of a law on streams stands: both indexes, side by side.
-/
import Derived.Test.YtabcmmhmghgliaaSq4
import Derived.Test.YtabcmmhmghgliaaSq7
import Derived.Test.YtabcmmhmghgliaaSq8
import Derived.Test.YtabcmmhmghgliaaSq3
import Derived.Test.YtabcmmhmghgliaaXlaw
import Derived.Test.YtabcmmhmghgliaaSp10
namespace Go.Proofs.Ytabcmmhmghgliaa
open Go.RowKit Go.Maps
set_option linter.unusedVariables false

/-- The law began in w; the program's index at x in blocks F, the document's at rb; E are blocks of events that the document's batches stand in. -/
structure PSt (w W : World) (x N rb : Nat) (F E : Nat → Prop) (Bx Bs : List Bat) : Prop where
  ix : IxAt W F x N (ixD Bx)
  fF : ∀ q, F q → w.heap.size ≤ q ∧ q < W.heap.size ∧ ¬ E q ∧ q ≠ rb
  hE : ∀ q, E q → w.heap.size ≤ q ∧ q < W.heap.size ∧ ∃ cur, W.heap[q]? = some (.cells cur 49 (0, 0))
  rin : RIn W (fun q => q < w.heap.size ∨ E q) rb w.heap.size Bs
  frow : ∀ v, W.heap[rb]? = some (.cells #[v] 29 (0, 0)) → ∀ q, v.ownBlock = some q → ¬ F q
  bel : Below w.heap.size w W
  len : Bs.length ≤ 1000 ∧ Bx.length ≤ 1000
  bat : ∀ b ∈ Bs, b.es ≠ [] ∧ b.es.length ≤ 16 ∧ b.f ≤ 100000 ∧ b.s.length ≤ 60 ∧ b.k.length ≤ 60
  num : N ≤ Bx.length * 17
theorem PSt.ok {w W : World} {x N rb : Nat} {F E : Nat → Prop} {Bx Bs : List Bat} (h : PSt w W x N rb F E Bx Bs) : BsOk Bs := ⟨h.len.1, fun b hb => (h.bat b hb).2⟩
theorem PSt.rd {w W : World} {x N rb : Nat} {F E : Nat → Prop} {Bx Bs : List Bat} (h : PSt w W x N rb F E Bx Bs) : RRd W rb Bs := h.rin.rd
theorem PSt.rlt {w W : World} {x N rb : Nat} {F E : Nat → Prop} {Bx Bs : List Bat} (h : PSt w W x N rb F E Bx Bs) : rb < W.heap.size := by obtain ⟨v, rs, h1, _⟩ := h.rin; exact lt_of_block h1
theorem RIn.on {W W' : World} {G : Nat → Prop} {rb base : Nat} {Bs : List Bat} (h : RIn W G rb base Bs) (hs : W.heap.size ≤ W'.heap.size) (hr : W'.heap[rb]? = W.heap[rb]?) (ho : ∀ v, W.heap[rb]? = some (.cells #[v] 29 (0, 0)) → ∀ q, v.ownBlock = some q → W'.heap[q]? = W.heap[q]?) (hG : ∀ q, G q → W'.heap[q]? = W.heap[q]?) : RIn W' G rb base Bs := by
  obtain ⟨v, rs, h1, ⟨g1, g2⟩, h3, h4, h5, h6⟩ := h
  refine ⟨v, rs, hr.trans h1, ⟨g1, ?_⟩, h3, h4, h5, fun r hr' => (h6 r hr').on hs hG⟩
  rcases g2 with h | ⟨g, cap, cur, a, b, c, r⟩
  · exact .inl h
  · exact .inr ⟨g, cap, cur, a, b, (ho v h1 g (by rw [a]; rfl)).trans c, r⟩
theorem RIn.own {W : World} {G : Nat → Prop} {rb base : Nat} {Bs : List Bat} (h : RIn W G rb base Bs) : ∀ v, W.heap[rb]? = some (.cells #[v] 29 (0, 0)) → ∀ q, v.ownBlock = some q → base ≤ q ∧ q < W.heap.size ∧ ¬ G q ∧ q ≠ rb := fun v hv q hq => by
  obtain ⟨v', rs, h1, hrow, h3, h4, h5, h6⟩ := h
  have e : v' = v := by rw [h1] at hv; simpa using hv
  subst e
  have hn := hrow.ne h1
  rcases hrow.2 with ⟨e, _⟩ | ⟨g, cap, cur, e, hb, hg, _⟩
  · rw [e] at hq; cases hq
  · rw [e] at hq hn
    simp only [Value.ownBlock, Option.some.injEq] at hq
    subst hq
    exact ⟨hb, lt_of_block hg, h5 g (by rw [e]; rfl), fun e => hn (by rw [← e]; rfl)⟩
theorem PSt.grown {w W W' : World} {x N rb : Nat} {F E : Nat → Prop} {Bx Bs : List Bat} (h : PSt w W x N rb F E Bx Bs) (hb : Below W.heap.size W W') : PSt w W' x N rb F E Bx Bs :=
  { h with
    ix := h.ix.grown hb
    fF := fun q hq => ⟨(h.fF q hq).1, Nat.lt_of_lt_of_le (h.fF q hq).2.1 hb.size, (h.fF q hq).2.2⟩
    hE := fun q hq => ⟨(h.hE q hq).1, Nat.lt_of_lt_of_le (h.hE q hq).2.1 hb.size, by obtain ⟨cur, hc⟩ := (h.hE q hq).2.2; exact ⟨cur, (hb.block q (h.hE q hq).2.1).trans hc⟩⟩
    rin := h.rin.on hb.size (hb.block rb h.rlt) (fun v hv q hq => hb.block q (h.rin.own v hv q hq).2.1) (fun q hq => hb.block q (by rcases hq with hq | hq; exact Nat.lt_of_lt_of_le hq h.bel.size; exact (h.hE q hq).2.1))
    frow := fun v hv => h.frow v ((hb.block rb h.rlt).symm.trans hv)
    bel := h.bel.trans (hb.mono h.bel.size) }
theorem PSt.ofl (Bs : List Bat) (s : List UInt8) : (ofD s (numL (entD Bs))).length = (ixD Bs).ver s := by rw [ofD_len]; unfold Ix.ver; rw [plc_verL]; rfl

/-- A call of the law, as a value. -/
abbrev cA (kd : Int) (s k : List UInt8) (n m : Int) (ea : Option Addr) (en ec : Nat) (bs bk : List UInt8) (bf : Int) (ba : Option Addr) (bn bc : Nat) : Array Value := #[.int .i64 kd, sv s, sv k, .int .i64 n, .int .i64 m, .slice ea en ec, sv bs, sv bk, .int .i64 bf, .slice ba bn bc]
def CBox (w : World) (q : Nat) (kd : Int) (s k : List UInt8) (n m : Int) (ea : Option Addr) (en ec : Nat) (bs bk : List UInt8) (bf : Int) (ba : Option Addr) (bn bc : Nat) : Prop := w.heap[q]? = some (.cells (cA kd s k n m ea en ec bs bk bf ba bn bc) 35 (0, 0))
end Go.Proofs.Ytabcmmhmghgliaa

namespace Go.Proofs.Ytabcmmhmghgliaa
open Go.RowKit Go.Maps
set_option linter.unusedVariables false

theorem cell_on {w A : World} {a : Addr} {v : Value} (hk : ∀ q, q < w.heap.size → A.heap[q]? = w.heap[q]?) (hc : w.cell? a = some v) : A.cell? a = some v := by
  have hl : a.block < w.heap.size := by
    unfold World.cell? at hc
    by_cases h : a.block < w.heap.size
    · exact h
    · rw [Array.getElem?_eq_none (by omega)] at hc; simp at hc
  unfold World.cell? at hc ⊢
  rw [hk _ hl]; exact hc
theorem FdL.on {w A : World} {v : Value} {fs : List Fld} (h : FdL w v fs) (hs : w.heap.size ≤ A.heap.size) (hk : ∀ q, q < w.heap.size → A.heap[q]? = w.heap[q]?) : FdL A v fs := by
  obtain ⟨ao, cap, e, h1, h2, h4⟩ := h
  refine ⟨ao, cap, e, h1, h2, fun hz => ?_⟩
  obtain ⟨b, off, e, hb, hc⟩ := h4 hz
  refine ⟨b, off, e, by omega, fun i hi => ?_⟩
  obtain ⟨c0, c1, c2, c3⟩ := hc i hi
  exact ⟨cell_on hk c0, cell_on hk c1, cell_on hk c2, cell_on hk c3⟩
theorem EvL.on {w A : World} {v : Value} {es : List Evn} (h : EvL w v es) (hs : w.heap.size ≤ A.heap.size) (hk : ∀ q, q < w.heap.size → A.heap[q]? = w.heap[q]?) : EvL A v es := by
  obtain ⟨ao, cap, e, h1, h2, h4⟩ := h
  refine ⟨ao, cap, e, h1, h2, fun hz => ?_⟩
  obtain ⟨b, off, e, hb, hc⟩ := h4 hz
  refine ⟨b, off, e, by omega, fun i hi => ?_⟩
  obtain ⟨c0, c1, a, n, c, c2, c3⟩ := hc i hi
  exact ⟨cell_on hk c0, cell_on hk c1, a, n, c, cell_on hk c2, c3.on hs hk⟩
theorem OwnL.on {w w' : World} {base : Nat} {v : Value} {es : List Evn} (h : OwnL w base v es) (hk : ∀ q, base ≤ q → q < w.heap.size → w'.heap[q]? = w.heap[q]?) : OwnL w' base v es := by
  obtain ⟨rs, ⟨h1, h2⟩, h3, h4⟩ := h
  refine ⟨rs, ⟨h1, ?_⟩, h3, fun r hr => (h4 r hr).on hk⟩
  rcases h2 with h | ⟨g, cap, cur, a, b, c, r⟩
  · exact .inl h
  · exact .inr ⟨g, cap, cur, a, b, (hk g b (lt_of_block c)).trans c, r⟩

/-- The document's events in a row of one's own, whose fields are an argument's, stay as long as that row's block and the argument do. -/
theorem EVOwn.far {w W : World} {base n c : Nat} {a : Option Addr} {es : List Evn} (h : EVOwn w W base (.slice a n c) es) (hne : es.length ≠ 0) (hb : w.heap.size ≤ W.heap.size) (hkW : ∀ q, q < w.heap.size → W.heap[q]? = w.heap[q]?) : ∃ g cur, a = some ⟨g, 0, none⟩ ∧ base ≤ g ∧ W.heap[g]? = some (.cells cur 49 (0, 0)) ∧ ∀ (E : Nat → Prop), E g → FarE (fun q => q < w.heap.size ∨ E q) W a n c es := by
  obtain ⟨rs, hrow, hes, hfd⟩ := h
  have hl : rs.length = es.length := by rw [← hes, List.length_map]
  have hrow0 := hrow
  rcases hrow.2 with ⟨e, h0⟩ | ⟨g, cap, cur, e, hbb, hg, hn, hm, _⟩
  · omega
  · injection e with e1 e2 e3
    subst e1 e2 e3
    refine ⟨g, cur, rfl, hbb, hg, fun E hE A hA hq => ?_⟩
    have hgA : A.heap[g]? = W.heap[g]? := hq g (.inr hE)
    have hkA : ∀ q, q < w.heap.size → A.heap[q]? = w.heap[q]? := fun q hql => (hq q (.inl hql)).trans (hkW q hql)
    have rowA : A.ownsRow base 49 3 (.slice (some ⟨g, 0, none⟩) rs.length c) rs.length (ev3 rs) := by
      refine ⟨hrow.1, ?_⟩
      rcases hrow.2 with ⟨e, _⟩ | ⟨g', cap', cur', e, p, q, r⟩
      · cases e
      · injection e with e1 e2 e3
        injection e1 with e1
        injection e1 with e1
        subst e1
        exact .inr ⟨g, cap', cur', by rw [e3], p, hgA.trans q, r⟩
    refine ⟨some ⟨g, 0, none⟩, c, by rw [hl], by omega, by unfold maxLen at hm; omega, fun hz => ⟨g, 0, rfl, lt_of_block (hgA.trans hg), fun i hi => ?_⟩⟩
    have hir : i < rs.length := by omega
    obtain ⟨q0, q1, q2⟩ := ev3_get rs i rs[i] (List.getElem?_eq_getElem hir)
    have hei : es[i] = rs[i].e := by
      subst hes
      rw [List.getElem_map]
    rw [Nat.zero_add, hei]
    have hrn := (hfd rs[i] (List.getElem_mem hir)).on (Nat.le_trans hb hA) hkA
    exact ⟨(rowA.cellAt _ (by omega)).trans q0, (rowA.cellAt _ (by omega)).trans q1, _, _, _, (rowA.cellAt _ (by omega)).trans q2, hrn⟩

theorem ixD_snoc {Bs : List Bat} (b : Bat) (hk : (ixD Bs).key b.k = none) : (ixD Bs).added b.s b.k b.f b.es = ixD (Bs ++ [b]) := by
  have h : Alike (ixD Bs) Bs := ⟨rfl, fun _ => rfl⟩
  exact (h.add b hk).eq
theorem RIn.more {W : World} {G G' : Nat → Prop} {rb base : Nat} {Bs : List Bat} (h : RIn W G rb base Bs) (hG : ∀ q, G q → G' q) (hr : ¬ G' rb) (ho : ∀ q cur, W.heap[q]? = some (.cells cur 33 (0, 0)) → base ≤ q → ¬ G' q) : RIn W G' rb base Bs := by
  obtain ⟨v, rs, h1, hrow, h3, h4, h5, h6⟩ := h
  refine ⟨v, rs, h1, hrow, h3, hr, fun q hq => ?_, fun r hr' A hA hq => h6 r hr' A hA fun g hg => hq g (hG g hg)⟩
  rcases hrow.2 with ⟨e, _⟩ | ⟨g, cap, cur, e, hb, hg, _⟩
  · rw [e] at hq; cases hq
  · rw [e] at hq
    simp only [Value.ownBlock, Option.some.injEq] at hq
    subst hq
    exact ho g cur hg hb

/-- An append on the program's index. -/
theorem PSt.addX {w W : World} {x N rb : Nat} {F E : Nat → Prop} {Bx Bs : List Bat} (h : PSt w W x N rb F E Bx Bs) (hl : Bx.length < 1000) (s k : List UInt8) (f : Nat) (ea : Option Addr) (en ec : Nat) (es : List Evn) (hs : s.length ≤ maxLen) (hk : k.length ≤ maxLen) (hv : EvFar F W ea en ec es) (hfit : ∀ e ∈ es, fitE e) (hA : chkA (ixD Bx) s k (f : Int) es = 0) (hev : okEvs es) (hkey : (ixD Bx).key k = none) (hf : f ≤ 100000) :
    Calls Try.prog 13 #[.pointer (some ⟨x, 0, none⟩), .agg (bt s k (f : Int) ea en ec)] W fun e W' => e = .returned (.int .i64 0) ∧ PSt w W' x (N + 1 + es.length) rb (fun q => (F q ∨ W.heap.size ≤ q) ∧ q < W'.heap.size) E (Bx ++ [⟨s, k, f, es⟩]) Bs ∧ Kept F W W' := by
  have hN : N ≤ 17000 := by have := h.num; have := h.len; omega
  have hrl := h.rlt
  refine (Add_ok h.ix (fun q hq => (h.fF q hq).2.1) (by omega) s hs f (by omega) k hk ea en ec es hv hfit (fields16 hev) hA hev.2.1 hev.1).mono ?_
  rintro e W' ⟨rfl, k1, i1⟩
  have hz := k1.size
  rw [ixD_snoc ⟨s, k, f, es⟩ hkey] at i1
  have hEn : ∀ q, E q → W'.heap[q]? = W.heap[q]? := fun q hq => k1.block q (h.hE q hq).2.1 fun hf => (h.fF q hf).2.2.1 hq
  have hrb : W'.heap[rb]? = W.heap[rb]? := k1.block rb hrl fun hf => (h.fF rb hf).2.2.2 rfl
  refine ⟨rfl, ⟨i1, fun q hq => ?_, fun q hq => ⟨(h.hE q hq).1, Nat.lt_of_lt_of_le (h.hE q hq).2.1 hz, by obtain ⟨cur, hc⟩ := (h.hE q hq).2.2; exact ⟨cur, (hEn q hq).trans hc⟩⟩, h.rin.on hz hrb (fun v hv q hq => k1.block q (h.rin.own v hv q hq).2.1 (h.frow v hv q hq)) (fun q hq => ?_), fun v hv q hq hfq => ?_, h.bel.trans (k1.below h.bel.size fun q hq => (h.fF q hq).1), ⟨h.len.1, by simp; omega⟩, h.bat, by have := h.num; have := hev.2.1; simp; omega⟩, k1⟩
  · obtain ⟨h1, h2⟩ := hq
    have hb := h.bel.size
    rcases h1 with h1 | h1
    · exact ⟨(h.fF q h1).1, h2, (h.fF q h1).2.2⟩
    · exact ⟨by omega, h2, fun he => by have := (h.hE q he).2.1; omega, by omega⟩
  · rcases hq with hq | hq
    · exact k1.block q (Nat.lt_of_lt_of_le hq h.bel.size) fun hf => by have := (h.fF q hf).1; omega
    · exact hEn q hq
  · rw [hrb] at hv
    rcases hfq.1 with h1 | h1
    · exact h.frow v hv q hq h1
    · have := (h.rin.own v hv q hq).2.1; omega

/-- An append on the document's. -/
theorem PSt.addR {w W : World} {x N rb : Nat} {F E : Nat → Prop} {Bx Bs : List Bat} (h : PSt w W x N rb F E Bx Bs) (hl : Bs.length < 1000) (s k : List UInt8) (f : Nat) (ea : Option Addr) (en ec : Nat) (es : List Evn) (E' : Nat → Prop) (hE' : ∀ q, E' q → E q ∨ (w.heap.size ≤ q ∧ q < W.heap.size ∧ (∃ cur, W.heap[q]? = some (.cells cur 49 (0, 0))) ∧ ¬ F q)) (hEE : ∀ q, E q → E' q) (hs : s.length ≤ maxLen) (hk : k.length ≤ maxLen) (hfar : FarE (fun q => q < w.heap.size ∨ E' q) W ea en ec es) (hfit : ∀ e ∈ es, fitE e) (hA : chkA (ixD Bs) s k (f : Int) es = 0) (hok : okNames s k) (hev : okEvs es) (hf : f ≤ 100000) :
    Calls Try.prog 20 #[.pointer (some ⟨rb, 0, none⟩), .agg (bt s k (f : Int) ea en ec)] W fun e W' => e = .returned (.int .i64 0) ∧ PSt w W' x N rb F E' Bx (Bs ++ [⟨s, k, f, es⟩]) ∧ (W.heap.size ≤ W'.heap.size ∧ W'.os = W.os ∧ W'.tape = W.tape ∧ W'.output = W.output) ∧ ∀ g, g < W.heap.size → g ≠ rb → (∀ v, W.heap[rb]? = some (.cells #[v] 29 (0, 0)) → v.ownBlock ≠ some g) → W'.heap[g]? = W.heap[g]? := by
  have hrl := h.rlt
  obtain ⟨vr, rsr, hr1, _⟩ := id h.rin
  have hEe : ∀ q, E' q → w.heap.size ≤ q ∧ q < W.heap.size ∧ ∃ cur, W.heap[q]? = some (.cells cur 49 (0, 0)) := fun q hq => by
    rcases hE' q hq with h1 | h1
    · exact h.hE q h1
    · exact ⟨h1.1, h1.2.1, h1.2.2.1⟩
  have hrb' : ¬ (rb < w.heap.size ∨ E' rb) := fun q => by
    rcases q with q | q
    · obtain ⟨v, rs, h1, hrow, h3, h4, h5, h6⟩ := h.rin
      exact h4 (.inl q)
    · obtain ⟨_, _, cur, hc⟩ := hEe rb q
      rw [hr1] at hc
      exact absurd hc (by simp)
  have hin : RIn W (fun q => q < w.heap.size ∨ E' q) rb w.heap.size Bs := h.rin.more (fun q hq => hq.imp (fun h => h) (hEE q)) hrb' (fun q cur hc hb hq => by
    rcases hq with hq | hq
    · omega
    · obtain ⟨_, _, cur', hc'⟩ := hEe q hq
      rw [hc] at hc'
      exact absurd hc' (by simp))
  have hsz : s.length ≤ 9223372036854775807 := by unfold maxLen at hs; omega
  have hkz : k.length ≤ 9223372036854775807 := by unfold maxLen at hk; omega
  refine (rAdd_ok rb w.heap.size Bs s k f ea en ec es W (fun q => q < w.heap.size ∨ E' q) (fun q hq => ?_) (fun q hq => hq.imp (fun h => h) (fun hq => (hEe q hq).2.2)) hin h.bel.size hfar h.ok hsz hkz (hfar W (Nat.le_refl _) fun _ _ => rfl) hfit hA).mono ?_
  · rcases hq with hq | hq
    · exact Nat.lt_of_lt_of_le hq h.bel.size
    · exact (hEe q hq).2.1
  · rintro e W' ⟨rfl, hin', hz, ⟨o1, o2, o3⟩, own, hown, hkp, hwh⟩
    have hne : ∀ v, W.heap[rb]? = some (.cells #[v] 29 (0, 0)) → v.ownBlock = own := hown
    have hkg : ∀ g, g < W.heap.size → g ≠ rb → (∀ v, W.heap[rb]? = some (.cells #[v] 29 (0, 0)) → v.ownBlock ≠ some g) → W'.heap[g]? = W.heap[g]? := fun g hg h1 h2 => hkp g hg h1 fun e => h2 vr hr1 ((hne vr hr1).trans e.symm)
    have hFk : ∀ q, F q → W'.heap[q]? = W.heap[q]? := fun q hq => hkg q (h.fF q hq).2.1 (h.fF q hq).2.2.2 fun v hv e => h.frow v hv q e hq
    have hnF : ∀ q, E' q → ¬ F q := fun q hq hf => by
      rcases hE' q hq with h1 | h1
      · exact (h.fF q hf).2.2.1 h1
      · exact h1.2.2.2 hf
    have hEk : ∀ q, E' q → W'.heap[q]? = W.heap[q]? := fun q hq => hkg q (hEe q hq).2.1 (fun e => hrb' (.inr (e ▸ hq))) fun v hv e => by
      obtain ⟨v', rs, h1, hrow, h3, h4, h5, h6⟩ := hin
      have ev : v' = v := by rw [h1] at hv; simpa using hv
      subst ev
      exact h5 q e (.inr hq)
    refine ⟨rfl, ⟨h.ix.frame fun q hq _ => hFk q hq, fun q hq => ⟨(h.fF q hq).1, Nat.lt_of_lt_of_le (h.fF q hq).2.1 hz, fun he => hnF q he hq, (h.fF q hq).2.2.2⟩, fun q hq => ⟨(hEe q hq).1, Nat.lt_of_lt_of_le (hEe q hq).2.1 hz, by obtain ⟨_, _, cur, hc⟩ := hEe q hq; exact ⟨cur, (hEk q hq).trans hc⟩⟩, hin', fun v hv q hq hfq => ?_, ?_, ⟨by simp; omega, h.len.2⟩, fun b hb => ?_, h.num⟩, ⟨hz, o1, o2, o3⟩, hkg⟩
    · rcases hwh v hv q hq with h1 | h1
      · exact h.frow vr hr1 q ((hne vr hr1).trans h1) hfq
      · have := (h.fF q hfq).2.1; omega
    · exact ⟨o1.trans h.bel.os, o2.trans h.bel.tape, o3.trans h.bel.output, Nat.le_trans h.bel.size hz, fun q hq => (hkg q (Nat.lt_of_lt_of_le hq h.bel.size) (fun e => hrb' (.inl (e ▸ hq))) fun v hv e => by have := (h.rin.own v hv q e).1; omega).trans (h.bel.block q hq)⟩
    · rcases List.mem_append.1 hb with hb | hb
      · exact h.bat b hb
      · rw [List.mem_singleton.1 hb]
        refine ⟨fun e => ?_, hev.2.1, hf, hok.2.1, hok.2.2⟩
        have := hev.1
        rw [show es = [] from e] at this
        simp at this
end Go.Proofs.Ytabcmmhmghgliaa

namespace Go.Proofs.Ytabcmmhmghgliaa
open Go.RowKit Go.Maps
set_option linter.unusedVariables false

theorem PSt.rowTy {w W : World} {x N rb : Nat} {F E : Nat → Prop} {Bx Bs : List Bat} (h : PSt w W x N rb F E Bx Bs) : ∀ v, W.heap[rb]? = some (.cells #[v] 29 (0, 0)) → ∀ q, v.ownBlock = some q → ∃ cur, W.heap[q]? = some (.cells cur 33 (0, 0)) := fun v hv q hq => by
  obtain ⟨v', rs, h1, hrow, _⟩ := h.rin
  have ev : v' = v := by rw [h1] at hv; simpa using hv
  subst ev
  rcases hrow.2 with ⟨e, _⟩ | ⟨g, cap, cur, e, hb, hg, _⟩
  · rw [e] at hq; cases hq
  · rw [e] at hq
    simp only [Value.ownBlock, Option.some.injEq] at hq
    subst hq
    exact ⟨cur, hg⟩
theorem PSt.kept {S : Nat → Prop} {w W W' : World} {x N rb : Nat} {F E : Nat → Prop} {Bx Bs : List Bat} (h : PSt w W x N rb F E Bx Bs) (k : Kept S W W') (hS : ∀ q, S q → w.heap.size ≤ q ∧ ¬ F q ∧ ¬ E q ∧ q ≠ rb ∧ ∀ cur, W.heap[q]? ≠ some (.cells cur 33 (0, 0))) : PSt w W' x N rb F E Bx Bs := by
  have hrl := h.rlt
  have hr : W'.heap[rb]? = W.heap[rb]? := k.block rb hrl fun q => (hS rb q).2.2.2.1 rfl
  have hE : ∀ q, E q → W'.heap[q]? = W.heap[q]? := fun q hq => k.block q (h.hE q hq).2.1 fun hs => (hS q hs).2.2.1 hq
  exact { h with
    ix := h.ix.frame fun q hq hl => k.block q hl fun hs => (hS q hs).2.1 hq
    fF := fun q hq => ⟨(h.fF q hq).1, Nat.lt_of_lt_of_le (h.fF q hq).2.1 k.size, (h.fF q hq).2.2⟩
    hE := fun q hq => ⟨(h.hE q hq).1, Nat.lt_of_lt_of_le (h.hE q hq).2.1 k.size, by obtain ⟨cur, hc⟩ := (h.hE q hq).2.2; exact ⟨cur, (hE q hq).trans hc⟩⟩
    rin := h.rin.on k.size hr (fun v hv q hq => k.block q (h.rin.own v hv q hq).2.1 fun hs => by obtain ⟨cur, hc⟩ := h.rowTy v hv q hq; exact (hS q hs).2.2.2.2 cur hc) (fun q hq => by
      rcases hq with hq | hq
      · exact k.block q (Nat.lt_of_lt_of_le hq h.bel.size) fun hs => by have := (hS q hs).1; omega
      · exact hE q hq)
    frow := fun v hv => h.frow v (hr.symm.trans hv)
    bel := h.bel.trans (k.below h.bel.size fun q hq => (hS q hq).1) }

/-- Blocks of the two indexes. -/
def OldB (W : World) (F : Nat → Prop) (rb g : Nat) : Prop := F g ∨ g = rb ∨ ∃ v, W.heap[rb]? = some (.cells #[v] 29 (0, 0)) ∧ v.ownBlock = some g
/-- All but these is as it was. -/
structure KeptO (W : World) (F : Nat → Prop) (rb : Nat) (V : World) : Prop where
  size : W.heap.size ≤ V.heap.size
  os : V.os = W.os
  tape : V.tape = W.tape
  output : V.output = W.output
  block : ∀ g, g < W.heap.size → ¬ OldB W F rb g → V.heap[g]? = W.heap[g]?

theorem evblk_far {W : World} {F : Nat → Prop} {q : Nat} {es : List Evn} {ys : List (Evn × Nat)} (hb : EvBlk W q es.length ys) (hy : ys.map (·.1) = es) (h16 : es.length ≤ 16) (hn : ∀ g, (g = q ∨ ∃ y ∈ ys, g = y.2) → ¬ F g) : EvFar F W (some ⟨q, 0, none⟩) es.length es.length es := by
  have hl : ys.length = es.length := by have := congrArg List.length hy; simpa using this
  have hq := hb.lt
  refine ⟨fun A hA hk => ?_, fun b off e _ => ?_⟩
  · have b2 : EvBlk A q es.length ys := hb.same (hk q hq (hn q (.inl rfl))) (fun y hyy => hk y.2 (hb.2 y hyy).1.lt (hn y.2 (.inr ⟨y, hyy, rfl⟩)))
    have := b2.evl hl h16
    rwa [hy] at this
  · cases e
    exact ⟨hq, hn q (.inl rfl)⟩
theorem EVOwn.on {w W V : World} {base : Nat} {v : Value} {es : List Evn} (h : EVOwn w W base v es) (hk : ∀ g, v.ownBlock = some g → V.heap[g]? = W.heap[g]?) : EVOwn w V base v es := by
  obtain ⟨rs, ⟨h1, h2⟩, h3, h4⟩ := h
  refine ⟨rs, ⟨h1, ?_⟩, h3, h4⟩
  rcases h2 with h | ⟨g, cap, cur, a, b, c, r⟩
  · exact .inl h
  · exact .inr ⟨g, cap, cur, a, b, (hk g (by rw [a]; rfl)).trans c, r⟩

theorem adds_go {w W : World} {x N rb : Nat} {F E : Nat → Prop} {Bs : List Bat} (h : PSt w W x N rb F E Bs Bs) (hl : Bs.length < 1000) (s k : List UInt8) (f : Nat) (q : Nat) (es : List Evn) (ys : List (Evn × Nat)) (va : Option Addr) (vc base : Nat) (hs : s.length ≤ maxLen) (hk : k.length ≤ maxLen) (hfit : ∀ e ∈ es, fitE e) (hA : chkA (ixD Bs) s k (f : Int) es = 0) (hok : okNames s k) (hev : okEvs es) (hkey : (ixD Bs).key k = none) (hf : f ≤ 100000)
    (hb : EvBlk W q es.length ys) (hy : ys.map (·.1) = es) (hbn : ∀ g, (g = q ∨ ∃ y ∈ ys, g = y.2) → ¬ OldB W F rb g) (hv : EVOwn w W base (.slice va es.length vc) es) (hvb : w.heap.size ≤ base) (hvn : ∀ g, base ≤ g → ¬ OldB W F rb g) (hqb : q < base) (hyb : ∀ y ∈ ys, y.2 < base) :
    ∃ PX PR PB : World → Prop, Calls Try.prog 13 #[.pointer (some ⟨x, 0, none⟩), .agg (bt s k (f : Int) (some ⟨q, 0, none⟩) es.length es.length)] W (fun e V => e = .returned (.int .i64 0) ∧ PX V) ∧ Calls Try.prog 20 #[.pointer (some ⟨rb, 0, none⟩), .agg (bt s k (f : Int) va es.length vc)] W (fun e V => e = .returned (.int .i64 0) ∧ PR V) ∧
      (∀ V, PX V → Calls Try.prog 20 #[.pointer (some ⟨rb, 0, none⟩), .agg (bt s k (f : Int) va es.length vc)] V (fun e V' => e = .returned (.int .i64 0) ∧ PB V')) ∧ (∀ V, PR V → Calls Try.prog 13 #[.pointer (some ⟨x, 0, none⟩), .agg (bt s k (f : Int) (some ⟨q, 0, none⟩) es.length es.length)] V (fun e V' => e = .returned (.int .i64 0) ∧ PB V')) ∧
      (∀ V, PX V → KeptO W F rb V) ∧ (∀ V, PR V → KeptO W F rb V) ∧ (∀ V, PB V → KeptO W F rb V) ∧ ∀ V, PB V → ∃ (F' E' : Nat → Prop), PSt w V x (N + 1 + es.length) rb F' E' (Bs ++ [⟨s, k, f, es⟩]) (Bs ++ [⟨s, k, f, es⟩]) ∧ (∀ g, g < W.heap.size → F' g → F g) ∧ ∀ g, g < base → E' g → E g := by
  have hne : es.length ≠ 0 := by have := hev.1; omega
  have hrl := h.rlt
  obtain ⟨yg, ycur, hya, hyb2, hyty, hyfar⟩ := hv.far hne h.bel.size (fun q hq => h.bel.block q hq)
  have hyl := lt_of_block hyty
  have hyn := hvn yg hyb2
  have hbx : EvFar F W (some ⟨q, 0, none⟩) es.length es.length es := evblk_far hb hy hev.2.1 fun g hg hf => hbn g hg (.inl hf)
  let E' : Nat → Prop := fun g => E g ∨ g = yg
  let PX : World → Prop := fun V => PSt w V x (N + 1 + es.length) rb (fun q => (F q ∨ W.heap.size ≤ q) ∧ q < V.heap.size) E (Bs ++ [⟨s, k, f, es⟩]) Bs ∧ Kept F W V
  let PR : World → Prop := fun V => PSt w V x N rb F E' Bs (Bs ++ [⟨s, k, f, es⟩]) ∧ KeptO W F rb V
  let PB : World → Prop := fun V => KeptO W F rb V ∧ ∃ (F' : Nat → Prop), PSt w V x (N + 1 + es.length) rb F' E' (Bs ++ [⟨s, k, f, es⟩]) (Bs ++ [⟨s, k, f, es⟩]) ∧ (∀ g, g < W.heap.size → F' g → F g)
  have kx : ∀ V, PX V → KeptO W F rb V := fun V hV => ⟨hV.2.size, hV.2.os, hV.2.tape, hV.2.output, fun g hg hn => hV.2.block g hg fun hf => hn (.inl hf)⟩
  refine ⟨PX, PR, PB, ?_, ?_, ?_, ?_, kx, fun V hV => hV.2, fun V hV => hV.1, fun V hV => ?_⟩
  · exact (h.addX hl s k f _ _ _ es hs hk hbx hfit hA hev hkey hf).mono fun e V q => ⟨q.1, q.2.1, q.2.2⟩
  · refine (h.addR hl s k f va es.length vc es E' (fun g hg => hg.imp (fun h => h) (fun e => by subst e; exact ⟨Nat.le_trans hvb hyb2, hyl, ⟨ycur, hyty⟩, fun hf => hyn (.inl hf)⟩)) (fun g hg => .inl hg) hs hk (hyfar E' (.inr rfl)) hfit hA hok hev hf).mono ?_
    rintro e V ⟨rfl, p1, ⟨z, o1, o2, o3⟩, p3⟩
    exact ⟨rfl, p1, z, o1, o2, o3, fun g hg hn => p3 g hg (fun e => hn (.inr (.inl e))) fun v hv e => hn (.inr (.inr ⟨v, hv, e⟩))⟩
  · rintro V ⟨p1, k1⟩
    have hrV : V.heap[rb]? = W.heap[rb]? := k1.block rb hrl fun hf => (h.fF rb hf).2.2.2 rfl
    have hyV : V.heap[yg]? = W.heap[yg]? := k1.block yg hyl fun hf => hyn (.inl hf)
    obtain ⟨yg', ycur', hya', _, _, hyfar'⟩ := (hv.on (V := V) (fun g hg => by rw [hya] at hg; simp only [Value.ownBlock, Option.some.injEq] at hg; subst hg; exact hyV)).far hne p1.bel.size (fun q hq => p1.bel.block q hq)
    have hgg : yg' = yg := by rw [hya] at hya'; simpa using hya'.symm
    subst hgg
    refine (p1.addR hl s k f va es.length vc es E' (fun g hg => hg.imp (fun h => h) (fun e => by
      subst e
      exact ⟨Nat.le_trans hvb hyb2, Nat.lt_of_lt_of_le hyl k1.size, ⟨ycur, hyV.trans hyty⟩, fun hf => by
        rcases hf.1 with h1 | h1
        · exact hyn (.inl h1)
        · omega⟩)) (fun g hg => .inl hg) hs hk (hyfar' E' (.inr rfl)) hfit hA hok hev hf).mono ?_
    rintro e V' ⟨rfl, p2, ⟨z, o1, o2, o3⟩, p3⟩
    refine ⟨rfl, ⟨Nat.le_trans k1.size z, o1.trans k1.os, o2.trans k1.tape, o3.trans k1.output, fun g hg hn => (p3 g (Nat.lt_of_lt_of_le hg k1.size) (fun e => hn (.inr (.inl e))) fun v hv e => hn (.inr (.inr ⟨v, hrV.symm.trans hv, e⟩))).trans (k1.block g hg fun hf => hn (.inl hf))⟩, _, p2, fun g hg hf => ?_⟩
    rcases hf.1 with h1 | h1
    · exact h1
    · omega
  · rintro V ⟨p1, k1⟩
    have hbV : EvBlk V q es.length ys := hb.same (k1.block q hb.lt (hbn q (.inl rfl))) fun y hyy => k1.block y.2 (hb.2 y hyy).1.lt (hbn y.2 (.inr ⟨y, hyy, rfl⟩))
    have hbxV : EvFar F V (some ⟨q, 0, none⟩) es.length es.length es := evblk_far hbV hy hev.2.1 fun g hg hf => hbn g hg (.inl hf)
    refine (p1.addX hl s k f _ _ _ es hs hk hbxV hfit hA hev hkey hf).mono ?_
    rintro e V' ⟨rfl, p2, k2⟩
    refine ⟨rfl, ⟨Nat.le_trans k1.size k2.size, k2.os.trans k1.os, k2.tape.trans k1.tape, k2.output.trans k1.output, fun g hg hn => (k2.block g (Nat.lt_of_lt_of_le hg k1.size) fun hf => hn (.inl hf)).trans (k1.block g hg hn)⟩, _, p2, fun g hg hf => ?_⟩
    have := k1.size
    rcases hf.1 with h1 | h1
    · exact h1
    · omega
  · obtain ⟨k1, F', p1, p2⟩ := hV
    refine ⟨F', E', p1, p2, fun g hg he => ?_⟩
    rcases he with he | he
    · exact he
    · omega
end Go.Proofs.Ytabcmmhmghgliaa
