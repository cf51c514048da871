/-
  DERIVED. The law's do: tries, and what is asked.
-/
import Derived.Test.YtabcmmhmghgliaaSq14
import Derived.Test.YtabcmmhmghgliaaSq10
namespace Go.Proofs.Ytabcmmhmghgliaa
open Go.RowKit Go.Maps
set_option linter.unusedVariables false

/-- A call's values, as they are read. -/
structure PCl where
  kd : Int
  s : List UInt8
  k : List UInt8
  n : Int
  m : Int
  ea : Option Addr
  en : Nat
  ec : Nat
  es : List Evn
  bs : List UInt8
  bk : List UInt8
  bf : Int
  ba : Option Addr
  bn : Nat
  bc : Nat
  be : List Evn
abbrev PCl.v (c : PCl) : Array Value := cA c.kd c.s c.k c.n c.m c.ea c.en c.ec c.bs c.bk c.bf c.ba c.bn c.bc
/-- Events of an argument: no more than this machine's memory bears. -/
structure Evs (w : World) (a : Option Addr) (n c : Nat) (es : List Evn) : Prop where
  ev : EvL w (.slice a n c) es
  fit : ∀ e ∈ es, fitE e
  sz : es.length * 48 ≤ 140737488351232
  szf : ∀ e ∈ es, e.fields.length * 48 ≤ 140737488351232
structure PClOk (w : World) (c : PCl) : Prop where
  s : c.s.length ≤ maxLen
  k : c.k.length ≤ maxLen
  n : -9223372036854775808 ≤ c.n ∧ c.n ≤ 9223372036854775807
  m : -9223372036854775808 ≤ c.m ∧ c.m ≤ 9223372036854775807
  e : Evs w c.ea c.en c.ec c.es
  bs : c.bs.length ≤ maxLen
  bk : c.bk.length ≤ maxLen
  b : Evs w c.ba c.bn c.bc c.be
/-- Behind a call: both indexes stand side by side again. -/
def DoPost (w : World) (x rb : Nat) (Bs : List Bat) (e : Ending) (W' : World) : Prop := e = .returned (.bool true) ∧ ∃ N' F' E' Bs', PSt w W' x N' rb F' E' Bs' Bs' ∧ Bs'.length ≤ Bs.length + 1
theorem DoPost.same {w W' : World} {x N rb : Nat} {F E : Nat → Prop} {Bs : List Bat} (h : PSt w W' x N rb F E Bs Bs) : DoPost w x rb Bs (.returned (.bool true)) W' := ⟨rfl, N, F, E, Bs, h, by omega⟩

theorem tried_go {w W : World} {x N rb : Nat} {F E : Nat → Prop} {Bs : List Bat} (h : PSt w W x N rb F E Bs Bs) (hl : Bs.length < 1000) (c : PCl) (hc : PClOk w c) :
    Calls Try.prog 16 #[.pointer (some ⟨x, 0, none⟩), .pointer (some ⟨rb, 0, none⟩), .agg c.v] W (DoPost w x rb Bs) := by
  by_cases hok : tryOk (ixD Bs) c.s c.n c.k c.es
  · exact tried_ok h hl c.kd c.s c.k hc.s hc.k c.n c.m c.ea c.en c.ec c.es c.bs c.bk c.bf c.ba c.bn c.bc hc.e.ev hc.e.fit hc.e.sz hc.e.szf hok
  · refine (tried_bad h hl c.kd c.s c.k hc.s hc.k c.n c.m c.ea c.en c.ec c.es c.bs c.bk c.bf c.ba c.bn c.bc hc.e.ev hc.e.fit hc.e.sz hc.e.szf hok).mono ?_
    rintro e W' ⟨rfl, p⟩
    exact DoPost.same p

/-- The call's box, cell by cell. -/
theorem cbox_cells {V : World} {q : Nat} {kd : Int} {s k : List UInt8} {n m : Int} {ea : Option Addr} {en ec : Nat} {bs bk : List UInt8} {bf : Int} {ba : Option Addr} {bn bc : Nat} (h : CBox V q kd s k n m ea en ec bs bk bf ba bn bc) :
    V.cell? ⟨q, 0, none⟩ = some (.int .i64 kd) ∧ V.cell? ⟨q, 1, none⟩ = some (sv s) ∧ V.cell? ⟨q, 2, none⟩ = some (sv k) ∧ V.cell? ⟨q, 3, none⟩ = some (.int .i64 n) ∧ V.cell? ⟨q, 4, none⟩ = some (.int .i64 m) ∧ V.cell? ⟨q, 5, none⟩ = some (.slice ea en ec) ∧ V.cell? ⟨q, 6, none⟩ = some (sv bs) ∧ V.cell? ⟨q, 7, none⟩ = some (sv bk) ∧ V.cell? ⟨q, 8, none⟩ = some (.int .i64 bf) ∧ V.cell? ⟨q, 9, none⟩ = some (.slice ba bn bc) :=
  ⟨(cell_of_row _ _ _ _ _ _ h).trans rfl, (cell_of_row _ _ _ _ _ _ h).trans rfl, (cell_of_row _ _ _ _ _ _ h).trans rfl, (cell_of_row _ _ _ _ _ _ h).trans rfl, (cell_of_row _ _ _ _ _ _ h).trans rfl, (cell_of_row _ _ _ _ _ _ h).trans rfl, (cell_of_row _ _ _ _ _ _ h).trans rfl, (cell_of_row _ _ _ _ _ _ h).trans rfl, (cell_of_row _ _ _ _ _ _ h).trans rfl, (cell_of_row _ _ _ _ _ _ h).trans rfl⟩

set_option maxRecDepth 20000 in
set_option maxHeartbeats 8000000 in
theorem do_tried {w W : World} {x N rb : Nat} {F E : Nat → Prop} {Bs : List Bat} (h : PSt w W x N rb F E Bs Bs) (hl : Bs.length < 1000) (cc : PCl) (hc : PClOk w cc) (hkd : cc.kd = 1 ∨ cc.kd = 2) :
    Calls Try.prog 6 #[.pointer (some ⟨x, 0, none⟩), .pointer (some ⟨rb, 0, none⟩), .agg cc.v] W (DoPost w x rb Bs) := by
  obtain ⟨w1, hw1⟩ : ∃ w1, w1 = W.alloc (.cells cc.v 35) := ⟨_, rfl⟩
  have b1 : Below W.heap.size W w1 := by rw [hw1]; exact (Below.refl _ _).alloc (Nat.le_refl _) _
  obtain ⟨cb, hcb⟩ : ∃ cb, cb = W.heap.size := ⟨_, rfl⟩
  have x1 : w1.heap[cb]? = some (.cells cc.v 35 (0, 0)) := by rw [hw1, hcb]; exact heap_alloc_self _ _
  have CT := hide (tried_go (h.grown b1) hl cc hc)
  have HW1 := hide hw1
  obtain ⟨kd, s, k, n, m, ea, en, ec, es, bs, bk, bf, ba, bn, bc, be⟩ := cc
  obtain ⟨c0, c1, c2, c3, c4, c5, c6, c7, c8, c9⟩ := cbox_cells x1
  simp only [PCl.v] at CT HW1 hkd c0 c1 c2 c3 c4 c5 c6 c7 c8 c9 ⊢
  clear h hc b1 x1 hw1
  rcases hkd with rfl | rfl
  · go_enter Try.func6, Try.ntmps6
    go_upto_region 1 with fail
    rw [show W.alloc (.cells #[Value.int .i64 1, Value.string ⟨s.toArray⟩, .string ⟨k.toArray⟩, .int .i64 n, .int .i64 m, .slice ea en ec, .string ⟨bs.toArray⟩, .string ⟨bk.toArray⟩, .int .i64 bf, .slice ba bn bc] 35) = w1 from (unhide HW1).symm]
    rw [← hcb]
    clear hcb
    go_wp2_with fail
    with_reducible refine (unhide CT).mono ?_
    rintro e w2 ⟨rfl, hp⟩
    go_wp2
    go_ret
    exact ⟨rfl, hp⟩
  · go_enter Try.func6, Try.ntmps6
    go_upto_region 1 with fail
    rw [show W.alloc (.cells #[Value.int .i64 2, Value.string ⟨s.toArray⟩, .string ⟨k.toArray⟩, .int .i64 n, .int .i64 m, .slice ea en ec, .string ⟨bs.toArray⟩, .string ⟨bk.toArray⟩, .int .i64 bf, .slice ba bn bc] 35) = w1 from (unhide HW1).symm]
    rw [← hcb]
    clear hcb
    go_wp2_with fail
    with_reducible refine (unhide CT).mono ?_
    rintro e w2 ⟨rfl, hp⟩
    go_wp2
    go_ret
    exact ⟨rfl, hp⟩

set_option maxRecDepth 20000 in
set_option maxHeartbeats 8000000 in
theorem do_asked {w W : World} {x N rb : Nat} {F E : Nat → Prop} {Bs : List Bat} (h : PSt w W x N rb F E Bs Bs) (hl : Bs.length < 1000) (cc : PCl) (hc : PClOk w cc) (hkd : cc.kd = 6) :
    Calls Try.prog 6 #[.pointer (some ⟨x, 0, none⟩), .pointer (some ⟨rb, 0, none⟩), .agg cc.v] W (DoPost w x rb Bs) := by
  obtain ⟨w1, hw1⟩ : ∃ w1, w1 = W.alloc (.cells cc.v 35) := ⟨_, rfl⟩
  have b1 : Below W.heap.size W w1 := by rw [hw1]; exact (Below.refl _ _).alloc (Nat.le_refl _) _
  obtain ⟨cb, hcb⟩ : ∃ cb, cb = W.heap.size := ⟨_, rfl⟩
  have x1 : w1.heap[cb]? = some (.cells cc.v 35 (0, 0)) := by rw [hw1, hcb]; exact heap_alloc_self _ _
  have CT := hide (asked_go (h.grown b1) cc.kd cc.s cc.k hc.s hc.k cc.n cc.m cc.ea cc.en cc.ec cc.bs cc.bk cc.bf cc.ba cc.bn cc.bc)
  have HP := hide (h.grown b1)
  have HW1 := hide hw1
  obtain ⟨kd, s, k, n, m, ea, en, ec, es, bs, bk, bf, ba, bn, bc, be⟩ := cc
  obtain ⟨c0, c1, c2, c3, c4, c5, c6, c7, c8, c9⟩ := cbox_cells x1
  simp only [PCl.v] at CT HW1 hkd c0 c1 c2 c3 c4 c5 c6 c7 c8 c9 ⊢
  clear h hc b1 x1 hw1
  subst hkd
  go_enter Try.func6, Try.ntmps6
  go_upto_region 1 with fail
  rw [show W.alloc (.cells #[Value.int .i64 6, Value.string ⟨s.toArray⟩, .string ⟨k.toArray⟩, .int .i64 n, .int .i64 m, .slice ea en ec, .string ⟨bs.toArray⟩, .string ⟨bk.toArray⟩, .int .i64 bf, .slice ba bn bc] 35) = w1 from (unhide HW1).symm]
  rw [← hcb]
  clear hcb
  go_wp2_with fail
  with_reducible refine (unhide CT).mono ?_
  rintro e w2 ⟨rfl, hp⟩
  have HB := hide hp
  clear hp
  go_wp2
  go_ret
  exact DoPost.same ((unhide HP).grown (unhide HB))

set_option maxRecDepth 20000 in
set_option maxHeartbeats 8000000 in
theorem do_else {w W : World} {x N rb : Nat} {F E : Nat → Prop} {Bs : List Bat} (h : PSt w W x N rb F E Bs Bs) (hl : Bs.length < 1000) (cc : PCl) (hc : PClOk w cc) (hkd : cc.kd ≠ 1 ∧ cc.kd ≠ 2 ∧ cc.kd ≠ 3 ∧ cc.kd ≠ 4 ∧ cc.kd ≠ 5 ∧ cc.kd ≠ 6) :
    Calls Try.prog 6 #[.pointer (some ⟨x, 0, none⟩), .pointer (some ⟨rb, 0, none⟩), .agg cc.v] W (DoPost w x rb Bs) := by
  obtain ⟨w1, hw1⟩ : ∃ w1, w1 = W.alloc (.cells cc.v 35) := ⟨_, rfl⟩
  have b1 : Below W.heap.size W w1 := by rw [hw1]; exact (Below.refl _ _).alloc (Nat.le_refl _) _
  obtain ⟨cb, hcb⟩ : ∃ cb, cb = W.heap.size := ⟨_, rfl⟩
  have x1 : w1.heap[cb]? = some (.cells cc.v 35 (0, 0)) := by rw [hw1, hcb]; exact heap_alloc_self _ _
  have HP := hide (h.grown b1)
  have HW1 := hide hw1
  obtain ⟨kd, s, k, n, m, ea, en, ec, es, bs, bk, bf, ba, bn, bc, be⟩ := cc
  obtain ⟨c0, c1, c2, c3, c4, c5, c6, c7, c8, c9⟩ := cbox_cells x1
  simp only [PCl.v] at HW1 hkd c0 c1 c2 c3 c4 c5 c6 c7 c8 c9 ⊢
  obtain ⟨k1, k2, k3, k4, k5, k6⟩ := hkd
  have e1 : (kd == 1) = false := beq_eq_false_iff_ne.2 k1
  have e2 : (kd == 2) = false := beq_eq_false_iff_ne.2 k2
  have e3 : (kd == 3) = false := beq_eq_false_iff_ne.2 k3
  have e4 : (kd == 4) = false := beq_eq_false_iff_ne.2 k4
  have e5 : (kd == 5) = false := beq_eq_false_iff_ne.2 k5
  have e6 : (kd == 6) = false := beq_eq_false_iff_ne.2 k6
  clear h hc b1 x1 hw1 k1 k2 k3 k4 k5 k6
  go_enter Try.func6, Try.ntmps6
  go_upto_region 1 with fail
  rw [show W.alloc (.cells #[Value.int .i64 kd, Value.string ⟨s.toArray⟩, .string ⟨k.toArray⟩, .int .i64 n, .int .i64 m, .slice ea en ec, .string ⟨bs.toArray⟩, .string ⟨bk.toArray⟩, .int .i64 bf, .slice ba bn bc] 35) = w1 from (unhide HW1).symm]
  rw [← hcb]
  clear hcb
  go_wp2
  go_ret
  exact DoPost.same (unhide HP)
end Go.Proofs.Ytabcmmhmghgliaa

namespace Go.Proofs.Ytabcmmhmghgliaa
open Go.RowKit Go.Maps
set_option linter.unusedVariables false

theorem PSt.kept2 {S : Nat → Prop} {w W W' : World} {x N rb : Nat} {F E : Nat → Prop} {Bx Bs : List Bat} (h : PSt w W x N rb F E Bx Bs) (k : Kept S W W') (hS : ∀ q, S q → w.heap.size ≤ q ∧ ¬ F q ∧ ¬ E q ∧ q ≠ rb) (hO : ∀ v, W.heap[rb]? = some (.cells #[v] 29 (0, 0)) → ∀ q, v.ownBlock = some q → ¬ S q) : PSt w W' x N rb F E Bx Bs := by
  have hrl := h.rlt
  have hr : W'.heap[rb]? = W.heap[rb]? := k.block rb hrl fun q => (hS rb q).2.2.2 rfl
  have hE : ∀ q, E q → W'.heap[q]? = W.heap[q]? := fun q hq => k.block q (h.hE q hq).2.1 fun hs => (hS q hs).2.2.1 hq
  exact { h with
    ix := h.ix.frame fun q hq hl => k.block q hl fun hs => (hS q hs).2.1 hq
    fF := fun q hq => ⟨(h.fF q hq).1, Nat.lt_of_lt_of_le (h.fF q hq).2.1 k.size, (h.fF q hq).2.2⟩
    hE := fun q hq => ⟨(h.hE q hq).1, Nat.lt_of_lt_of_le (h.hE q hq).2.1 k.size, by obtain ⟨cur, hc⟩ := (h.hE q hq).2.2; exact ⟨cur, (hE q hq).trans hc⟩⟩
    rin := h.rin.on k.size hr (fun v hv q hq => k.block q (h.rin.own v hv q hq).2.1 fun hs => hO v hv q hq hs) (fun q hq => by
      rcases hq with hq | hq
      · exact k.block q (Nat.lt_of_lt_of_le hq h.bel.size) fun hs => by have := (hS q hs).1; omega
      · exact hE q hq)
    frow := fun v hv => h.frow v (hr.symm.trans hv)
    bel := h.bel.trans (k.below h.bel.size fun q hq => (hS q hq).1) }
theorem OwnL.far {W : World} {F : Nat → Prop} {base n c : Nat} {a : Option Addr} {es : List Evn} (h : OwnL W base (.slice a n c) es) (hn : ∀ q, base ≤ q → ¬ F q) : EvFar F W a n c es := by
  refine ⟨fun A hA hk => (h.on (w' := A) fun q hb hl => hk q hl (hn q hb)).evl, fun b off e hz => ?_⟩
  obtain ⟨eb, rs, hl, _, _, hsp⟩ := h.sp
  obtain ⟨e1, h1⟩ := hsp hz
  rw [e] at e1
  cases e1
  exact ⟨h1.se.2, hn _ h1.se.1⟩
theorem Evs.far {w W : World} {a : Option Addr} {n c : Nat} {es : List Evn} (h : Evs w a n c es) (hb : Below w.heap.size w W) (E : Nat → Prop) : FarE (fun q => q < w.heap.size ∨ E q) W a n c es := fun A hA hq => h.ev.on (Nat.le_trans hb.size hA) fun q hl => (hq q (.inl hl)).trans (hb.block q hl)

theorem add3 {w W W4 : World} {x N rb : Nat} {F E : Nat → Prop} {Bs : List Bat} (h0 : PSt w W x N rb F E Bs Bs) (hl : Bs.length < 1000) (hb : Below W.heap.size W W4) (bs bk : List UInt8) (bf : Int) (hbs : bs.length ≤ maxLen) (hbk : bk.length ≤ maxLen) (va : Option Addr) (vc : Nat) (ba : Option Addr) (bn bc : Nat) (be : List Evn) (far : EvFar F W4 va bn vc be) (hv : Evs w ba bn bc be) :
    ∃ (err : Int) (PX : World → Prop), Calls Try.prog 13 #[.pointer (some ⟨x, 0, none⟩), .agg (bt bs bk bf va bn vc)] W4 (fun e V => e = .returned (.int .i64 err) ∧ PX V) ∧ (∀ V, PX V → Kept F W4 V) ∧ ∀ (V V' : World) (S : Nat → Prop), PX V → Kept S V V' → (∀ q, S q → W.heap.size ≤ q ∧ q < W4.heap.size) →
      Calls Try.prog 20 #[.pointer (some ⟨rb, 0, none⟩), .agg (bt bs bk bf ba bn bc)] V' (fun e V'' => e = .returned (.int .i64 err) ∧ ∃ N' F' E' Bs', PSt w V'' x N' rb F' E' Bs' Bs' ∧ Bs'.length ≤ Bs.length + 1) := by
  have h := h0.grown hb
  have hrw : W4.heap[rb]? = W.heap[rb]? := hb.block rb h0.rlt
  by_cases hA : chkA (ixD Bs) bs bk bf be = 0
  · have hnm : okNames bs bk := Classical.byContradiction fun q => by rw [chk1 q] at hA; cases hA
    have hk : (ixD Bs).key bk = none := by
      cases hD : (ixD Bs).key bk with
      | none => rfl
      | some d => rw [chk2 hnm (by rw [hD]; rfl)] at hA; cases hA
    have hki : ¬ ((ixD Bs).key bk).isSome = true := by rw [hk]; simp
    have hev : okEvs be := Classical.byContradiction fun q => by rw [chk3 hnm hki q] at hA; cases hA
    have hf : bf = ((ixD Bs).ver bs : Int) := Classical.byContradiction fun q => by rw [chk4 hnm hki hev q] at hA; cases hA
    subst hf
    refine ⟨0, fun V => PSt w V x (N + 1 + be.length) rb (fun q => (F q ∨ W4.heap.size ≤ q) ∧ q < V.heap.size) E (Bs ++ [⟨bs, bk, (ixD Bs).ver bs, be⟩]) Bs ∧ Kept F W4 V, ?_, fun V hV => hV.2, ?_⟩
    · exact h.addX hl bs bk _ va bn vc be hbs hbk far hv.fit hA hev hk (h.ver bs)
    · rintro V V' S ⟨p1, k1⟩ k2 hS
      have hrV : V.heap[rb]? = W4.heap[rb]? := k1.block rb h.rlt fun hf => (h.fF rb hf).2.2.2 rfl
      have p2 := p1.kept2 k2 (fun q hq => by
        obtain ⟨q1, q2⟩ := hS q hq
        refine ⟨by have := h0.bel.size; omega, fun hf => ?_, fun he => by have := (h0.hE q he).2.1; omega, fun e => by have := h0.rlt; omega⟩
        rcases hf.1 with hf | hf
        · have := (h0.fF q hf).2.1; omega
        · omega) (fun v hv q hq hs => by
        rw [hrV, hrw] at hv
        have := (h0.rin.own v hv q hq).2.1
        have := (hS q hs).1
        omega)
      refine (p2.addR hl bs bk _ ba bn bc be E (fun q hq => .inl hq) (fun q hq => hq) hbs hbk (hv.far p2.bel E) hv.fit hA hnm hev (h.ver bs)).mono ?_
      rintro e V'' ⟨rfl, p3, _⟩
      exact ⟨rfl, _, _, _, _, p3, by simp⟩
  · refine ⟨chkA (ixD Bs) bs bk bf be, fun V => Below W4.heap.size W4 V, ?_, fun V hV => Kept.of_below hV, ?_⟩
    · exact Add_bad h.ix bs hbs bf bk hbk va bn vc be far.evl hv.fit _ rfl hA
    · intro V V' S b1 k2 hS
      have hrV : V.heap[rb]? = W4.heap[rb]? := b1.block rb h.rlt
      have p2 := (h.grown b1).kept2 k2 (fun q hq => by
        obtain ⟨q1, q2⟩ := hS q hq
        exact ⟨by have := h0.bel.size; omega, fun hf => by have := (h0.fF q hf).2.1; omega, fun he => by have := (h0.hE q he).2.1; omega, fun e => by have := h0.rlt; omega⟩) (fun v hv q hq hs => by
        rw [hrV, hrw] at hv
        have := (h0.rin.own v hv q hq).2.1
        have := (hS q hs).1
        omega)
      refine (rAdd_bad rb Bs bs bk bf ba bn bc be V' p2.rd p2.ok (by unfold maxLen at hbs; omega) (by unfold maxLen at hbk; omega) (hv.ev.below p2.bel (Nat.le_refl _)) hv.fit hA).mono ?_
      rintro e V'' ⟨rfl, b3⟩
      exact ⟨rfl, _, _, _, _, p2.grown b3, by omega⟩

set_option maxRecDepth 20000 in
set_option maxHeartbeats 8000000 in
theorem do_add {w W : World} {x N rb : Nat} {F E : Nat → Prop} {Bs : List Bat} (h : PSt w W x N rb F E Bs Bs) (hl : Bs.length < 1000) (cc : PCl) (hc : PClOk w cc) (hkd : cc.kd = 3) :
    Calls Try.prog 6 #[.pointer (some ⟨x, 0, none⟩), .pointer (some ⟨rb, 0, none⟩), .agg cc.v] W (DoPost w x rb Bs) := by
  obtain ⟨w1, hw1⟩ : ∃ w1, w1 = W.alloc (.cells cc.v 35) := ⟨_, rfl⟩
  have b1 : Below W.heap.size W w1 := by rw [hw1]; exact (Below.refl _ _).alloc (Nat.le_refl _) _
  obtain ⟨cb, hcb⟩ : ∃ cb, cb = W.heap.size := ⟨_, rfl⟩
  have z1 : w1.heap.size = cb + 1 := by rw [hw1, hcb]; simp
  have x1 : w1.heap[cb]? = some (.cells cc.v 35 (0, 0)) := by rw [hw1, hcb]; exact heap_alloc_self _ _
  have HW1 := hide hw1
  obtain ⟨kd, s, k, n, m, ea, en, ec, es, bs, bk, bf, ba, bn, bc, be⟩ := cc
  obtain ⟨c0, c1, c2, c3, c4, c5, c6, c7, c8, c9⟩ := cbox_cells x1
  simp only [PCl.v] at HW1 hkd x1 c0 c1 c2 c3 c4 c5 c6 c7 c8 c9 ⊢
  subst hkd
  obtain ⟨w2, hw2⟩ : ∃ w2, w2 = w1.alloc (.cells (bt bs bk bf ba bn bc) 33) := ⟨_, rfl⟩
  have b2 : Below w1.heap.size w1 w2 := by rw [hw2]; exact (Below.refl _ _).alloc (Nat.le_refl _) _
  obtain ⟨bb, hbb⟩ : ∃ bb, bb = w1.heap.size := ⟨_, rfl⟩
  have z2 : w2.heap.size = bb + 1 := by rw [hw2, hbb]; simp
  have x2 : BBox w2 bb bs bk bf (.slice ba bn bc) := by rw [hw2, hbb]; exact heap_alloc_self _ _
  have hbw : Below W.heap.size W w2 := b1.trans (b2.mono b1.size)
  have HBw := hide hbw
  have hev : EvL w2 (.slice ba bn bc) be := hc.b.ev.below (h.bel.trans (hbw.mono h.bel.size)) (Nat.le_refl _)
  have CO := hide (own_go ba bn bc be w2 hev hc.b.sz hc.b.szf)
  have HP := hide h
  have HC := hide hc
  have HX2 := hide x2
  have HZ := hide (And.intro z1 (And.intro z2 (And.intro hbb hcb)))
  have HW2 := hide hw2
  have HX1 : Hid (∀ V : World, V.heap[cb]? = w1.heap[cb]? → V.cell? ⟨cb, 6, none⟩ = some (sv bs) ∧ V.cell? ⟨cb, 7, none⟩ = some (sv bk) ∧ V.cell? ⟨cb, 8, none⟩ = some (.int .i64 bf) ∧ V.cell? ⟨cb, 9, none⟩ = some (.slice ba bn bc)) := hide (fun V hV => by
    have x3 : V.heap[cb]? = some (.cells (cA 3 s k n m ea en ec bs bk bf ba bn bc) 35 (0, 0)) := hV.trans x1
    exact ⟨(cell_of_row _ _ _ _ _ _ x3).trans rfl, (cell_of_row _ _ _ _ _ _ x3).trans rfl, (cell_of_row _ _ _ _ _ _ x3).trans rfl, (cell_of_row _ _ _ _ _ _ x3).trans rfl⟩)
  have HB2 := hide b2
  clear h hc b1 x1 hw1 hw2 b2 x2 hbw hev z1 z2
  go_enter Try.func6, Try.ntmps6
  go_upto_region 1 with fail
  rw [show W.alloc (.cells #[Value.int .i64 3, Value.string ⟨s.toArray⟩, .string ⟨k.toArray⟩, .int .i64 n, .int .i64 m, .slice ea en ec, .string ⟨bs.toArray⟩, .string ⟨bk.toArray⟩, .int .i64 bf, .slice ba bn bc] 35) = w1 from (unhide HW1).symm]
  rw [← hcb]
  clear hcb
  go_upto_region 7 with fail
  rw [show w1.alloc (.cells #[Value.string ⟨bs.toArray⟩, .string ⟨bk.toArray⟩, .int .i64 bf, .slice ba bn bc] 33) = w2 from (unhide HW2).symm]
  rw [← hbb]
  clear hbb c0 c1 c2 c3 c4 c5 c6 c7 c8 c9
  obtain ⟨c6, c7, c8, c9⟩ := unhide HX1 w2 ((unhide HB2).block cb (by have := (unhide HZ).1; omega))
  go_wp2_with fail
  with_reducible refine (unhide CO).mono ?_
  rintro e w3 ⟨v, rfl, o3, b3⟩
  have hbn : bn = be.length := by obtain ⟨_, _, e, _⟩ := (unhide HC).b.ev; injection e with e1 e2 e3
  obtain ⟨va, vc, hv3⟩ := o3.sl
  rw [← hbn] at hv3
  subst hv3
  have HZb : Hid (bb < w2.heap.size) := hide (by have := (unhide HZ).2.1; omega)
  have x3 : BBox w3 bb bs bk bf (.slice ba bn bc) := (unhide HX2).same (b3.block bb (unhide HZb))
  have HO3 := hide o3
  have HB3 := hide b3
  have HX3 := hide x3
  obtain ⟨t0, t1, t2, t3, tf⟩ := x3.cells
  clear o3 b3 x3 CO c6 c7 c8 c9 hbn
  go_upto_region 8 with fail
  obtain ⟨w4, hw4⟩ : ∃ w4, w4 = w3.setCell ⟨bb, 3, none⟩ (.slice va bn vc) := ⟨_, rfl⟩
  rw [← hw4]
  have x4 : BBox w4 bb bs bk bf (.slice va bn vc) := by rw [hw4]; exact (unhide HX3).set3 _
  have k4 : ∀ q, q ≠ bb → w4.heap[q]? = w3.heap[q]? := fun q hq => by rw [hw4]; exact heap_setCell_other _ ⟨bb, 3, none⟩ _ _ hq
  have z4 : w4.heap.size = w3.heap.size := by rw [hw4, World.size_setCell]
  have o4 : OwnL w4 w2.heap.size (.slice va bn vc) be := (unhide HO3).on fun q hq _ => k4 q (by have := unhide HZb; omega)
  have b4 : Below W.heap.size W w4 := by
    have h3 := (unhide HBw).trans ((unhide HB3).mono (unhide HBw).size)
    rw [hw4]
    exact h3.setCell (p := ⟨bb, 3, none⟩) (by show W.heap.size ≤ bb; have := (unhide HZ); omega) _
  have hFn : ∀ q, F q → q < W.heap.size := fun q hq => ((unhide HP).fF q hq).2.1
  have hzz : W.heap.size < w1.heap.size ∧ w1.heap.size < w2.heap.size ∧ w2.heap.size ≤ w4.heap.size := by have := unhide HZ; have := (unhide HB3).size; omega
  obtain ⟨err, PX, CX, KX, CR⟩ := add3 (unhide HP) hl b4 bs bk bf (unhide HC).bs (unhide HC).bk va vc ba bn bc be (o4.far fun q hq hf => by have := hFn q hf; omega) (unhide HC).b
  have HCX := hide CX
  have HKX := hide KX
  have HCR := hide CR
  have HO4 := hide o4
  have HX4 := hide x4
  have HB4 := hide b4
  have HFn := hide hFn
  have HZZ := hide hzz
  have HC4 : Hid (w4.heap[cb]? = w1.heap[cb]?) := hide (by
    have z := unhide HZ
    exact (k4 cb (by omega)).trans (((unhide HB3).block cb (by omega)).trans ((unhide HB2).block cb (by omega))))
  clear t0 t1 t2 t3 tf CX KX CR o4 x4 b4 hFn hzz k4 z4 hw4
  obtain ⟨t0, t1, t2, t3, tf⟩ := (unhide HX4).cells
  go_wp2_with fail
  with_reducible refine (unhide HCX).mono ?_
  rintro e w5 ⟨rfl, hX⟩
  have HX := hide hX
  have HK5 := hide (unhide HKX w5 hX)
  have x5 : BBox w5 bb bs bk bf (.slice va bn vc) := (unhide HX4).same ((unhide HK5).block bb (by have := unhide HZ; have := unhide HZZ; omega) (fun hf => by have := unhide HFn _ hf; have := unhide HZ; omega))
  have HX5 := hide x5
  have HC5 : Hid (w5.heap[cb]? = w1.heap[cb]?) := hide (((unhide HK5).block cb (by have := unhide HZ; have := unhide HZZ; omega) (fun hf => by have := unhide HFn _ hf; have := unhide HZ; omega)).trans (unhide HC4))
  have o5 : OwnL w5 w2.heap.size (.slice va bn vc) be := (unhide HO4).on fun q hq hl => (unhide HK5).block q hl fun hf => by have := unhide HFn _ hf; have := unhide HZZ; omega
  have HO5 := hide o5
  have CH := hide (held_go w2.heap.size va bn vc ba bn bc be w5 o5 ((unhide HC).b.ev.on (Nat.le_trans (unhide HP).bel.size (Nat.le_trans (unhide HB4).size (unhide HK5).size)) fun q hq => ((unhide HK5).block q (by have := (unhide HP).bel.size; have := (unhide HB4).size; omega) fun hf => by have := ((unhide HP).fF q hf).1; omega).trans (((unhide HB4).block q (by have := (unhide HP).bel.size; omega)).trans ((unhide HP).bel.block q hq))))
  clear t0 t1 t2 t3 tf hX x5 o5
  obtain ⟨t0, t1, t2, t3, tf⟩ := (unhide HX5).cells
  obtain ⟨c6, c7, c8, c9⟩ := unhide HX1 w5 (unhide HC5)
  go_wp2_with fail
  with_reducible refine (unhide CH).mono ?_
  rintro e w6 ⟨rfl, b6⟩
  have HB6 := hide b6
  have hl5 : bb < w5.heap.size ∧ cb < w5.heap.size := by have := unhide HZ; have := unhide HZZ; have := (unhide HK5).size; omega
  have x6 : BBox w6 bb bs bk bf (.slice va bn vc) := (unhide HX5).same (b6.block bb hl5.1)
  have HX6 := hide x6
  have HC6 : Hid (w6.heap[cb]? = w1.heap[cb]?) := hide ((b6.block cb hl5.2).trans (unhide HC5))
  obtain ⟨eb, rs, hrn, hrc, hr9, hsp⟩ := (unhide HO4).sp
  have o6 : bn ≠ 0 → SpAt (fun g => w2.heap.size ≤ g ∧ g < w4.heap.size) w6 49 3 eb rs 0 := fun q => by
    have s4 := (hsp q).2
    have hk6 : ∀ g, w2.heap.size ≤ g → g < w4.heap.size → w6.heap[g]? = w4.heap[g]? := fun g hg hl => (b6.block g (Nat.lt_of_lt_of_le hl (unhide HK5).size)).trans ((unhide HK5).block g hl fun hf => by have := unhide HFn _ hf; have := unhide HZZ; omega)
    obtain ⟨q1, ⟨cs, q2, q3⟩, q4⟩ := s4
    refine ⟨q1, ⟨cs, (hk6 eb q1.1 q1.2).trans q2, q3⟩, fun r hr => ?_⟩
    obtain ⟨p1, p2, p3, p4, cs', p5, p6⟩ := q4 r hr
    exact ⟨p1, p2, p3, p4, cs', (hk6 r.g p1.1 p1.2).trans p5, p6⟩
  have CS := hide (spoil_go (fun g => w2.heap.size ≤ g ∧ g < w4.heap.size) va bn vc eb rs w6 hrn hrc hr9 (fun q => ⟨(hsp q).1, o6 q⟩))
  clear t0 t1 t2 t3 tf c6 c7 c8 c9 b6 hl5 x6 hrn hrc hr9 hsp o6 CH
  obtain ⟨t0, t1, t2, t3, tf⟩ := (unhide HX6).cells
  go_wp2_with fail
  with_reducible refine (unhide CS).mono ?_
  rintro e w7 ⟨rfl, k7⟩
  have HC7 : Hid (w7.heap[cb]? = w1.heap[cb]?) := hide ((k7.block cb (by have := unhide HZ; have := unhide HZZ; have := (unhide HK5).size; have := (unhide HB6).size; omega) (fun hs => by have := hs.1; have := unhide HZ; have := unhide HZZ; omega)).trans (unhide HC6))
  have CR := hide (unhide HCR w5 w7 (fun g => w2.heap.size ≤ g ∧ g < w4.heap.size) (unhide HX) ((Kept.of_below (unhide HB6)).trans k7) (fun q hq => ⟨by have := unhide HZZ; omega, hq.2⟩))
  clear k7 CS t0 t1 t2 t3 tf
  obtain ⟨c6, c7, c8, c9⟩ := unhide HX1 w7 (unhide HC7)
  have g1 : (err == err) = true := beq_self_eq_true _
  go_wp2_with fail
  with_reducible refine (unhide CR).mono ?_
  rintro e w8 ⟨rfl, hp⟩
  have HPP := hide hp
  clear hp CR
  go_wp2
  go_ret
  exact ⟨rfl, unhide HPP⟩
end Go.Proofs.Ytabcmmhmghgliaa
