/-
  DERIVED. The walk of the state's add.
-/
import Derived.Test.YtabcmmhmghgliaaXpush
import Derived.Deep.RegionHeld3
import Derived.Deep.AppendLies
import Derived.Test.YtabcmmhmghgliaaPeel
namespace Go.Proofs.Ytabcmmhmghgliaa
open Go.RowKit Go.Maps
set_option linter.unusedVariables false

theorem infoInt3 : (Try.prog.info? 3).map (fun i => (i.zero, i.size, i.bytes)) = some (some (.int .i64 0), 1, 8) := by kernel_rfl
theorem infoEntry3 : (Try.prog.info? 64).map (fun i => (i.zero, i.size, i.bytes)) = some (some (.agg #[.int .i64 0, sv [], .int .i64 0, sv [], .int .i64 0, .slice none 0 0]), 6, 80) := by kernel_rfl
theorem info_parts {t : TypeId} {z : Value} {n m : Nat} (h : (Try.prog.info? t).map (fun i => (i.zero, i.size, i.bytes)) = some (some z, n, m)) : ∃ i, Try.prog.info? t = some i ∧ i.zero = some z ∧ i.size = n ∧ i.bytes = m := by
  obtain ⟨i, hi, hh⟩ := Option.map_eq_some_iff.1 h
  simp only [Prod.mk.injEq] at hh
  exact ⟨i, hi, hh.1, hh.2.1, hh.2.2⟩

theorem build_ent (x y : Int) (s t : List UInt8) (v : Int) (a : Option Addr) (n c : Nat) (w : World) : (Instr.build 64 #[(0, .int .i64 x), (1, sv s), (2, .int .i64 y), (3, .agg #[sv t, .int .i64 v, .slice a n c])]).run Try.prog w = .ok (.agg #[.int .i64 x, sv s, .int .i64 y, sv t, .int .i64 v, .slice a n c]) w := by kernel_rfl
theorem slice_ent (x y : Int) (s t : List UInt8) (v : Int) (a : Option Addr) (n c : Nat) (w : World) : (Instr.buildSlice 36 1 #[(0, .agg #[.int .i64 x, sv s, .int .i64 y, sv t, .int .i64 v, .slice a n c])]).run Try.prog w = .ok (.slice (some ⟨w.heap.size, 0, none⟩) 1 1) (w.alloc (.cells #[.int .i64 x, sv s, .int .i64 y, sv t, .int .i64 v, .slice a n c] 64)) := by kernel_rfl
def bEnt (parts : Array (Nat × Value)) : Sem Value := Instr.build 64 parts
theorem bEnt_eq (parts : Array (Nat × Value)) : Instr.build 64 parts = bEnt parts := rfl
def bSl (parts : Array (Nat × Value)) : Sem Value := Instr.buildSlice 36 1 parts
theorem bSl_eq (parts : Array (Nat × Value)) : Instr.buildSlice 36 1 parts = bSl parts := rfl
theorem bEnt_run (x y : Int) (s t : List UInt8) (v : Int) (a : Option Addr) (n c : Nat) (w : World) : (bEnt #[(0, .int .i64 x), (1, sv s), (2, .int .i64 y), (3, .agg #[sv t, .int .i64 v, .slice a n c])]).run Try.prog w = .ok (.agg #[.int .i64 x, sv s, .int .i64 y, sv t, .int .i64 v, .slice a n c]) w := build_ent x y s t v a n c w
theorem bSl_run (x y : Int) (s t : List UInt8) (v : Int) (a : Option Addr) (n c : Nat) (w : World) : (bSl #[(0, .agg #[.int .i64 x, sv s, .int .i64 y, sv t, .int .i64 v, .slice a n c])]).run Try.prog w = .ok (.slice (some ⟨w.heap.size, 0, none⟩) 1 1) (w.alloc (.cells #[.int .i64 x, sv s, .int .i64 y, sv t, .int .i64 v, .slice a n c] 64)) := slice_ent x y s t v a n c w
attribute [local go_sem ↓] bEnt_eq bSl_eq
attribute [local go_sem] bEnt_run bSl_run

def Ix.pushN (I : Ix) (s : List UInt8) (f : Nat) : List Evn → Ix
  | [] => I
  | e :: r => (I.push s f e).pushN s (f + 1) r
theorem Ix.pushN_snoc (s : List UInt8) (e : Evn) : ∀ (l : List Evn) (I : Ix) (f : Nat), I.pushN s f (l ++ [e]) = (I.pushN s f l).push s (f + l.length) e
  | [], I, f => rfl
  | x :: r, I, f => by
    show ((I.push s f x).pushN s (f + 1) (r ++ [e])) = ((I.push s f x).pushN s (f + 1) r).push s (f + (r.length + 1)) e
    rw [Ix.pushN_snoc s e r, Nat.add_right_comm, Nat.add_assoc]

/-- What a round's first statement leaves: one more place of the stream, and the map's element. -/
def Reg7 (W1 W4 : World) (pa : Option Addr) (V pc X mp M : Nat) (l : List Value) (D1 : DataW Value) (s : List UInt8) : Prop :=
  ∃ gg cap2 W3, W3.ownsRow 0 3 1 (.slice (some ⟨gg, 0, none⟩) (V + 1) cap2) (V + 1) (l ++ [.int .i64 (X : Int)]) ∧ (W1.alloc (.cells #[.int .i64 (X : Int)] 3)).drew.grownBy W3 (Value.slice pa V pc).ownBlock ∧ ((Value.slice pa V pc).ownBlock = some gg ∨ gg = W1.heap.size + 1) ∧
    W4.ownsMap Try.prog 9 rawE mp M (D1.put (lit s) (.held (.slice (some ⟨gg, 0, none⟩) (V + 1) cap2))) ∧ W3.grownBy W4 (some mp)

/-- What lies in a state's first cell. -/
def stSel (st : Nat) (w : World) : Value := (w.cell? ⟨st, 0, none⟩).getD undef
theorem stSel_is {st : Nat} {w : World} {v : Value} (h : w.cell? ⟨st, 0, none⟩ = some v) : w.cell? ⟨st, 0, none⟩ = some (stSel st w) := by unfold stSel; rw [h]; rfl
theorem stSel_set {st : Nat} {w : World} {u v : Value} {a b c d e : Prop} (h : w.cell? ⟨st, 0, none⟩ = some u) (k : a ∧ b ∧ c ∧ d ∧ e) : a ∧ b ∧ c ∧ d ∧ e ∧ (w.setCell ⟨st, 0, none⟩ v).cell? ⟨st, 0, none⟩ = some (stSel st (w.setCell ⟨st, 0, none⟩ v)) :=
  ⟨k.1, k.2.1, k.2.2.1, k.2.2.2.1, k.2.2.2.2, by obtain ⟨v', h'⟩ := cell?_setCell_some (p := ⟨st, 0, none⟩) (x := v) h; exact stSel_is h'⟩

/-- Where add's loop stands. -/
structure ASt (w W : World) (F : Nat → Prop) (st mp mk M B : Nat) (I : Ix) (s k : List UInt8) (fi : Nat) (ev : Value) : Prop where
  ix : ∃ xs av pf D1 D2, IxIn W F st mp mk M I xs av pf D1 D2
  kept : Kept F w W
  box : BBox W B s k fi ev
  nb : ¬ F B
  hF : ∀ j, w.heap.size ≤ j → F j

set_option maxRecDepth 100000 in
set_option maxHeartbeats 8000000 in
theorem add7 {w : World} {F : Nat → Prop} {st mp mk M B : Nat} {I : Ix} {s k : List UInt8} {fi : Nat} {a : Option Addr} {n c : Nat} : True := trivial

theorem IxIn.more {w : World} {F : Nat → Prop} {st mp mk N N' : Nat} {I : Ix} {xs : List (Ent × Nat)} {av : Value} {pf : List UInt8 → Value} {D1 D2 : DataW Value} (h : IxIn w F st mp mk N I xs av pf D1 D2) (hn : N ≤ N') : IxIn w F st mp mk N' I xs av pf D1 D2 :=
  { h with mpo := h.mpo.mono hn, mko := h.mko.mono hn, len := Nat.le_trans h.len hn }
open Classical in
/-- The index behind a batch. -/
noncomputable def Ix.keyIf (I : Ix) (s k : List UInt8) (fi n : Nat) : Ix := if k = [] then I else I.setKey k ⟨s, fi, I.all.length, n⟩
noncomputable def Ix.added (I : Ix) (s k : List UInt8) (fi : Nat) (es : List Evn) : Ix := (I.keyIf s k fi es.length).pushN s fi es

set_option maxRecDepth 100000 in
set_option maxHeartbeats 8000000 in
theorem add_go {w : World} {F : Nat → Prop} {st mp mk N : Nat} {I : Ix} {xs : List (Ent × Nat)} {av : Value} {pf : List UInt8 → Value} {D1 D2 : DataW Value} (h : IxIn w F st mp mk N I xs av pf D1 D2) (s : List UInt8) (hs : s.length ≤ maxLen) (k : List UInt8) (hk : k.length ≤ maxLen) (fi : Nat) (hfi : (fi : Int) < 4611686018427387904) (ea : Option Addr) (en ec : Nat) (es : List Evn) (G : Nat → Prop) (hG : ∀ q, G q ↔ F q ∨ w.heap.size < q) (hFl : ∀ q, F q → q < w.heap.size)
    (hv : ∀ A, Kept G (w.alloc (.cells (bt s k fi ea en ec) 33)) A → EvL A (.slice ea en ec) es) (hv2 : ∀ A, Kept G (w.alloc (.cells (bt s k fi ea en ec) 33)) A → ∀ b off, ea = some ⟨b, off, none⟩ → A.heap[b]? = (w.alloc (.cells (bt s k fi ea en ec) 33)).heap[b]?) (h16 : es.length ≤ 16) (hf16 : ∀ e ∈ es, e.fields.length ≤ 16) (hN : N < 1000000) :
    Calls Try.prog 37 #[.pointer (some ⟨st, 0, none⟩), .agg (bt s k fi ea en ec)] w fun e w' => e = .returned (.tuple #[]) ∧ Kept F w w' ∧ ∃ xs' av' pf' D1' D2', IxIn w' G st mp mk (N + 1 + es.length) (I.added s k fi es) xs' av' pf' D1' D2' := by
  obtain ⟨w1, hw1⟩ : ∃ w1, w1 = w.alloc (.cells (bt s k fi ea en ec) 33) := ⟨_, rfl⟩
  have z1 : w1.heap.size = w.heap.size + 1 := by rw [hw1]; simp
  have b1 : Below w.heap.size w w1 := by rw [hw1]; exact (Below.refl _ _).alloc (Nat.le_refl _) _
  have hGF : ∀ q, F q → G q := fun q hq => (hG q).2 (.inl hq)
  have x1 : IxIn w1 G st mp mk N I xs av pf D1 D2 := by
    have y := h.frame (w' := w1) fun q _ hl => b1.block q hl
    exact { y with fds := fun x hx => ⟨(y.fds x hx).1, (y.fds x hx).2.1, hGF _ (y.fds x hx).2.2⟩, fst := hGF _ y.fst, fmp := hGF _ y.fmp, fmk := hGF _ y.fmk, fav := fun q hq => hGF _ (y.fav q hq), fpf := fun s q hq => hGF _ (y.fpf s q hq) }
  have hB1 : BBox w1 w.heap.size s k fi (.slice ea en ec) := by unfold BBox; rw [hw1]; exact heap_alloc_self _ _
  have ST00 : Hid (ASt w1 w1 G st mp mk N w.heap.size I s k fi (.slice ea en ec)) := hide
    { ix := ⟨xs, av, pf, D1, D2, x1⟩, kept := Kept.refl _ _, box := hB1, nb := fun hb => by rcases (hG _).1 hb with h1 | h1; exact absurd (hFl _ h1) (Nat.lt_irrefl _); omega, hF := fun j hj => (hG j).2 (.inr (by omega)) }
  rw [← hw1] at hv hv2
  have HV := hide hv
  have HV2 := hide hv2
  have H1 := hide hf16
  have HEND : Hid (∀ W, Kept G w1 W → Kept F w W) := hide (fun W hk => ((Kept.of_below b1).mono (fun _ _ hq => hq)).trans ⟨hk.os, hk.tape, hk.output, hk.size, fun q hq hn => hk.block q hq fun hg => by
    rcases (hG q).1 hg with h1 | h1
    · exact hn h1
    · omega⟩)
  obtain ⟨EN, hEN⟩ : ∃ EN, EN = es.length := ⟨_, rfl⟩
  have hen : en = EN := by obtain ⟨_, _, e, _⟩ := hv w1 (Kept.refl _ _); cases e; exact hEN.symm
  subst hen
  have HN := hide hEN
  have h16' : en ≤ 16 := by omega
  have HX0 := hide x1
  obtain ⟨a0, n0, hav⟩ := x1.avs
  have hXl : xs.length = I.all.length := by rw [← x1.all, List.length_map]
  clear h x1 hB1 hv hv2 hf16 hGF b1 hEN h16 hG hFl z1
  obtain ⟨B, hB⟩ : ∃ B, B = w.heap.size := ⟨_, rfl⟩
  rw [← hB] at ST00
  obtain ⟨K, hK⟩ : ∃ K, K = I.keyIf s k fi en := ⟨_, rfl⟩
  have HK := hide hK
  clear hK
  go_enter Try.func37, Try.ntmps37
  go_upto_region 1 with fail
  rw [← hw1, ← hB]
  clear hw1 hB
  obtain ⟨c0, c1, c2, c3, c4⟩ := (unhide ST00).box.cells
  go_upto_if 9 with fail
  go_cut [0] from 7 to 29 (fun t wx => t = .pointer (some ⟨st, 0, none⟩) ∧ ASt w1 wx G st mp mk (N + 1) B K s k fi (.slice ea en ec))
  case first =>
    by_cases hk0 : k = []
    · subst hk0
      have SS : Hid (ASt w1 w1 G st mp mk (N + 1) B K s [] fi (.slice ea en ec)) := hide (by
        have st0 := unhide ST00
        obtain ⟨xs, av, pf, D1, D2, x⟩ := st0.ix
        rw [unhide HK]
        exact { st0 with ix := ⟨xs, av, pf, D1, D2, by unfold Ix.keyIf; rw [if_pos rfl]; exact x.more (Nat.le_succ _)⟩ })
      clear hk hav hXl hs hfi
      go_wp2
      go_meet
      exact ⟨rfl, unhide SS⟩
    · have hkb : (k == []) = false := beq_eq_false_iff_ne.2 hk0
      have hkn : k.isEmpty = false := by simpa using hk0
      obtain ⟨X, hX⟩ : ∃ X, X = xs.length := ⟨_, rfl⟩
      have x1 := unhide HX0
      have s0 : w1.cell? ⟨st, 0, none⟩ = some (.slice a0 X n0) := by rw [hX]; rw [← hav]; exact (cell_of_row _ _ _ _ _ _ x1.stc).trans rfl
      have s2 : w1.cell? ⟨st, 2, none⟩ = some (.map (some mk)) := (cell_of_row _ _ _ _ _ _ x1.stc).trans rfl
      obtain ⟨W2, hmu, hmo, hmg⟩ := (ownsMap_frame (w' := w1.drew) x1.mko rfl).update keyedS Try.underlying66 (val := .agg (kdA s fi X en false)) (by unfold maxLen; omega) (lit_key hk) rfl
      have nst : st ≠ mk := map_ne x1.mko x1.stc
      have nB : B ≠ mk := map_ne x1.mko (unhide ST00).box
      have lst := lt_of_block x1.stc
      have lB := lt_of_block (unhide ST00).box
      have bst : W2.heap[st]? = w1.heap[st]? := hmg.block st lst (fun e => nst (Option.some.inj e))
      have bB : W2.heap[B]? = w1.heap[B]? := hmg.block B lB (fun e => nB (Option.some.inj e))
      have SS : Hid (ASt w1 W2 G st mp mk (N + 1) B K s k fi (.slice ea en ec)) := hide (by
        have x1d := x1.frame (w' := w1.drew) fun q _ _ => rfl
        obtain ⟨y, ky⟩ := x1d.setKey k hk0 ⟨s, fi, X, en⟩ hmo hmg
        have st0 := unhide ST00
        rw [unhide HK]
        exact { st0 with ix := ⟨_, _, _, _, _, by unfold Ix.keyIf; rw [if_neg hk0, ← hXl, ← hX]; exact y⟩, kept := (Kept.of_below (Below.refl _ w1).drew).trans ky, box := st0.box.same bB })
      have SC : Hid (w1.drew.cell? ⟨st, 0, none⟩ = some (.slice a0 X n0) ∧ w1.drew.cell? ⟨st, 2, none⟩ = some (.map (some mk)) ∧ w1.drew.cell? ⟨B, 0, none⟩ = some (sv s) ∧ w1.drew.cell? ⟨B, 1, none⟩ = some (sv k) ∧ w1.drew.cell? ⟨B, 2, none⟩ = some (.int .i64 (fi : Int)) ∧ w1.drew.cell? ⟨B, 3, none⟩ = some (.slice ea en ec)) := hide ⟨s0, s2, c0, c1, c2, c3⟩
      have SD : Hid (W2.cell? ⟨st, 0, none⟩ = some (.slice a0 X n0) ∧ W2.cell? ⟨st, 2, none⟩ = some (.map (some mk)) ∧ W2.cell? ⟨B, 0, none⟩ = some (sv s) ∧ W2.cell? ⟨B, 1, none⟩ = some (sv k) ∧ W2.cell? ⟨B, 2, none⟩ = some (.int .i64 (fi : Int)) ∧ W2.cell? ⟨B, 3, none⟩ = some (.slice ea en ec)) := hide ⟨(World.cell?_of_block bst).trans s0, (World.cell?_of_block bst).trans s2, (World.cell?_of_block bB).trans c0, (World.cell?_of_block bB).trans c1, (World.cell?_of_block bB).trans c2, (World.cell?_of_block bB).trans c3⟩
      clear hk0 hkb hX x1 hmo hmg bst bB nst nB hav hXl hs hk hfi
      simp only [hkn, Bool.not_false]
      go_upto_region 2 with fail
      clear s0 s2 c0 c1 c2 c3 c4
      go_region_held3 (fun w' => w'.cell? ⟨st, 0, none⟩ = some (.slice a0 X n0) ∧ w'.cell? ⟨st, 2, none⟩ = some (.map (some mk)) ∧ w'.cell? ⟨B, 0, none⟩ = some (sv s) ∧ w'.cell? ⟨B, 1, none⟩ = some (sv k) ∧ w'.cell? ⟨B, 2, none⟩ = some (.int .i64 (fi : Int)) ∧ w'.cell? ⟨B, 3, none⟩ = some (.slice ea en ec))
        (first | with_reducible exact unhide SC | with_reducible exact unhide SD)
        (fail)
      all_goals go_wp2
      all_goals go_meet
      all_goals exact ⟨rfl, unhide SS⟩
  case rest =>
    obtain ⟨rfl, hst⟩ := hcut
    obtain ⟨w2, hw2⟩ : ∃ w2, w2 = wc := ⟨_, rfl⟩
    rw [← hw2] at hst ⊢
    clear hw2 ST00 HX0 hav hXl c0 c1 c2 c3 c4
    obtain ⟨c0, c1, c2, c3, c4⟩ := hst.box.cells
    have ST0 : Hid (ASt w1 w2 G st mp mk (N + 1 + 0) B (K.pushN s fi (es.take 0)) s k fi (.slice ea en ec)) := hide hst
    clear hst
    go_wp2
    go_loopw [33] (fun i wr => ∃ j : Nat, i = .int .i64 (j : Int) ∧ j ≤ en ∧ Hid (ASt w1 wr G st mp mk (N + 1 + j) B (K.pushN s fi (es.take j)) s k fi (.slice ea en ec))) (fun i _ => en - (intOf i).toNat)
    case atStart => exact ⟨0, rfl, by omega, ST0⟩
    case round =>
      obtain ⟨j, rfl, hj, ST⟩ := hrel
      clear ST0
      by_cases hlt : j < en
      · obtain ⟨J, hJ⟩ : ∃ J, J = K.pushN s fi (es.take j) := ⟨_, rfl⟩
        have HJ := hide hJ
        rw [← hJ] at ST
        clear hJ
        obtain ⟨xs, av, pf, D1, D2, x⟩ := (unhide ST).ix
        obtain ⟨aa, ac, hav⟩ := x.avs
        subst hav
        obtain ⟨pa, pc, hpf⟩ := x.pfs s
        obtain ⟨V, hV⟩ : ∃ V, V = J.ver s := ⟨_, rfl⟩
        rw [← hV] at hpf
        have hVl : V ≤ N + 1 + j := by rw [hV]; exact Nat.le_trans (plc_len _ _) x.len
        have hXl : xs.length = J.all.length := by rw [← x.all, List.length_map]
        have hXN : xs.length ≤ N + 1 + j := by rw [hXl]; exact x.len
        obtain ⟨X, hX⟩ : ∃ X, X = xs.length := ⟨_, rfl⟩
        rw [← hX] at hXN
        have HX := hide hX
        have HVV := hide hV
        have HPF := hide hpf
        have HXJ := hide hXl
        have hkw := (unhide ST).kept
        have hevl := unhide HV wr hkw
        have hjl : j < es.length := by rw [← unhide HN]; exact hlt
        obtain ⟨ao', cap', e', _, _, h4⟩ := id hevl
        obtain ⟨b, off, hea, hb, hc⟩ := h4 (by omega)
        injection e' with q1 q2 q3
        subst q1
        clear q2 q3
        obtain ⟨d0, d1, fa, fl, fc, d2, dfd⟩ := hc j hjl
        obtain ⟨f, hf⟩ : ∃ f, f = es[j] := ⟨_, rfl⟩
        rw [← hf] at d0 d1 dfd
        have HE : Hid (es[j]? = some f) := hide (by rw [hf]; exact List.getElem?_eq_getElem hjl)
        have hf6 := unhide H1 f (List.mem_of_getElem? (unhide HE))
        obtain ⟨ft, fv, ff⟩ := f
        simp only at d0 d1 dfd hf6
        have hstl := lt_of_block x.stc
        have hbl := lt_of_block (unhide ST).box
        have s0 : wr.cell? ⟨st, 0, none⟩ = some (.slice aa X ac) := by rw [hX]; exact (cell_of_row _ _ _ _ _ _ x.stc).trans rfl
        have s1 : wr.cell? ⟨st, 1, none⟩ = some (.map (some mp)) := (cell_of_row _ _ _ _ _ _ x.stc).trans rfl
        obtain ⟨p0, p1, p2, p3, p4⟩ := (unhide ST).box.cells
        obtain ⟨W1, hW1⟩ : ∃ W1, W1 = wr.alloc (.cells (ev ft fv fa fl fc) 49) := ⟨_, rfl⟩
        have bW1 : Below wr.heap.size wr W1 := by rw [hW1]; exact (Below.refl _ _).alloc (Nat.le_refl _) _
        have zW1 : W1.heap.size = wr.heap.size + 1 := by rw [hW1]; simp
        have eb1 : W1.heap[wr.heap.size]? = some (.cells (ev ft fv fa fl fc) 49 (0, 0)) := by rw [hW1]; exact heap_alloc_self _ _
        have xW1 := x.frame (w' := W1) fun q _ hl => bW1.block q hl
        have lmp := xW1.mpo.lt
        have lst1 := lt_of_block xW1.stc
        have bx1 : BBox W1 B s k fi (.slice ea en ec) := (unhide ST).box.same (bW1.block B hbl)
        have lB1 := lt_of_block bx1
        have t1 : W1.cell? ⟨st, 1, none⟩ = some (.map (some mp)) := (cell_of_row _ _ _ _ _ _ xW1.stc).trans rfl
        have tB : W1.cell? ⟨B, 0, none⟩ = some (sv s) := bx1.cells.1
        have hl : ∀ W : World, W.heap[mp]? = W1.heap[mp]? → (Instr.lookup 65 (.map (some mp)) (sv s) false).run Try.prog W = .ok (.slice pa V pc) W := fun W hW => by rw [← unhide HPF]; exact xW1.look hW s hs
        have hlA := hl W1.drew rfl
        have hlB := hl (W1.alloc (.cells #[.int .i64 (X : Int)] 3)).drew (Below.heap_alloc _ _ _ lmp)
        obtain ⟨i0, hi0, hz0, hz1, hz2⟩ := info_parts infoInt3
        have HO : Hid (∀ o, ((W1.alloc o).drew).ownsRow 0 3 1 (.slice pa V pc) V ((plc J.all s).map natV)) := hide fun o => by
          have := World.ownsRow.alloc (xW1.rows s) o
          rw [unhide HPF] at this
          rw [hV]
          rw [hV] at this
          exact this
        have hmark : ∀ q, (Value.slice pa V pc).ownBlock = some q → (∃ cur, W1.heap[q]? = some (.cells cur 3 (0, 0))) := fun q hq => by rw [← unhide HPF] at hq; exact ownsRow_mark (xW1.rows s) hq
        have mst : ∀ q, (Value.slice pa V pc).ownBlock = some q → q ≠ st ∧ q ≠ B ∧ q ≠ mp ∧ q ≠ wr.heap.size := fun q hq => by
          obtain ⟨cur, hcu⟩ := hmark q hq
          exact ⟨mark_ne xW1.stc hcu (by decide), mark_ne bx1 hcu (by decide), map_ne xW1.mpo hcu, mark_ne eb1 hcu (by decide)⟩
        have HS3 : Hid (∀ W3, (W1.alloc (.cells #[.int .i64 (X : Int)] 3)).drew.grownBy W3 (Value.slice pa V pc).ownBlock → W3.cell? ⟨st, 1, none⟩ = some (.map (some mp)) ∧ W3.cell? ⟨B, 0, none⟩ = some (sv s)) := hide fun W3 hg =>
          ⟨(hg.cell_far ⟨st, 1, none⟩ (by show st < (W1.alloc _).heap.size; simp; omega) (fun e => (mst st e.symm).1 rfl)).trans ((World.cell?_alloc_lt _ _ _ lst1).trans t1), (hg.cell_far ⟨B, 0, none⟩ (by show B < (W1.alloc _).heap.size; simp; omega) (fun e => (mst B e.symm).2.1 rfl)).trans ((World.cell?_alloc_lt _ _ _ lB1).trans tB)⟩
        have nst : st ≠ mp := map_ne xW1.mpo xW1.stc
        have nB : B ≠ mp := map_ne xW1.mpo bx1
        have HU : Hid (∀ (W3 : World) (u : Value), (W1.alloc (.cells #[.int .i64 (X : Int)] 3)).drew.grownBy W3 (Value.slice pa V pc).ownBlock → ∃ W4, (Instr.mapUpdate 65 (.map (some mp)) (sv s) u).run Try.prog W3 = .ok () W4 ∧ W4.ownsMap Try.prog 9 rawE mp (N + 1 + j + 1) (D1.put (lit s) (.held u)) ∧ W3.grownBy W4 (some mp)) := hide fun W3 u hg =>
          (ownsMap_frame xW1.mpo ((hg.block mp (by show mp < (W1.alloc _).heap.size; simp; omega) (fun e => (mst mp e.symm).2.2.1 rfl)).trans (Below.heap_alloc _ _ _ lmp))).update keyedS Try.underlying65 (by unfold maxLen; omega) (lit_key hs) rfl
        have HX1 := hide xW1
        have HBX := hide bx1
        have HEB := hide eb1
        have HZ1 := hide zW1
        have HBW := hide bW1
        have HMST := hide mst
        have HKW := hide hkw
        have HDF := hide dfd
        have HEA := hide hea
        have HF6 := hide hf6
        have HD2 := hide d2
        subst hea
        clear x hpf hV hX hXl xW1 bx1 eb1 bW1 hmark mst hevl h4 hc hf hl hkw dfd hf6 zW1
        go_upto_region 7 with fail
        rw [← hW1]
        clear hW1 s0 s1 p0 p1 p2 p3 p4 d0 d1 d2 hstl hbl
        go_cut [6] from 43 to 58 (fun t wx => t = .int .i64 (X : Int) ∧ Reg7 W1 wx pa V pc X mp (N + 1 + j + 1) ((plc J.all s).map natV) D1 s)
        case first =>
          go_region_held3 (fun w' => w'.cell? ⟨st, 1, none⟩ = some (.map (some mp)) ∧ w'.cell? ⟨B, 0, none⟩ = some (sv s))
            (first | exact ⟨t1, tB⟩ | exact ⟨(World.cell?_alloc_lt _ _ _ lst1).trans t1, (World.cell?_alloc_lt _ _ _ lB1).trans tB⟩ | exact unhide HS3 _ hgrow | exact ⟨(hmg.cell_far ⟨st, 1, none⟩ (by have := hgrow.size; simp at this; show st < W3.heap.size; omega) (fun e => nst (Option.some.inj e))).trans (unhide HS3 _ hgrow).1, (hmg.cell_far ⟨B, 0, none⟩ (by have := hgrow.size; simp at this; show B < W3.heap.size; omega) (fun e => nB (Option.some.inj e))).trans (unhide HS3 _ hgrow).2⟩)
            ((refine step_append_lies _ (by rfl) _ _ _ (by rfl) 0 3 i0 _ 1 8 Try.underlying87 hi0 hz0 hz1 hz2 (by rfl) (by omega) (.slice pa V pc) V ((plc J.all s).map natV) (by rfl) (unhide HO _) ⟨W1.heap.size, 0, none⟩ 1 1 [.int .i64 (X : Int)] (by rfl) (by rfl) (World.news_of_block (cs := #[.int .i64 (X : Int)]) (t := 3) (fr := (0, 0)) (heap_alloc_new W1 _)) (by intro u hu; simp at hu; subst hu; rfl) (by omega) (by unfold maxLen; omega) (by omega) (Nat.zero_le _) (W1.heap.size + 1) (by simp) ?_; intro gg cap2 W3 hown3 hgrow hat hlt3; obtain ⟨W4, hmu, hmo, hmg⟩ := unhide HU W3 (.slice (some ⟨gg, 0, none⟩) (V + 1) cap2) hgrow))
          all_goals go_wp2
          all_goals go_meet
          all_goals exact ⟨rfl, gg, cap2, W3, hown3, hgrow, hat, hmo, hmg⟩
        case rest =>
          obtain ⟨rfl, gg, cap2, W3, hown3, hgrow, hat, hmo, hmg⟩ := hcut
          obtain ⟨W4, hW4⟩ : ∃ W4, W4 = wc := ⟨_, rfl⟩
          rw [← hW4] at hmo hmg ⊢
          clear hW4
          have z3 := hgrow.size
          have z4 := hmg.size
          have zA : (W1.alloc (.cells #[.int .i64 (X : Int)] 3)).drew.heap.size = W1.heap.size + 1 := by show (W1.alloc _).heap.size = _; simp
          have k4 : ∀ q, q < W1.heap.size → q ≠ mp → some q ≠ (Value.slice pa V pc).ownBlock → W4.heap[q]? = W1.heap[q]? := fun q h1 h2 h3 => (hmg.block q (by omega) (by simpa using h2)).trans ((hgrow.block q (by omega) h3).trans (Below.heap_alloc _ _ _ h1))
          have st4 := (k4 st lst1 nst (fun e => (unhide HMST st e.symm).1 rfl)).trans (unhide HX1).stc
          have bx4 := (unhide HBX).same (k4 B lB1 nB (fun e => (unhide HMST B e.symm).2.1 rfl))
          have eb4 := (k4 wr.heap.size (by have := unhide HZ1; omega) (map_ne (unhide HX1).mpo (unhide HEB)) (fun e => (unhide HMST _ e.symm).2.2.2 rfl)).trans (unhide HEB)
          have kp4 : Kept G w1 W4 := (((unhide HKW).trans (Kept.of_below (unhide HBW))).trans (Kept.of_below ((Below.refl _ W1).alloc (Nat.le_refl _) (.cells #[.int .i64 (X : Int)] 3)).drew)).trans ((Kept.of_grown hgrow (fun q e => (unhide HX1).fpf s q (by rw [unhide HPF]; exact e))).trans (Kept.of_grown hmg (fun q e => by cases e; exact (unhide HX1).fmp)))
          have fd4 : FdL W4.drew (.slice fa fl fc) ff := by
            obtain ⟨ao', cap', e', _, _, h4⟩ := unhide HV W4 kp4
            have hjl : j < es.length := by rw [← unhide HN]; exact hlt
            obtain ⟨b', off', hea, hb', hc'⟩ := h4 (by omega)
            injection e' with q1 q2 q3
            subst q1
            injection hea with hea
            injection hea with u1 u2 u3
            subst u1 u2
            obtain ⟨_, _, fa', fl', fc', d2', df'⟩ := hc' j hjl
            have hs1 := unhide HV2 W4 kp4 b off rfl
            have hs2 := unhide HV2 wr (unhide HKW) b off rfl
            have hcell : W4.cell? ⟨b, off + j * 3 + 2, none⟩ = wr.cell? ⟨b, off + j * 3 + 2, none⟩ := World.cell?_of_block (by rw [hs1, hs2])
            rw [hcell, unhide HD2] at d2'
            have hff : es[j].fields = ff := by
              have := unhide HE
              rw [List.getElem?_eq_getElem hjl] at this
              rw [Option.some.inj this]
            cases d2'
            rw [hff] at df'
            exact df'.below ((Below.refl _ _).drew) (Nat.le_refl _)
          obtain ⟨M, hM⟩ : ∃ M, M = ff.length := ⟨_, rfl⟩
          have HM := hide hM
          have CA : Hid (Calls Try.prog 44 #[.agg (ev ft fv fa fl fc)] W4.drew (fun e w' => ∃ p, e = .returned (.agg #[sv ft, .int .i64 fv, .slice (some ⟨p, 0, none⟩) M M]) ∧ W4.drew.heap.size ≤ p ∧ FdBlk w' p ff.length ff ∧ Below W4.drew.heap.size W4.drew w')) := hide (by rw [hM]; exact apart_go ft fv fa fl fc ff W4.drew fd4 (unhide HF6))
          clear hM
          have l4 : W1.heap.size < W4.heap.size := by omega
          have lst4 := lt_of_block st4
          have lB4 := lt_of_block bx4
          have lE4 := lt_of_block eb4
          obtain ⟨r0, r1, r2, r3, r4⟩ := bx4.cells
          have S0 : Hid (W4.drew.cell? ⟨B, 0, none⟩ = some (sv s) ∧ W4.drew.cell? ⟨B, 2, none⟩ = some (.int .i64 (fi : Int)) ∧ W4.drew.cell? ⟨wr.heap.size, 0, none⟩ = some (sv ft) ∧ W4.drew.cell? ⟨wr.heap.size, 1, none⟩ = some (.int .i64 fv) ∧ W4.drew.cell? ⟨wr.heap.size, 2, none⟩ = some (.slice fa fl fc)) := hide ⟨r0, r2, (cell_of_row _ _ _ _ _ _ eb4).trans rfl, (cell_of_row _ _ _ _ _ _ eb4).trans rfl, (cell_of_row _ _ _ _ _ _ eb4).trans rfl⟩
          have NX : Hid (∀ A, Below W4.heap.size W4.drew A → A.cell? ⟨B, 0, none⟩ = some (sv s) ∧ A.cell? ⟨B, 2, none⟩ = some (.int .i64 (fi : Int)) ∧ A.cell? ⟨wr.heap.size, 0, none⟩ = some (sv ft) ∧ A.cell? ⟨wr.heap.size, 1, none⟩ = some (.int .i64 fv) ∧ A.cell? ⟨wr.heap.size, 2, none⟩ = some (.slice fa fl fc)) := hide (fun A hA => ⟨(hA.cell (p := ⟨B, 0, none⟩) lB4).trans (unhide S0).1, (hA.cell (p := ⟨B, 2, none⟩) lB4).trans (unhide S0).2.1, (hA.cell (p := ⟨wr.heap.size, 0, none⟩) lE4).trans (unhide S0).2.2.1, (hA.cell (p := ⟨wr.heap.size, 1, none⟩) lE4).trans (unhide S0).2.2.2.1, (hA.cell (p := ⟨wr.heap.size, 2, none⟩) lE4).trans (unhide S0).2.2.2.2⟩)
          have v0 : W4.drew.cell? ⟨st, 0, none⟩ = some (.slice aa X ac) := by rw [unhide HX]; exact (cell_of_row _ _ _ _ _ _ st4).trans rfl
          have HC0 : Hid (∀ A, Below W4.heap.size W4.drew A → A.cell? ⟨st, 0, none⟩ = some (.slice aa X ac)) := hide (fun A hA => (hA.cell (p := ⟨st, 0, none⟩) lst4).trans v0)
          have HST4 := hide st4
          have HRow : Hid (∀ A, Below W4.heap.size W4.drew A → A.ownsRow 0 64 6 (.slice aa X ac) X (ecells xs 0)) := hide (fun A hA => by
            have hr := (unhide HX1).row
            rw [← unhide HX] at hr
            exact ownsRow_frame hr fun q hq hl => by
              obtain ⟨cur, hcu⟩ := ownsRow_mark hr hq
              refine (hA.block q (by omega)).trans (k4 q hl (map_ne (unhide HX1).mpo hcu) fun e => ?_)
              have hq2 : (pf s).ownBlock = some q := by rw [unhide HPF]; exact e.symm
              obtain ⟨cur2, hcu2⟩ := ownsRow_mark ((unhide HX1).rows s) hq2
              exact mark_ne hcu hcu2 (by decide) rfl)
          obtain ⟨i6, hi6, hy0, hy1, hy2⟩ := info_parts infoEntry3
          have HI6 := hide hi6
          have HY0 := hide hy0
          have HY1 := hide hy1
          have HY2 := hide hy2
          clear hi6 hy0 hy1 hy2
          obtain ⟨num, hnum⟩ : ∃ num : Int, num = (fi : Int) + (j : Int) := ⟨_, rfl⟩
          have hov : IntKind.i64.wrap ((fi : Int) + (j : Int)) = num := by rw [IntKind.wrap_i64, hnum]; omega
          have HNUM := hide hnum
          clear hnum
          have HMA : Hid (∀ q, (Value.slice aa X ac).ownBlock = some q → q ≠ st ∧ q ≠ B ∧ q ≠ wr.heap.size) := hide (fun q hq => by
            have hr := (unhide HX1).row
            rw [← unhide HX] at hr
            obtain ⟨cur, hcu⟩ := ownsRow_mark hr hq
            exact ⟨mark_ne (unhide HX1).stc hcu (by decide), mark_ne (unhide HBX) hcu (by decide), mark_ne (unhide HEB) hcu (by decide)⟩)
          have nstB : B ≠ st := mark_ne (unhide HX1).stc (unhide HBX) (by decide)
          have nstE : wr.heap.size ≠ st := mark_ne (unhide HX1).stc (unhide HEB) (by decide)
          have HS6 : Hid (∀ (w5 W6 : World) (o : Obj), Below W4.heap.size W4.drew w5 → (w5.alloc o).grownBy W6 (Value.slice aa X ac).ownBlock → (W6.cell? ⟨B, 0, none⟩ = some (sv s) ∧ W6.cell? ⟨B, 2, none⟩ = some (.int .i64 (fi : Int)) ∧ W6.cell? ⟨wr.heap.size, 0, none⟩ = some (sv ft) ∧ W6.cell? ⟨wr.heap.size, 1, none⟩ = some (.int .i64 fv) ∧ W6.cell? ⟨wr.heap.size, 2, none⟩ = some (.slice fa fl fc)) ∧ W6.cell? ⟨st, 0, none⟩ = some (.slice aa X ac) ∧ W6.frozen? ⟨st, 0, none⟩ = false ∧ ∀ v, ((W6.setCell ⟨st, 0, none⟩ v).cell? ⟨B, 0, none⟩ = some (sv s) ∧ (W6.setCell ⟨st, 0, none⟩ v).cell? ⟨B, 2, none⟩ = some (.int .i64 (fi : Int)) ∧ (W6.setCell ⟨st, 0, none⟩ v).cell? ⟨wr.heap.size, 0, none⟩ = some (sv ft) ∧ (W6.setCell ⟨st, 0, none⟩ v).cell? ⟨wr.heap.size, 1, none⟩ = some (.int .i64 fv) ∧ (W6.setCell ⟨st, 0, none⟩ v).cell? ⟨wr.heap.size, 2, none⟩ = some (.slice fa fl fc))) := hide (fun w5 W6 o h5 h6 => by
            have hA := h5.alloc h5.size o
            have hsA := hA.size
            have far : ∀ q, q < W4.heap.size → some q ≠ (Value.slice aa X ac).ownBlock → W6.heap[q]? = W4.heap[q]? := fun q hq hn => (h6.block q (by have : W4.drew.heap.size = W4.heap.size := rfl; omega) hn).trans (hA.block q hq)
            have fB := far B lB4 (fun e => (unhide HMA B e.symm).2.1 rfl)
            have fE := far wr.heap.size lE4 (fun e => (unhide HMA _ e.symm).2.2 rfl)
            have fS := far st lst4 (fun e => (unhide HMA st e.symm).1 rfl)
            have hst6 := fS.trans (unhide HST4)
            have hS : W6.cell? ⟨B, 0, none⟩ = some (sv s) ∧ W6.cell? ⟨B, 2, none⟩ = some (.int .i64 (fi : Int)) ∧ W6.cell? ⟨wr.heap.size, 0, none⟩ = some (sv ft) ∧ W6.cell? ⟨wr.heap.size, 1, none⟩ = some (.int .i64 fv) ∧ W6.cell? ⟨wr.heap.size, 2, none⟩ = some (.slice fa fl fc) := ⟨(World.cell?_of_block fB).trans (unhide S0).1, (World.cell?_of_block fB).trans (unhide S0).2.1, (World.cell?_of_block fE).trans (unhide S0).2.2.1, (World.cell?_of_block fE).trans (unhide S0).2.2.2.1, (World.cell?_of_block fE).trans (unhide S0).2.2.2.2⟩
            refine ⟨hS, (World.cell?_of_block fS).trans v0, by simp [World.frozen?, hst6], fun v => ?_⟩
            have oB := heap_setCell_other W6 ⟨st, 0, none⟩ B v nstB
            have oE := heap_setCell_other W6 ⟨st, 0, none⟩ wr.heap.size v nstE
            exact ⟨(World.cell?_of_block oB).trans hS.1, (World.cell?_of_block oB).trans hS.2.1, (World.cell?_of_block oE).trans hS.2.2.1, (World.cell?_of_block oE).trans hS.2.2.2.1, (World.cell?_of_block oE).trans hS.2.2.2.2⟩)
          have FIN : Hid (∀ (w5 W6 : World) (p ga cap6 : Nat), W4.drew.heap.size ≤ p → FdBlk w5 p ff.length ff → Below W4.drew.heap.size W4.drew w5 → W6.ownsRow 0 64 6 (.slice (some ⟨ga, 0, none⟩) (X + 1) cap6) (X + 1) (ecells xs 0 ++ [.int .i64 (X : Int), sv s, .int .i64 num, sv ft, .int .i64 fv, .slice (some ⟨p, 0, none⟩) M M]) → (w5.alloc (.cells #[.int .i64 (X : Int), sv s, .int .i64 num, sv ft, .int .i64 fv, .slice (some ⟨p, 0, none⟩) M M] 64)).grownBy W6 (Value.slice aa X ac).ownBlock → ((Value.slice aa X ac).ownBlock = some ga ∨ ga = w5.heap.size + 1) → ASt w1 (W6.setCell ⟨st, 0, none⟩ (.slice (some ⟨ga, 0, none⟩) (X + 1) cap6)) G st mp mk (N + 1 + (j + 1)) B (K.pushN s fi (es.take (j + 1))) s k fi (.slice (some ⟨b, off, none⟩) en ec)) := hide (fun w5 W6 p ga cap6 hp hfb hb5 hown6 hgrow6 hat6 => by
            have bA : Below W1.heap.size W1 (W1.alloc (.cells #[.int .i64 (X : Int)] 3)).drew := ((Below.refl _ W1).alloc (Nat.le_refl _) _).drew
            have xA := (unhide HX1).frame (w' := (W1.alloc (.cells #[.int .i64 (X : Int)] 3)).drew) fun q _ hl => bA.block q hl
            have eV := unhide HVV
            have eX := unhide HX
            have eM := unhide HM
            have eN := unhide HNUM
            have hFA : ∀ q, (W1.alloc (.cells #[.int .i64 (X : Int)] 3)).drew.heap.size ≤ q → G q := fun q hq => (unhide ST).hF q (by have := (unhide HKW).size; have := unhide HZ1; omega)
            have b5' : Below W4.heap.size W4 (w5.alloc (.cells #[.int .i64 (X : Int), sv s, .int .i64 num, sv ft, .int .i64 fv, .slice (some ⟨p, 0, none⟩) M M] 64)) := ((Below.refl _ W4).drew.trans hb5).alloc hb5.size _
            obtain ⟨y, ky⟩ := IxIn.push xA s (fi + j) ⟨ft, fv, ff⟩ (unhide HF6) hFA gg cap2 (by rw [← eV]; have := hown3; rw [show natV J.all.length = .int .i64 (X : Int) by rw [← unhide HXJ, ← eX]; rfl]; exact this) (by rw [unhide HPF]; exact hgrow) (by rw [unhide HPF]; exact hat.imp id (fun e => by omega)) (by rw [← eV]; exact hmo) hmg p b5' (hfb.same (Below.heap_alloc _ _ _ hfb.lt)) hp ga cap6 (by rw [← eX]; have := hown6; rw [eM, eN] at this; simpa [ecell, natV] using this) (by rw [← eX]; exact hgrow6) (by rw [← eX]; exact hat6.imp id (fun e => by simp; omega)) rfl
            have kW : Kept G w1 (W1.alloc (.cells #[.int .i64 (X : Int)] 3)).drew := ((unhide HKW).trans (Kept.of_below (unhide HBW))).trans (Kept.of_below bA)
            have ep : K.pushN s fi (es.take (j + 1)) = J.push s (fi + j) ⟨ft, fv, ff⟩ := by
              rw [List.take_add_one, unhide HE]
              show K.pushN s fi (es.take j ++ [_]) = _
              rw [Ix.pushN_snoc, ← unhide HJ, List.length_take, Nat.min_eq_left (by have := unhide HN; omega)]
            rw [← eX] at y ky
            exact { ix := ⟨_, _, _, _, _, by rw [ep]; exact y⟩, kept := kW.trans ky, box := (unhide HBX).same ((ky.block B (by omega) (unhide ST).nb).trans (bA.block B lB1)), nb := (unhide ST).nb, hF := (unhide ST).hF })
          clear k4 fd4 st4 bx4 eb4 r0 r1 r2 r3 r4 hmo hmg hgrow hown3 hat kp4 t1 tB hlA hlB
          clear c0 c1 c2 c3 c4 zA z3 z4 l4 hjl hi0 hz0 hz1 hz2 nst nB nstB nstE HO HU HS3
          have SA : Hid (∀ A, Below W4.heap.size W4.drew A → A.cell? ⟨B, 0, none⟩ = some (sv s) ∧ A.cell? ⟨B, 2, none⟩ = some (.int .i64 (fi : Int)) ∧ A.cell? ⟨wr.heap.size, 0, none⟩ = some (sv ft) ∧ A.cell? ⟨wr.heap.size, 1, none⟩ = some (.int .i64 fv) ∧ A.cell? ⟨wr.heap.size, 2, none⟩ = some (.slice fa fl fc) ∧ A.cell? ⟨st, 0, none⟩ = some (.slice aa X ac)) := hide (fun A hA => ⟨(unhide NX A hA).1, (unhide NX A hA).2.1, (unhide NX A hA).2.2.1, (unhide NX A hA).2.2.2.1, (unhide NX A hA).2.2.2.2, unhide HC0 A hA⟩)
          clear v0
          go_upto_region 8 with fail
          refine wp_region_peel (n := 19) (L := ?L8) (S := fun w' => w'.cell? ⟨B, 0, none⟩ = some (sv s) ∧ w'.cell? ⟨B, 2, none⟩ = some (.int .i64 (fi : Int)) ∧ w'.cell? ⟨wr.heap.size, 0, none⟩ = some (sv ft) ∧ w'.cell? ⟨wr.heap.size, 1, none⟩ = some (.int .i64 fv) ∧ w'.cell? ⟨wr.heap.size, 2, none⟩ = some (.slice fa fl fc) ∧ w'.cell? ⟨st, 0, none⟩ = some (.slice aa X ac)) (by kernel_rfl) (by rfl) ?hL8 ?hp8 (unhide SA _ (Below.refl _ _)) (fun hS => ?_)
          case hL8 => (simp only [List.getElem?_toArray, List.getElem?_cons_succ, List.getElem?_cons_zero]; rfl)
          case hp8 => kernel_rfl
          simp only [List.pop_toArray, List.dropLast_cons_cons, List.dropLast_singleton]
          refine wpAnyH_take (i := 0) (oi := ?o0) (v := ?v0) ?h0 (by kernel_rfl) (by kernel_rfl) (by kernel_rfl) ?q0 (Or.inl ⟨?w0, ?y0⟩) hS ?r0
          case h0 => (simp only [List.getElem?_toArray, List.getElem?_cons_zero]; rfl)
          case w0 => rfl
          case q0 => exact fun _ _ _ h => h
          case y0 =>
            intro w' hSw
            try dsimp only at hSw
            go_simp
            with_reducible rfl
          try simp only [Act.put, List.setIfInBounds_toArray, List.set_cons_zero, List.set_cons_succ]
          refine wpAnyH_take (i := 1) (oi := ?o1) (v := ?v1) ?h1 (by kernel_rfl) (by kernel_rfl) (by kernel_rfl) ?q1 (Or.inl ⟨?w1, ?y1⟩) hS ?r1
          case h1 => (simp only [List.getElem?_toArray, List.getElem?_cons_succ, List.getElem?_cons_zero]; rfl)
          case w1 => rfl
          case q1 => exact fun _ _ _ h => h
          case y1 =>
            intro w' hSw
            try dsimp only at hSw
            go_simp
            with_reducible rfl
          try simp only [Act.put, List.setIfInBounds_toArray, List.set_cons_zero, List.set_cons_succ]
          refine wpAnyH_take (i := 2) (oi := ?o2) (v := ?v2) ?h2 (by kernel_rfl) (by kernel_rfl) (by kernel_rfl) ?q2 (Or.inl ⟨?w2, ?y2⟩) hS ?r2
          case h2 => (simp only [List.getElem?_toArray, List.getElem?_cons_succ, List.getElem?_cons_zero]; rfl)
          case w2 => rfl
          case q2 => exact fun _ _ _ h => h
          case y2 =>
            intro w' hSw
            try dsimp only at hSw
            go_simp
            with_reducible rfl
          try simp only [Act.put, List.setIfInBounds_toArray, List.set_cons_zero, List.set_cons_succ]
          refine wpAnyH_take (i := 3) (oi := ?o3) (v := ?v3) ?h3 (by kernel_rfl) (by kernel_rfl) (by kernel_rfl) ?q3 (Or.inl ⟨?w3, ?y3⟩) hS ?r3
          case h3 => (simp only [List.getElem?_toArray, List.getElem?_cons_succ, List.getElem?_cons_zero]; rfl)
          case w3 => rfl
          case q3 => exact fun _ _ _ h => h
          case y3 =>
            intro w' hSw
            try dsimp only at hSw
            go_simp
            with_reducible rfl
          try simp only [Act.put, List.setIfInBounds_toArray, List.set_cons_zero, List.set_cons_succ]
          refine wpAnyH_take (i := 4) (oi := ?o4) (v := ?v4) ?h4 (by kernel_rfl) (by kernel_rfl) (by kernel_rfl) ?q4 (Or.inl ⟨?w4, ?y4⟩) hS ?r4
          case h4 => (simp only [List.getElem?_toArray, List.getElem?_cons_succ, List.getElem?_cons_zero]; rfl)
          case w4 => rfl
          case q4 => exact fun _ _ _ h => h
          case y4 =>
            intro w' hSw
            try dsimp only at hSw
            go_simp
            with_reducible rfl
          try simp only [Act.put, List.setIfInBounds_toArray, List.set_cons_zero, List.set_cons_succ]
          refine wpAnyH_take (i := 5) (oi := ?o5) (v := ?v5) ?h5 (by kernel_rfl) (by kernel_rfl) (by kernel_rfl) ?q5 (Or.inl ⟨?w5, ?y5⟩) hS ?r5
          case h5 => (simp only [List.getElem?_toArray, List.getElem?_cons_succ, List.getElem?_cons_zero]; rfl)
          case w5 => rfl
          case q5 => exact fun _ _ _ h => h
          case y5 =>
            intro w' hSw
            try dsimp only at hSw
            go_simp
            with_reducible rfl
          try simp only [Act.put, List.setIfInBounds_toArray, List.set_cons_zero, List.set_cons_succ]
          refine wpAnyH_take (i := 6) (oi := ?o6) (v := ?v6) ?h6 (by kernel_rfl) (by kernel_rfl) (by kernel_rfl) ?q6 (Or.inl ⟨?w6, ?y6⟩) hS ?r6
          case h6 => (simp only [List.getElem?_toArray, List.getElem?_cons_succ, List.getElem?_cons_zero]; rfl)
          case w6 => rfl
          case q6 => exact fun _ _ _ h => h
          case y6 =>
            intro w' hSw
            try dsimp only at hSw
            go_simp
            with_reducible rfl
          try simp only [Act.put, List.setIfInBounds_toArray, List.set_cons_zero, List.set_cons_succ]
          refine wpAnyH_take (i := 7) (oi := ?o7) (v := ?v7) ?h7 (by kernel_rfl) (by kernel_rfl) (by kernel_rfl) ?q7 (Or.inl ⟨?w7, ?y7⟩) hS ?r7
          case h7 => (simp only [List.getElem?_toArray, List.getElem?_cons_succ, List.getElem?_cons_zero]; rfl)
          case w7 => rfl
          case q7 => exact fun _ _ _ h => h
          case y7 =>
            intro w' hSw
            try dsimp only at hSw
            go_simp
            with_reducible rfl
          try simp only [Act.put, List.setIfInBounds_toArray, List.set_cons_zero, List.set_cons_succ]
          refine wpAnyH_take (i := 8) (oi := ?o8) (v := ?v8) ?h8 (by kernel_rfl) (by kernel_rfl) (by kernel_rfl) ?q8 (Or.inl ⟨?w8, ?y8⟩) hS ?r8
          case h8 => (simp only [List.getElem?_toArray, List.getElem?_cons_succ, List.getElem?_cons_zero]; rfl)
          case w8 => rfl
          case q8 => exact fun _ _ _ h => h
          case y8 =>
            intro w' hSw
            try dsimp only at hSw
            go_simp
            with_reducible rfl
          try simp only [Act.put, List.setIfInBounds_toArray, List.set_cons_zero, List.set_cons_succ]
          refine wpAnyH_take (i := 9) (oi := ?o9) (v := ?v9) ?h9 (by kernel_rfl) (by kernel_rfl) (by kernel_rfl) ?q9 (Or.inl ⟨?w9, ?y9⟩) hS ?r9
          case h9 => (simp only [List.getElem?_toArray, List.getElem?_cons_succ, List.getElem?_cons_zero]; rfl)
          case w9 => rfl
          case q9 => exact fun _ _ _ h => h
          case y9 =>
            intro w' hSw
            try dsimp only at hSw
            go_simp
            with_reducible rfl
          try simp only [Act.put, List.setIfInBounds_toArray, List.set_cons_zero, List.set_cons_succ]
          refine wpAnyH_take (i := 10) (oi := ?o10) (v := ?v10) ?h10 (by kernel_rfl) (by kernel_rfl) (by kernel_rfl) ?q10 (Or.inl ⟨?w10, ?y10⟩) hS ?r10
          case h10 => (simp only [List.getElem?_toArray, List.getElem?_cons_succ, List.getElem?_cons_zero]; rfl)
          case w10 => rfl
          case q10 => exact fun _ _ _ h => h
          case y10 =>
            intro w' hSw
            try dsimp only at hSw
            go_simp
            with_reducible rfl
          try simp only [Act.put, List.setIfInBounds_toArray, List.set_cons_zero, List.set_cons_succ]
          refine wpAnyH_take (i := 11) (oi := ?o11) (v := ?v11) ?h11 (by kernel_rfl) (by kernel_rfl) (by kernel_rfl) ?q11 (Or.inl ⟨?w11, ?y11⟩) hS ?r11
          case h11 => (simp only [List.getElem?_toArray, List.getElem?_cons_succ, List.getElem?_cons_zero]; rfl)
          case w11 => rfl
          case q11 => exact fun _ _ _ h => h
          case y11 =>
            intro w' hSw
            try dsimp only at hSw
            go_simp
            with_reducible rfl
          try simp only [Act.put, List.setIfInBounds_toArray, List.set_cons_zero, List.set_cons_succ]
          refine wpAnyH_take (i := 12) (oi := ?o12) (v := ?v12) ?h12 (by kernel_rfl) (by kernel_rfl) (by kernel_rfl) ?q12 (Or.inl ⟨?w12, ?y12⟩) hS ?r12
          case h12 => (simp only [List.getElem?_toArray, List.getElem?_cons_succ, List.getElem?_cons_zero]; rfl)
          case w12 => rfl
          case q12 => exact fun _ _ _ h => h
          case y12 =>
            intro w' hSw
            try dsimp only at hSw
            go_simp
            with_reducible rfl
          try simp only [Act.put, List.setIfInBounds_toArray, List.set_cons_zero, List.set_cons_succ]
          refine wpAnyH_ready (rs := [13]) (by kernel_rfl) (by simp) ?_
          refine AllReadyH.cons (o := ?o13) ?h13 (fun K hK => ?_) AllReadyH.nil
          case h13 => (simp only [List.getElem?_toArray, List.getElem?_cons_succ, List.getElem?_cons_zero]; rfl)
          go_simp
          refine (unhide CA).mono ?_
          rintro e w5 ⟨p, rfl, hp, hfb, hb5⟩
          have S5 := unhide SA w5 hb5
          have HP5 := hide hp
          have HFB := hide hfb
          have HB5 := hide hb5
          clear hp hfb hb5
          refine hK.out _ _ (S5) (fun hS => ?_)
          clear hK K
          try simp only [Act.put, List.setIfInBounds_toArray, List.set_cons_zero, List.set_cons_succ]
          clear S5
          refine wpAnyH_take (i := 14) (oi := ?o14) (v := ?v14) ?h14 (by kernel_rfl) (by kernel_rfl) (by kernel_rfl) ?q14 (Or.inl ⟨?w14, ?y14⟩) hS ?r14
          case h14 => (simp only [List.getElem?_toArray, List.getElem?_cons_succ, List.getElem?_cons_zero]; rfl)
          case w14 => rfl
          case q14 => exact fun _ _ _ h => h
          case y14 =>
            intro w' hSw
            try dsimp only at hSw
            go_simp
            with_reducible rfl
          try simp only [Act.put, List.setIfInBounds_toArray, List.set_cons_zero, List.set_cons_succ]
          refine wpAnyH_ready (rs := [15]) (by kernel_rfl) (by simp) ?_
          refine AllReadyH.cons (o := ?o15) ?h15 (fun K hK => ?_) AllReadyH.nil
          case h15 => (simp only [List.getElem?_toArray, List.getElem?_cons_succ, List.getElem?_cons_zero]; rfl)
          go_simp
          refine hK.out _ _ (unhide SA _ ((unhide HB5).alloc (unhide HB5).size _)) (fun hS => ?_)
          clear hK K
          try simp only [Act.put, List.setIfInBounds_toArray, List.set_cons_zero, List.set_cons_succ]
          refine wpAnyH_ready (rs := [16]) (by kernel_rfl) (by simp) ?_
          refine AllReadyH.cons (o := ?o16) ?h16 (fun K hK => ?_) AllReadyH.nil
          case h16 => (simp only [List.getElem?_toArray, List.getElem?_cons_succ, List.getElem?_cons_zero]; rfl)
          refine step_append_lies _ (by rfl) _ _ _ (by rfl) 0 64 i6 _ 6 80 Try.underlying36 (unhide HI6) (unhide HY0) (unhide HY1) (unhide HY2) (by rfl) (by omega) (.slice aa X ac) X (ecells xs 0) (by rfl) (unhide HRow _ ((unhide HB5).alloc (unhide HB5).size _)) ⟨w5.heap.size, 0, none⟩ 1 1 [.int .i64 (X : Int), sv s, .int .i64 num, sv ft, .int .i64 fv, .slice (some ⟨p, 0, none⟩) M M] (by rfl) (by rfl) (World.news_of_block (cs := #[.int .i64 (X : Int), sv s, .int .i64 num, sv ft, .int .i64 fv, .slice (some ⟨p, 0, none⟩) M M]) (t := 64) (fr := (0, 0)) (heap_alloc_new w5 _)) (by intro u hu; simp at hu; rcases hu with rfl | rfl | rfl | rfl | rfl | rfl <;> rfl) (by omega) (by unfold maxLen; omega) (by omega) (Nat.zero_le _) (w5.heap.size + 1) (by simp) ?_
          intro ga cap6 W6 hown6 hgrow6 hat6 hlt6
          have S6 := hide (unhide HS6 w5 W6 _ (unhide HB5) hgrow6)
          refine hK.out _ _ (⟨(unhide S6).1.1, (unhide S6).1.2.1, (unhide S6).1.2.2.1, (unhide S6).1.2.2.2.1, (unhide S6).1.2.2.2.2, (unhide S6).2.1⟩) (fun hS => ?_)
          clear hK K
          try simp only [Act.put, List.setIfInBounds_toArray, List.set_cons_zero, List.set_cons_succ]
          refine wpAnyH_take (i := 17) (oi := ?o17) (v := ?v17) ?h17 (by kernel_rfl) (by kernel_rfl) (by kernel_rfl) ?q17 (Or.inl ⟨?w17, ?y17⟩) hS ?r17
          case h17 => (simp only [List.getElem?_toArray, List.getElem?_cons_succ, List.getElem?_cons_zero]; rfl)
          case w17 => rfl
          case q17 => exact fun _ _ _ h => h
          case y17 =>
            intro w' hSw
            try dsimp only at hSw
            go_simp
            with_reducible rfl
          try simp only [Act.put, List.setIfInBounds_toArray, List.set_cons_zero, List.set_cons_succ]
          refine wpAnyH_take (i := 18) (oi := ?o18) (v := ?v18) ?h18 (by kernel_rfl) (by kernel_rfl) (by kernel_rfl) ?q18 (Or.inl ⟨?w18, ?y18⟩) hS ?r18
          case h18 => (simp only [List.getElem?_toArray, List.getElem?_cons_succ, List.getElem?_cons_zero]; rfl)
          case w18 => rfl
          case q18 => exact fun _ _ _ h => h
          case y18 =>
            intro w' hSw
            try dsimp only at hSw
            go_simp
            with_reducible rfl
          try simp only [Act.put, List.setIfInBounds_toArray, List.set_cons_zero, List.set_cons_succ]
          have u6 := (unhide S6).2.1
          have fz6 := (unhide S6).2.2.1
          refine wpAnyH_done (by kernel_rfl) ?_ _
          unfold peelQ
          go_simp
          have NXT := hide (unhide FIN w5 W6 p ga cap6 (unhide HP5) (unhide HFB) (unhide HB5) hown6 hgrow6 hat6)
          clear HP5 HFB HB5 hown6 hgrow6 hat6 hlt6 FIN CA S0 NX HC0 HS6 HRow S6 SA
          go_wp2
          go_roundw
          case rel => exact ⟨j + 1, by go_num, by omega, NXT⟩
          case measure => simp [intOf]; omega
      · obtain rfl : j = en := by omega
        have HP : Hid (Kept F w wr ∧ ∃ xs' av' pf' D1' D2', IxIn wr G st mp mk (N + 1 + es.length) (I.added s k fi es) xs' av' pf' D1' D2') := hide (by
          have st := unhide ST
          have e := unhide HN
          have e2 := unhide HK
          rw [e, List.take_length, e2, e] at st
          exact ⟨unhide HEND _ st.kept, st.ix⟩)
        go_wp2
        go_end0
        exact ⟨rfl, unhide HP⟩
end Go.Proofs.Ytabcmmhmghgliaa
