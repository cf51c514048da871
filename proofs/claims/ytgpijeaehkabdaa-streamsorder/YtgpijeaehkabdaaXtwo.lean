/-
  DERIVED. Two indexes alike, beside each other.
-/
import Derived.Test.YtgpijeaehkabdaaXreg2
import Derived.Test.YtgpijeaehkabdaaXsame2
namespace Go.Proofs.Ytgpijeaehkabdaa
open Go.RowKit Go.Maps
set_option linter.unusedVariables false

/-- Two indexes alike, their memories apart. -/
structure A2St (w W : World) (x y N : Nat) (I : Ix) : Prop where
  ix : ∃ Fx Fy, IxAt W Fx x N I ∧ IxAt W Fy y N I ∧ (∀ q, Fx q → w.heap.size ≤ q ∧ q < W.heap.size ∧ ¬ Fy q) ∧ ∀ q, Fy q → w.heap.size ≤ q ∧ q < W.heap.size
  bel : Below w.heap.size w W
theorem A2St.lx {w W : World} {x y N : Nat} {I : Ix} (h : A2St w W x y N I) : LSt w W (fun _ => False) x N I := by
  obtain ⟨Fx, Fy, hx, hy, h1, h2⟩ := h.ix
  exact ⟨⟨Fx, hx, fun q hq => ⟨(h1 q hq).1, (h1 q hq).2.1, id⟩⟩, h.bel⟩
theorem A2St.grown {w W W' : World} {x y N : Nat} {I : Ix} (h : A2St w W x y N I) (hb : Below W.heap.size W W') : A2St w W' x y N I := by
  obtain ⟨Fx, Fy, hx, hy, h1, h2⟩ := h.ix
  have hz := hb.size
  exact ⟨⟨Fx, Fy, hx.grown hb, hy.grown hb, fun q hq => ⟨(h1 q hq).1, by have := (h1 q hq).2.1; omega, (h1 q hq).2.2⟩, fun q hq => ⟨(h2 q hq).1, by have := (h2 q hq).2; omega⟩⟩, h.bel.trans (hb.mono h.bel.size)⟩
theorem IxAt.more {w : World} {F : Nat → Prop} {x N N' : Nat} {I : Ix} (h : IxAt w F x N I) (hn : N ≤ N') : IxAt w F x N' I := by
  obtain ⟨st, h1, h2, mp, mk, xs, av, pf, D1, D2, hin⟩ := h
  exact ⟨st, h1, h2, mp, mk, xs, av, pf, D1, D2, hin.more hn⟩
theorem A2St.more {w W : World} {x y N N' : Nat} {I : Ix} (h : A2St w W x y N I) (hn : N ≤ N') : A2St w W x y N' I := by
  obtain ⟨Fx, Fy, hx, hy, h1, h2⟩ := h.ix
  exact ⟨⟨Fx, Fy, hx.more hn, hy.more hn, h1, h2⟩, h.bel⟩
theorem A2St.adds {w wr W7 : World} {x y N : Nat} {I : Ix} {s k : List UInt8} {es : List Evn} {bb q : Nat} {ys : List (Evn × Nat)} (h : A2St w wr x y N I) (hb : Below wr.heap.size wr W7) (hB : BBox W7 bb s k (I.ver s : Nat) (.slice (some ⟨q, 0, none⟩) es.length es.length)) (hbb : wr.heap.size ≤ bb) (hk : EvBlk W7 q es.length ys) (he : ys.map (·.1) = es) (hy : ∀ y ∈ ys, wr.heap.size ≤ y.2) (hq : wr.heap.size ≤ q) (hok : tryOk I s (-1) k es) (hs : s.length ≤ maxLen) (hkl : k.length ≤ maxLen) (hfit : ∀ e ∈ es, fitE e) (hN : N < 1000000) :
    Calls Try.prog 12 #[.pointer (some ⟨x, 0, none⟩), .agg (bt s k (I.ver s : Nat) (some ⟨q, 0, none⟩) es.length es.length)] W7 fun e W8 => e = .returned (.int .i64 0) ∧ BBox W8 bb s k (I.ver s : Nat) (.slice (some ⟨q, 0, none⟩) es.length es.length) ∧
      Calls Try.prog 12 #[.pointer (some ⟨y, 0, none⟩), .agg (bt s k (I.ver s : Nat) (some ⟨q, 0, none⟩) es.length es.length)] W8 fun e W9 => e = .returned (.int .i64 0) ∧ BBox W9 bb s k (I.ver s : Nat) (.slice (some ⟨q, 0, none⟩) es.length es.length) ∧ A2St w W9 x y (N + 1 + es.length) (I.added s k (I.ver s) es) ∧ EvL W9 (.slice (some ⟨q, 0, none⟩) es.length es.length) es := by
  obtain ⟨Fx, Fy, ix, iy, h1, h2⟩ := h.ix
  have h16 := hok.2.2.1.2.1
  have hz := hb.size
  have hlb := lt_of_block hB
  have bw : Below w.heap.size w W7 := h.bel.trans (hb.mono h.bel.size)
  have hl : ys.length = es.length := by have := congrArg List.length he; simpa using this
  have hH : Held w W7 (fun z => Fy z ∨ (wr.heap.size ≤ z ∧ z < W7.heap.size)) x N I q es.length es := ⟨⟨Fx, ix.grown hb, fun z hz' => ⟨(h1 z hz').1, by have := (h1 z hz').2.1; omega, fun hg => by
    rcases hg with hg | hg
    · exact (h1 z hz').2.2 hg
    · have := (h1 z hz').2.1; omega⟩, evfar_blk hk he h16 (fun hf => by have := (h1 q hf).2.1; omega) (fun y' hy' hf => by have := (h1 _ hf).2.1; have := hy y' hy'; omega)⟩, bw⟩
  refine (hH.add s hs k hkl hfit hok hN (fun z hz' => by rcases hz' with hz' | hz'; have := (h2 z hz').2; omega; exact hz'.2)).mono ?_
  rintro e W8 ⟨rfl, st8, k8⟩
  have kk : ∀ z, wr.heap.size ≤ z → z < W7.heap.size → W8.heap[z]? = W7.heap[z]? := fun z a b => k8 z (.inr ⟨a, b⟩)
  obtain ⟨Fx', ix8, hFx⟩ := st8.ix
  have hz8 := st8.bel.size
  have iy8 : IxAt W8 Fy y N I := (iy.grown hb).frame fun z hz' _ => k8 z (.inl hz')
  have eb8 : EvBlk W8 q es.length ys := hk.same (kk q hq hk.lt) (fun y' hy' => kk y'.2 (hy y' hy') (hk.2 y' hy').1.lt)
  have b8 : BBox W8 bb s k (I.ver s : Nat) (.slice (some ⟨q, 0, none⟩) es.length es.length) := hB.same (kk bb hbb hlb)
  have hl8 : W7.heap.size ≤ W8.heap.size := by
    rcases Nat.lt_or_ge (W7.heap.size - 1) W8.heap.size with h' | h'
    · omega
    · exfalso
      have h3 : wr.heap.size ≤ W7.heap.size - 1 := by omega
      have h4 : W7.heap.size - 1 < W7.heap.size := by omega
      have h5 := kk _ h3 h4
      rw [Array.getElem?_eq_none h', Array.getElem?_eq_getElem h4] at h5
      cases h5
  have hH2 : Held w W8 (fun z => Fx' z ∨ (wr.heap.size ≤ z ∧ z < W7.heap.size)) y N I q es.length es := ⟨⟨Fy, iy8, fun z hz' => ⟨(h2 z hz').1, by have := (h2 z hz').2; omega, fun hg => by
    rcases hg with hg | hg
    · exact (hFx z hg).2.2 (.inl hz')
    · have := (h2 z hz').2; omega⟩, evfar_blk eb8 he h16 (fun hf => by have := (h2 q hf).2; omega) (fun y' hy' hf => by have := (h2 _ hf).2; have := hy y' hy'; omega)⟩, st8.bel⟩
  refine ⟨rfl, b8, (hH2.add s hs k hkl hfit hok hN (fun z hz' => by rcases hz' with hz' | hz'; exact (hFx z hz').2.1; omega)).mono ?_⟩
  rintro e W9 ⟨rfl, st9, k9⟩
  obtain ⟨Fy', iy9, hFy⟩ := st9.ix
  have k9' : ∀ z, wr.heap.size ≤ z → z < W7.heap.size → W9.heap[z]? = W8.heap[z]? := fun z a b => k9 z (.inr ⟨a, b⟩)
  have ix9 : IxAt W9 Fx' x (N + 1 + es.length) (I.added s k (I.ver s) es) := ix8.frame fun z hz' _ => k9 z (.inl hz')
  have eb9 : EvBlk W9 q es.length ys := eb8.same (k9' q hq hk.lt) (fun y' hy' => k9' y'.2 (hy y' hy') (hk.2 y' hy').1.lt)
  have hl9 : W8.heap.size ≤ W9.heap.size ∨ True := .inr trivial
  refine ⟨rfl, b8.same (k9' bb hbb hlb), ⟨⟨Fx', Fy', ix9, iy9, fun z hz' => ⟨(hFx z hz').1, ?_, fun hf => (hFy z hf).2.2 (.inl hz')⟩, fun z hz' => ⟨(hFy z hz').1, (hFy z hz').2.1⟩⟩, st9.bel⟩, ?_⟩
  · have h5 := k9 z (.inl hz')
    rcases Nat.lt_or_ge z W9.heap.size with h' | h'
    · exact h'
    · exfalso
      rw [Array.getElem?_eq_none h', Array.getElem?_eq_getElem (hFx z hz').2.1] at h5
      cases h5
  · have := eb9.evl hl h16
    rwa [he] at this
theorem chk_again {I : Ix} {s k : List UInt8} {es : List Evn} (h : tryOk I s (-1) k es) : chkA (I.added s k (I.ver s) es) s k (I.ver s : Nat) es = if k = [] then 103 else 101 := by
  unfold chkA
  by_cases hk : k = []
  · have e : (I.added s k (I.ver s) es).key k = none := by rw [added_key, if_neg (fun h' => h'.1 hk)]; exact h.2.1
    rw [if_neg (fun h' => h' h.1), e, if_neg (by simp), if_neg (fun h' => h' h.2.2.1), if_pos (by rw [added_ver, if_pos rfl]; have := h.2.2.1.1; omega), if_pos hk]
  · have e : (I.added s k (I.ver s) es).key k = some ⟨s, I.ver s, I.all.length, es.length⟩ := by rw [added_key, if_pos ⟨hk, rfl⟩]
    rw [if_neg (fun h' => h' h.1), e, if_pos (by simp), if_neg hk]
theorem same_ents {w W w2 W2 : World} {q m q2 fr : Nat} {I : Ix} {zs zs2 : List Eno} (h : AlSt w W q m m I fr zs) (h2 : AlSt w2 W2 q2 m m I fr zs2) : (zs.map fun z => (z.pos, z.e)) = zs2.map fun z => (z.pos, z.e) := by
  refine List.ext_getElem (by rw [List.length_map, List.length_map, h.len, h2.len]) fun i h3 h4 => ?_
  rw [List.getElem_map, List.getElem_map]
  rw [List.length_map] at h3 h4
  obtain ⟨a1, a2⟩ := h.ent i h3
  obtain ⟨b1, b2⟩ := h2.ent i h4
  rw [a2] at b2
  rw [a1, b1, Option.some.inj b2]

theorem big_int : ((100000 : Nat) : Int) = (100000 : Int) := by simp
def AllBig (I : Ix) (w : World) (e : Ending) (w' : World) : Prop := ∃ q zs, e = .returned (.tuple #[.slice (some ⟨q, 0, none⟩) I.all.length I.all.length, .int .i64 0]) ∧ AlSt w w' q I.all.length I.all.length I 0 zs
theorem All_big {w : World} {F : Nat → Prop} {x N : Nat} {I : Ix} (h : IxAt w F x N I) (hN : N ≤ 100000) : Calls Try.prog 13 #[.pointer (some ⟨x, 0, none⟩), .int .i64 0, .int .i64 100000] w (AllBig I w) := by
  have hl : I.all.length ≤ N := by
    obtain ⟨st, _, _, mp, mk, xs, av, pf, D1, D2, hin⟩ := h
    exact hin.len
  have c := All_go h hN 0 100000 (by omega) (by omega)
  rw [big_int] at c
  refine c.mono ?_
  rintro e w' ⟨q, zs, he, st⟩
  have e1 : min 100000 (I.all.length - 0) = I.all.length := by omega
  rw [e1] at he st
  exact ⟨q, zs, he, st⟩
end Go.Proofs.Ytgpijeaehkabdaa
