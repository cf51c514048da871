/-
  DERIVED. Where a law on streams stands: the index, the law's own blocks, what came in.
-/
import Derived.Test.YtabcmmhmghgliaaXawake
import Derived.Test.YtabcmmhmghgliaaXkeyed
import Derived.Test.YtabcmmhmghgliaaXopen2
namespace Go.Proofs.Ytabcmmhmghgliaa
open Go.RowKit Go.Maps
set_option linter.unusedVariables false

/-- The law began in w; the index at x is I, all its memory new since, none of it among G. -/
structure LSt (w W : World) (G : Nat → Prop) (x N : Nat) (I : Ix) : Prop where
  ix : ∃ F, IxAt W F x N I ∧ ∀ q, F q → w.heap.size ≤ q ∧ q < W.heap.size ∧ ¬ G q
  bel : Below w.heap.size w W
/-- The same, and events that a try gave. -/
structure Held (w W : World) (G : Nat → Prop) (x N : Nat) (I : Ix) (q n : Nat) (es : List Evn) : Prop where
  ix : ∃ F, IxAt W F x N I ∧ (∀ q, F q → w.heap.size ≤ q ∧ q < W.heap.size ∧ ¬ G q) ∧ EvFar F W (some ⟨q, 0, none⟩) n n es
  bel : Below w.heap.size w W

theorem LSt.grown {w W W' : World} {G : Nat → Prop} {x N : Nat} {I : Ix} (h : LSt w W G x N I) (hb : Below W.heap.size W W') : LSt w W' (fun q => G q ∨ W.heap.size ≤ q) x N I := by
  obtain ⟨F, hi, hF⟩ := h.ix
  refine ⟨⟨F, hi.frame fun q _ hl => hb.block q hl, fun q hq => ⟨(hF q hq).1, Nat.lt_of_lt_of_le (hF q hq).2.1 hb.size, fun hg => ?_⟩⟩, h.bel.trans (hb.mono h.bel.size)⟩
  rcases hg with hg | hg
  · exact (hF q hq).2.2 hg
  · have := (hF q hq).2.1; omega
theorem LSt.less {w W : World} {G G' : Nat → Prop} {x N : Nat} {I : Ix} (h : LSt w W G x N I) (hg : ∀ q, G' q → G q) : LSt w W G' x N I := by
  obtain ⟨F, hi, hF⟩ := h.ix
  exact ⟨⟨F, hi, fun q hq => ⟨(hF q hq).1, (hF q hq).2.1, fun hq' => (hF q hq).2.2 (hg q hq')⟩⟩, h.bel⟩
theorem LSt.held {w W W' : World} {G : Nat → Prop} {x N : Nat} {I : Ix} (h : LSt w W G x N I) (hb : Below W.heap.size W W') {q : Nat} {es : List Evn} {ys : List (Evn × Nat)} (hk : EvBlk W' q es.length ys) (he : ys.map (·.1) = es) (hy : ∀ y ∈ ys, W.heap.size ≤ y.2) (hq : W.heap.size ≤ q) (h16 : es.length ≤ 16) : Held w W' (fun q => G q ∨ W.heap.size ≤ q) x N I q es.length es := by
  obtain ⟨F, hi, hF⟩ := h.ix
  have hl : ys.length = es.length := by have := congrArg List.length he; simpa using this
  refine ⟨⟨F, hi.frame fun q _ hl => hb.block q hl, fun q hq => ⟨(hF q hq).1, Nat.lt_of_lt_of_le (hF q hq).2.1 hb.size, fun hg => ?_⟩, fun A hA hkk => ?_, fun b off e _ => ?_⟩, h.bel.trans (hb.mono h.bel.size)⟩
  · rcases hg with hg | hg
    · exact (hF q hq).2.2 hg
    · have := (hF q hq).2.1; omega
  · have b2 : EvBlk A q es.length ys := hk.same (hkk q hk.lt (fun hf => by have := (hF q hf).2.1; omega)) (fun y hyy => hkk y.2 (hk.2 y hyy).1.lt (fun hf => by have := (hF _ hf).2.1; have := hy y hyy; omega))
    have := b2.evl hl h16
    rwa [he] at this
  · cases e
    exact ⟨hk.lt, fun hf => by have := (hF q hf).2.1; omega⟩
theorem Held.less {w W : World} {G G' : Nat → Prop} {x N q n : Nat} {I : Ix} {es : List Evn} (h : Held w W G x N I q n es) (hg : ∀ q, G' q → G q) : Held w W G' x N I q n es := by
  obtain ⟨F, hi, hF, he⟩ := h.ix
  exact ⟨⟨F, hi, fun q hq => ⟨(hF q hq).1, (hF q hq).2.1, fun hq' => (hF q hq).2.2 (hg q hq')⟩, he⟩, h.bel⟩
theorem Held.st {w W : World} {G : Nat → Prop} {x N q n : Nat} {I : Ix} {es : List Evn} (h : Held w W G x N I q n es) : LSt w W G x N I := by
  obtain ⟨F, hi, hF, _⟩ := h.ix
  exact ⟨⟨F, hi, hF⟩, h.bel⟩

theorem fields16 {es : List Evn} (h : okEvs es) : ∀ e ∈ es, e.fields.length ≤ 16 := fun e he => (h.2.2 e he).2.2.2.1
theorem chkA_ok {I : Ix} {s : List UInt8} {ex : Int} {k : List UInt8} {es : List Evn} (h : tryOk I s ex k es) : chkA I s k (I.ver s : Nat) es = 0 := by
  unfold chkA
  rw [if_neg (fun h' => h' h.1), if_neg (by rw [h.2.1]; simp), if_neg (fun h' => h' h.2.2.1), if_neg (fun h' => h' rfl)]

theorem LSt.try_ok {w W : World} {G : Nat → Prop} {x N : Nat} {I : Ix} (h : LSt w W G x N I) (s : List UInt8) (hs : s.length ≤ maxLen) (ex : Int) (k : List UInt8) (hk : k.length ≤ maxLen) (ea : Option Addr) (en ec : Nat) (es : List Evn) (hv : EvL w (.slice ea en ec) es) (hfit : ∀ e ∈ es, fitE e) (hok : tryOk I s ex k es) (V : World) (hV : Below W.heap.size W V) :
    Calls Try.prog 11 #[.pointer (some ⟨x, 0, none⟩), sv s, .int .i64 ex, sv k, .slice ea en ec] V fun e w' => ∃ q ys, e = .returned (.tuple #[.agg (apV (I.ver s) I.all.length es.length false), .agg (bt s k (I.ver s) (some ⟨q, 0, none⟩) es.length es.length), .int .i64 0]) ∧ Below V.heap.size V w' ∧ Got V w' q es ys := by
  obtain ⟨F, hi, hF⟩ := h.ix
  exact Try_ok (hi.frame fun q _ hl => hV.block q hl) s hs ex k hk ea en ec es ((hv.below h.bel (Nat.le_refl _)).below (hV.mono (Nat.le_refl _)) (Nat.le_refl _)) hfit (fields16 hok.2.2.1) hok
theorem LSt.try_bad {w W : World} {G : Nat → Prop} {x N : Nat} {I : Ix} (h : LSt w W G x N I) (s : List UInt8) (hs : s.length ≤ maxLen) (ex : Int) (k : List UInt8) (hk : k.length ≤ maxLen) (ea : Option Addr) (en ec : Nat) (es : List Evn) (hv : EvL w (.slice ea en ec) es) (hfit : ∀ e ∈ es, fitE e) (f p c : Int) (b : Bool) (err : Int) (hA : tryA I s ex k es = (apV f p c b, err)) (hbad : err ≠ 0 ∨ b = true) (V : World) (hV : Below W.heap.size W V) :
    Calls Try.prog 11 #[.pointer (some ⟨x, 0, none⟩), sv s, .int .i64 ex, sv k, .slice ea en ec] V fun e w' => e = .returned (.tuple #[.agg (apV f p c b), .agg (bt [] [] 0 none 0 0), .int .i64 err]) ∧ Below V.heap.size V w' := by
  obtain ⟨F, hi, hF⟩ := h.ix
  exact Try_bad (hi.frame fun q _ hl => hV.block q hl) s hs ex k hk ea en ec es ((hv.below h.bel (Nat.le_refl _)).below (hV.mono (Nat.le_refl _)) (Nat.le_refl _)) hfit f p c b err hA hbad

theorem Held.add {w W : World} {G : Nat → Prop} {x N q : Nat} {I : Ix} {es : List Evn} (h : Held w W G x N I q es.length es) (s : List UInt8) (hs : s.length ≤ maxLen) (k : List UInt8) (hk : k.length ≤ maxLen) (hfit : ∀ e ∈ es, fitE e) {ex : Int} (hok : tryOk I s ex k es) (hN : N < 1000000) (hgl : ∀ q, G q → q < W.heap.size) :
    Calls Try.prog 13 #[.pointer (some ⟨x, 0, none⟩), .agg (bt s k (I.ver s : Nat) (some ⟨q, 0, none⟩) es.length es.length)] W fun e W' => e = .returned (.int .i64 0) ∧ LSt w W' G x (N + 1 + es.length) (I.added s k (I.ver s) es) ∧ ∀ q, G q → W'.heap[q]? = W.heap[q]? := by
  obtain ⟨F, hi, hF, he⟩ := h.ix
  have hN2 : (I.ver s : Int) < 4611686018427387904 := by
    obtain ⟨st, _, _, mp, mk, xs, av, pf, D1, D2, hin⟩ := hi
    have := hin.len
    have := ver_le I s
    omega
  refine (Add_ok hi (fun q hq => (hF q hq).2.1) hN s hs (I.ver s) hN2 k hk _ _ _ es he hfit (fields16 hok.2.2.1) (chkA_ok hok) hok.2.2.1.2.1 hok.2.2.1.1).mono ?_
  rintro e W' ⟨rfl, k1, i1⟩
  have hz := k1.size
  refine ⟨rfl, ⟨⟨_, i1, fun q hq => ?_⟩, h.bel.trans (k1.below h.bel.size fun q hq => (hF q hq).1)⟩, fun q hq => k1.block q (hgl q hq) fun hf => (hF q hf).2.2 hq⟩
  obtain ⟨h1, h2⟩ := hq
  rcases h1 with h1 | h1
  · exact ⟨(hF q h1).1, h2, (hF q h1).2.2⟩
  · exact ⟨by have := h.bel.size; omega, h2, fun hg => by have := hgl q hg; omega⟩

theorem LSt.new {w W : World} {x : Nat} (hb : Below w.heap.size w W) {W' : World} (h : NewPost W (.returned (.pointer (some ⟨x, 0, none⟩))) W') : LSt w W' (fun q => q < W.heap.size) x 0 Ix.new := by
  obtain ⟨x', e, hi, hb2⟩ := h
  cases e
  exact ⟨⟨_, hi, fun q hq => ⟨by have := hb.size; omega, hq.2, by omega⟩⟩, hb.trans (hb2.mono hb.size)⟩
theorem LSt.len {w W : World} {G : Nat → Prop} {x N : Nat} {I : Ix} (h : LSt w W G x N I) : I.all.length ≤ N := by
  obtain ⟨F, ⟨st, _, _, mp, mk, xs, av, pf, D1, D2, hin⟩, _⟩ := h.ix
  exact hin.len
theorem LSt.more {w W : World} {G : Nat → Prop} {x N N' : Nat} {I : Ix} (h : LSt w W G x N I) (hn : N ≤ N') : LSt w W G x N' I := by
  obtain ⟨F, ⟨st, h1, h2, mp, mk, xs, av, pf, D1, D2, hin⟩, hF⟩ := h.ix
  exact ⟨⟨F, ⟨st, h1, h2, mp, mk, xs, av, pf, D1, D2, hin.more hn⟩, hF⟩, h.bel⟩
end Go.Proofs.Ytabcmmhmghgliaa
