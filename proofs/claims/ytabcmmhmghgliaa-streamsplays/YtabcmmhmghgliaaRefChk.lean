/-
  DERIVED. The document's index: batches in a list; plain, and in memory.
-/
import Derived.Test.YtabcmmhmghgliaaXkeyed
import Derived.Test.YtabcmmhmghgliaaChk
import Derived.BigQuiet
namespace Go.Proofs.Ytabcmmhmghgliaa
open Go.RowKit
set_option linter.unusedVariables false

/-- A slice of things of so many cells. -/
def SlQ {α : Type} (sz : Nat) (At : World → Nat → Nat → α → Prop) (w : World) (v : Value) (l : List α) : Prop :=
  ∃ ao cap, v = .slice ao l.length cap ∧ l.length ≤ cap ∧ cap ≤ 9223372036854775807 ∧
    (l.length ≠ 0 → ∃ b off, ao = some ⟨b, off, none⟩ ∧ b < w.heap.size ∧ ∀ i x, l[i]? = some x → At w b (off + i * sz) x)
theorem SlQ.grown {α : Type} {sz : Nat} {At : World → Nat → Nat → α → Prop} {w w' : World} {v : Value} {l : List α} (h : SlQ sz At w v l) (hAt : ∀ (w w' : World) (b o : Nat) (x : α), At w b o x → Below w.heap.size w w' → At w' b o x) (hb : Below w.heap.size w w') : SlQ sz At w' v l := by
  obtain ⟨ao, cap, rfl, h1, h2, h4⟩ := h
  refine ⟨ao, cap, rfl, h1, h2, fun hz => ?_⟩
  obtain ⟨b, off, e, hlt, hc⟩ := h4 hz
  exact ⟨b, off, e, Nat.lt_of_lt_of_le hlt hb.size, fun i x hi => hAt _ _ _ _ _ (hc i x hi) hb⟩
theorem SlQ.at {α : Type} {sz : Nat} {At : World → Nat → Nat → α → Prop} {w : World} {a : Option Addr} {n c : Nat} {l : List α} (h : SlQ sz At w (.slice a n c) l) {i : Nat} {x : α} (hi : l[i]? = some x) : ∃ b off, a = some ⟨b, off, none⟩ ∧ b < w.heap.size ∧ At w b (off + i * sz) x := by
  obtain ⟨ao, cap, e, h1, h2, h4⟩ := h
  cases e
  obtain ⟨b, off, e, hlt, hc⟩ := h4 (by have := (List.getElem?_eq_some_iff.1 hi).1; omega)
  exact ⟨b, off, e, hlt, hc i x hi⟩
theorem SlQ.len {α : Type} {sz : Nat} {At : World → Nat → Nat → α → Prop} {w : World} {a : Option Addr} {n c : Nat} {l : List α} (h : SlQ sz At w (.slice a n c) l) : n = l.length ∧ l.length ≤ c ∧ c ≤ 9223372036854775807 := by
  obtain ⟨ao, cap, e, h1, h2, h4⟩ := h
  cases e
  exact ⟨rfl, h1, h2⟩
theorem keptQ {w w' : World} (hb : Below w.heap.size w w') {a : Addr} {v : Value} (hc : w.cell? a = some v) : w'.cell? a = some v :=
  (hb.cell (p := a) (by
    unfold World.cell? at hc
    by_cases h : a.block < w.heap.size
    · exact h
    · rw [Array.getElem?_eq_none (by omega)] at hc; simp at hc)).trans hc

/-- A batch. -/
structure Bat where
  s : List UInt8
  k : List UInt8
  f : Nat
  es : List Evn
def BtAt (w : World) (b o : Nat) (x : Bat) : Prop := w.cell? ⟨b, o, none⟩ = some (sv x.s) ∧ w.cell? ⟨b, o + 1, none⟩ = some (sv x.k) ∧ w.cell? ⟨b, o + 2, none⟩ = some (.int .i64 (x.f : Int)) ∧ ∃ ea ec, w.cell? ⟨b, o + 3, none⟩ = some (.slice ea x.es.length ec) ∧ EvL w (.slice ea x.es.length ec) x.es
theorem BtAt.grown {w w' : World} {b o : Nat} {x : Bat} (h : BtAt w b o x) (hb : Below w.heap.size w w') : BtAt w' b o x := by
  obtain ⟨h0, h1, h2, ea, ec, h3, h4⟩ := h
  exact ⟨keptQ hb h0, keptQ hb h1, keptQ hb h2, ea, ec, keptQ hb h3, h4.below hb (Nat.le_refl _)⟩
/-- The document's index at block rb reads as these batches. -/
def RRd (w : World) (rb : Nat) (Bs : List Bat) : Prop := ∃ v, w.cell? ⟨rb, 0, none⟩ = some v ∧ SlQ 4 BtAt w v Bs
theorem RRd.grown {w w' : World} {rb : Nat} {Bs : List Bat} (h : RRd w rb Bs) (hb : Below w.heap.size w w') : RRd w' rb Bs := by
  obtain ⟨v, h1, h2⟩ := h
  exact ⟨v, keptQ hb h1, h2.grown (fun _ _ _ _ _ => BtAt.grown) hb⟩
/-- Small enough. -/
structure BsOk (Bs : List Bat) : Prop where
  n : Bs.length ≤ 1000
  b : ∀ b ∈ Bs, b.es.length ≤ 16 ∧ b.f ≤ 100000 ∧ b.s.length ≤ 60 ∧ b.k.length ≤ 60

/-- How many events. -/
def totB (Bs : List Bat) : Nat := (Bs.map (·.es.length)).sum
theorem totB_snoc (Bs : List Bat) (b : Bat) : totB (Bs ++ [b]) = totB Bs + b.es.length := by simp [totB]
theorem totB_le {Bs : List Bat} (h : ∀ b ∈ Bs, b.es.length ≤ 16) : totB Bs ≤ Bs.length * 16 := by
  induction Bs with
  | nil => simp [totB]
  | cons b r ih =>
    have h1 := h b (by simp)
    have h2 := ih (fun x hx => h x (by simp [hx]))
    simp only [totB, List.map_cons, List.sum_cons, List.length_cons] at *
    omega
/-- What a key came to. -/
def keyD (k : List UInt8) : Nat → List Bat → Option Kd
  | _, [] => none
  | p, b :: r => if k ≠ [] ∧ b.k = k then some ⟨b.s, b.f, p, b.es.length⟩ else keyD k (p + b.es.length) r
theorem keyD_snoc (k : List UInt8) (b : Bat) : ∀ (Bs : List Bat) (p : Nat), keyD k p (Bs ++ [b]) = match keyD k p Bs with
    | some d => some d
    | none => if k ≠ [] ∧ b.k = k then some ⟨b.s, b.f, p + totB Bs, b.es.length⟩ else none
  | [], p => by simp [keyD, totB]
  | x :: r, p => by
    rw [List.cons_append, keyD, keyD]
    split
    · rfl
    · rw [keyD_snoc k b r]
      have e : p + x.es.length + totB r = p + totB (x :: r) := by simp [totB]; omega
      rw [e]
/-- Its entries. -/
def entD (Bs : List Bat) : List Ent := Bs.flatMap fun b => ents b.s b.f b.es
theorem entD_snoc (Bs : List Bat) (b : Bat) : entD (Bs ++ [b]) = entD Bs ++ ents b.s b.f b.es := by simp [entD]
theorem entD_len (Bs : List Bat) : (entD Bs).length = totB Bs := by
  induction Bs with
  | nil => rfl
  | cons b r ih =>
    have : entD (b :: r) = ents b.s b.f b.es ++ entD r := rfl
    rw [this, List.length_append, ih, ents_len]
    simp [totB]
/-- The program's index and the document's say the same. -/
structure Alike (I : Ix) (Bs : List Bat) : Prop where
  all : I.all = entD Bs
  key : ∀ k, I.key k = keyD k 0 Bs
theorem Alike.new : Alike Ix.new [] := ⟨rfl, fun _ => rfl⟩
theorem Alike.add {I : Ix} {Bs : List Bat} (h : Alike I Bs) (b : Bat) (hk : I.key b.k = none) : Alike (I.added b.s b.k b.f b.es) (Bs ++ [b]) := by
  refine ⟨by rw [added_all, h.all, entD_snoc], fun j => ?_⟩
  rw [added_key, keyD_snoc, ← h.key j, Nat.zero_add, ← entD_len, ← h.all]
  by_cases hj : b.k ≠ [] ∧ j = b.k
  · obtain ⟨h1, rfl⟩ := hj
    rw [if_pos ⟨h1, rfl⟩, hk]
    simp [h1]
  · rw [if_neg hj]
    cases hI : I.key j with
    | some d => rfl
    | none =>
      show none = if j ≠ [] ∧ b.k = j then _ else none
      rw [if_neg (fun q => hj ⟨by rw [q.2]; exact q.1, q.2.symm⟩)]
end Go.Proofs.Ytabcmmhmghgliaa

namespace Go.Proofs.Ytabcmmhmghgliaa
open Go.RowKit
set_option linter.unusedVariables false

set_option maxHeartbeats 1000000 in
theorem named_any (s : List UInt8) (w : World) (hs : s.length ≤ 9223372036854775807) :
    Calls Try.prog 56 #[sv s] w fun e w' => e = .returned (.bool (ans (okName s))) ∧ w = w' := by
  by_cases hp : 1 ≤ s.length
  · by_cases h60 : s.length ≤ 60
    · have HA := hide (ans_true (p := okName s) ⟨hp, h60⟩)
      have h60' : decide ((s.length : Int) ≤ 60) = true := decide_eq_true (by omega)
      go_enter Try.func56, Try.ntmps56
      go_wp2
      go_ret
      rw [unhide HA]
      exact ⟨rfl, rfl⟩
    · have HA := hide (ans_false (p := okName s) (fun h => h60 h.2))
      have h60' : decide ((s.length : Int) ≤ 60) = false := decide_eq_false (by omega)
      go_enter Try.func56, Try.ntmps56
      go_wp2
      go_ret
      rw [unhide HA]
      exact ⟨rfl, rfl⟩
  · have HA := hide (ans_false (p := okName s) (fun h => hp h.1))
    have h1' : decide ((1 : Int) ≤ (s.length : Int)) = false := decide_eq_false (by omega)
    go_enter Try.func56, Try.ntmps56
    go_wp2
    go_ret
    rw [unhide HA]
    exact ⟨rfl, rfl⟩

theorem fld_cases (f : Fld) : (okName f.name ∧ f.text = true ∧ f.s.length ≤ 200 ∧ f.n = 0) ∨ (okName f.name ∧ f.text = false ∧ f.s = []) ∨ ¬ okName f.name ∨ (okName f.name ∧ f.text = true ∧ 200 < f.s.length) ∨ (okName f.name ∧ f.text = true ∧ f.s.length ≤ 200 ∧ f.n ≠ 0) ∨ (okName f.name ∧ f.text = false ∧ f.s ≠ []) := by
  by_cases h1 : okName f.name
  · cases h2 : f.text with
    | true =>
      by_cases h3 : f.s.length ≤ 200
      · by_cases h4 : f.n = 0
        · exact .inl ⟨h1, rfl, h3, h4⟩
        · exact .inr (.inr (.inr (.inr (.inl ⟨h1, rfl, h3, h4⟩))))
      · exact .inr (.inr (.inr (.inl ⟨h1, rfl, by omega⟩)))
    | false =>
      by_cases h3 : f.s = []
      · exact .inr (.inl ⟨h1, rfl, h3⟩)
      · exact .inr (.inr (.inr (.inr (.inr ⟨h1, rfl, h3⟩))))
  · exact .inr (.inr (.inl h1))

set_option maxHeartbeats 2000000 in
theorem rCheck_head (t : List UInt8) (v : Int) (a : Option Addr) (n c : Nat) (fs : List Fld) (w : World) (ht : t.length ≤ 9223372036854775807) (hv : FdL w (.slice a n c) fs) (hbad : ¬ (okName t ∧ 0 ≤ v ∧ v ≤ 1073741824 ∧ fs.length ≤ 16)) :
    Calls Try.prog 50 #[.agg (ev t v a n c)] w fun e w' => e = .returned (.int .i64 (chk (okEvent t v fs))) ∧ Below w.heap.size w w' := by
  obtain rfl : n = fs.length := by obtain ⟨_, _, e, _⟩ := hv; cases e; rfl
  have HA := hide (chk_bad (not_event hbad))
  have HB := hide ((Below.refl w.heap.size w).alloc (Nat.le_refl _) (.cells (ev t v a fs.length c) 49))
  by_cases hn : okName t
  · have HN := hide (ans_true hn)
    rcases head_cases hn hbad with h | ⟨h1, h2⟩ | ⟨h1, h2, h3⟩
    all_goals
      clear hbad hn
      go_enter Try.func50, Try.ntmps50
      go_wp2_with (go_at_call 56; refine (named_any t _ ht).mono ?_; rintro e w' ⟨rfl, rfl⟩; rw [unhide HN])
      go_ret
      rw [unhide HA]
      exact ⟨rfl, unhide HB⟩
  · have HN := hide (ans_false hn)
    clear hbad hn
    go_enter Try.func50, Try.ntmps50
    go_wp2_with (go_at_call 56; refine (named_any t _ ht).mono ?_; rintro e w' ⟨rfl, rfl⟩; rw [unhide HN])
    go_ret
    rw [unhide HA]
    exact ⟨rfl, unhide HB⟩

set_option maxHeartbeats 4000000 in
set_option maxRecDepth 100000 in
theorem rCheck_fields (t : List UInt8) (v : Int) (a : Option Addr) (n c : Nat) (fs : List Fld) (w : World) (ht : t.length ≤ 9223372036854775807) (hv : FdL w (.slice a n c) fs) (hfit : ∀ f ∈ fs, fits f) (hn : okName t) (h1 : 0 ≤ v) (h2 : v ≤ 1073741824) (h3 : fs.length ≤ 16) :
    Calls Try.prog 50 #[.agg (ev t v a n c)] w fun e w' => e = .returned (.int .i64 (chk (okEvent t v fs))) ∧ Below w.heap.size w w' := by
  obtain ⟨ao, cap, e, g1, g2, g4⟩ := id hv
  cases e
  have HNm := hide (ans_true hn)
  have HE := hide (show (∀ j, j < fs.length → okAt fs j) → okEvent t v fs from fun h => ⟨hn, h1, h2, h3, h⟩)
  obtain ⟨N, hN⟩ : ∃ N, N = fs.length := ⟨_, rfl⟩
  have HN := hide hN
  have H4 := hide g4
  have HFit := hide hfit
  rw [← hN] at g1 h3 ⊢
  clear g4 hN hv hfit hn
  go_enter Try.func50, Try.ntmps50
  go_wp2_with (go_at_call 56; refine (named_any t _ ht).mono ?_; rintro e w' ⟨rfl, rfl⟩; rw [unhide HNm])
  obtain ⟨w0, hw0⟩ : ∃ w0, w0 = w.alloc (.cells (ev t v a N c) 49) := ⟨_, rfl⟩
  rw [← hw0]
  have s0 : w.heap.size < w0.heap.size := by rw [hw0]; simp
  have b0 : Below w.heap.size w w0 := by rw [hw0]; exact (Below.refl _ _).alloc (Nat.le_refl _) _
  have z2 : w0.cell? ⟨w.heap.size, 2, none⟩ = some (.slice a N c) := by rw [hw0]; simp
  have HB0 := hide b0
  clear hw0 b0
  go_loopw [4, 5, 6, 7] (fun i _ _ _ wr => ∃ k : Nat, k ≤ N ∧ i = .int .i64 k ∧ Hid (∀ j, j < k → okAt fs j) ∧ Below w0.heap.size w0 wr) (fun i _ _ _ _ => N - (intOf i).toNat)
  case atStart => exact ⟨0, by omega, rfl, hide (fun j hj => by omega), Below.refl _ _⟩
  case round =>
    obtain ⟨k, hk, rfl, HJ, hbel⟩ := hrel
    have hsw := hbel.size
    have z2r := (hbel.cell (p := ⟨w.heap.size, 2, none⟩) s0).trans z2
    have HWr := hide ((unhide HB0).trans (hbel.mono (by omega)))
    clear z2
    by_cases hlt : k < N
    · have hkl : k < fs.length := by have := unhide HN; omega
      obtain ⟨b, off, rfl, hb, hc⟩ := unhide H4 (by omega)
      have HC := hide (fun i (hi : i < fs.length) => ((unhide HWr).cell (p := ⟨b, off + i * 4, none⟩) hb).trans (hc i hi).1)
      obtain ⟨c0, c1, c2, c3⟩ := hc k hkl
      obtain ⟨f, hf⟩ : ∃ f, f = fs[k] := ⟨_, rfl⟩
      rw [← hf] at c0 c1 c2 c3
      have d0 := ((unhide HWr).cell (p := ⟨b, off + k * 4, none⟩) hb).trans c0
      have d1 := ((unhide HWr).cell (p := ⟨b, off + k * 4 + 1, none⟩) hb).trans c1
      have d2 := ((unhide HWr).cell (p := ⟨b, off + k * 4 + 2, none⟩) hb).trans c2
      have d3 := ((unhide HWr).cell (p := ⟨b, off + k * 4 + 3, none⟩) hb).trans c3
      have HF : Hid (fs[k]? = some f) := hide (by rw [hf]; exact List.getElem?_eq_getElem hkl)
      have HFf := hide (unhide HFit f (by rw [hf]; exact List.getElem_mem hkl))
      have HB := hide hbel
      clear hf hc c0 c1 c2 c3 hbel
      obtain ⟨fn, ft, fi, fss⟩ := f
      simp only at d0 d1 d2 d3
      obtain ⟨w1, hw1⟩ : ∃ w1, w1 = wr.alloc (.cells (fv ⟨fn, ft, fi, fss⟩) 73) := ⟨_, rfl⟩
      have b1 : Below wr.heap.size wr w1 := by rw [hw1]; exact (Below.refl _ _).alloc (Nat.le_refl _) _
      have e0 : w1.cell? ⟨wr.heap.size, 0, none⟩ = some (sv fn) := by rw [hw1]; simp
      have e1 : w1.cell? ⟨wr.heap.size, 1, none⟩ = some (.bool ft) := by rw [hw1]; simp
      have e2 : w1.cell? ⟨wr.heap.size, 2, none⟩ = some (.int .i64 fi) := by rw [hw1]; simp
      have e3 : w1.cell? ⟨wr.heap.size, 3, none⟩ = some (sv fss) := by rw [hw1]; simp
      have z21 := (b1.cell (p := ⟨w.heap.size, 2, none⟩) (by show w.heap.size < wr.heap.size; omega)).trans z2r
      have HC1 := hide (fun i (hi : i < fs.length) => (b1.cell (p := ⟨b, off + i * 4, none⟩) (by show b < wr.heap.size; have := (unhide HWr).size; omega)).trans (unhide HC i hi))
      have HB1 := hide ((unhide HB).trans (b1.mono (by omega)))
      have HW1 := hide ((unhide HWr).trans (b1.mono (by omega)))
      have s1 := b1.size
      have HHW := hide hw1
      have f1 := (unhide HFf).1
      have f2 := (unhide HFf).2
      simp only at f1 f2
      clear b1 hw1 HC
      rcases fld_cases ⟨fn, ft, fi, fss⟩ with ⟨hnm, h5, h6, h7⟩ | ⟨hnm, h5, h6⟩ | hnm | ⟨hnm, h5, h6⟩ | ⟨hnm, h5, h6, h7⟩ | ⟨hnm, h5, h6⟩
      · simp only at hnm h5 h6 h7
        subst h5 h7
        have HN2 := hide (ans_true hnm)
        have HOKF := hide (show okField ⟨fn, true, 0, fss⟩ from ⟨hnm, (fun _ => ⟨h6, rfl⟩), (fun h => by cases h)⟩)
        have h6' : decide ((200 : Int) < (fss.length : Int)) = false := decide_eq_false (by omega)
        clear hnm
        go_wp2_with (go_at_call 56; rw [← unhide HHW]; refine (named_any fn _ f1).mono ?_; rintro e w' ⟨rfl, rfl⟩; rw [unhide HN2])
        go_loopw [7] (fun i wx => ∃ m : Nat, m ≤ k ∧ i = .int .i64 m ∧ Hid (∀ q, q < m → ∀ g, fs[q]? = some g → g.name ≠ fn) ∧ ∀ B, Below B w1 wx) (fun i _ => k - (intOf i).toNat)
        case atStart => exact ⟨0, by omega, rfl, hide (fun q hq => by omega), fun B => Below.refl _ _⟩
        case round =>
          obtain ⟨m, hm, rfl, HQ, hbx⟩ := hrel
          by_cases hmk : m < k
          · have hml : m < fs.length := by omega
            have cm := ((hbx (b + 1)).cell (p := ⟨b, off + m * 4, none⟩) (by simp)).trans (unhide HC1 m hml)
            have zx := ((hbx (w.heap.size + 1)).cell (p := ⟨w.heap.size, 2, none⟩) (by simp)).trans z21
            have ex := ((hbx _).cell (Nat.lt_succ_self _)).trans e0
            obtain ⟨g, hg⟩ : ∃ g, g = fs[m] := ⟨_, rfl⟩
            rw [← hg] at cm
            have HG : Hid (fs[m]? = some g) := hide (by rw [hg]; exact List.getElem?_eq_getElem hml)
            obtain ⟨gn, gt, gi, gs⟩ := g
            simp only at cm
            have HBX := hide hbx
            clear hg hbx
            have im : (m : Int) < (N : Int) := by omega
            by_cases he : gn = fn
            · have hbq : (gn == fn) = true := beq_iff_eq.2 he
              have HA := hide (chk_bad (p := okEvent t v fs) (fun h => by
                obtain ⟨g, hg, _, h6⟩ := h.2.2.2.2 k hkl
                rw [unhide HF] at hg
                cases hg
                exact h6 m hmk _ (unhide HG) he))
              clear he
              go_wp2_with fail
              go_quiet (fail)
              go_wp2
              go_ret
              rw [unhide HA]
              exact ⟨rfl, below_drewN ((unhide HW1).trans (unhide HBX _)) _⟩
            · have hbq : (gn == fn) = false := beq_eq_false_iff_ne.2 he
              have HQ2 : Hid (∀ q, q < m + 1 → ∀ g, fs[q]? = some g → g.name ≠ fn) := hide (fun q hq g hg => by
                by_cases h : q < m
                · exact unhide HQ q h g hg
                · have : q = m := by omega
                  subst this
                  rw [unhide HG] at hg
                  cases hg
                  exact he)
              clear he
              go_wp2_with fail
              go_quiet (fail)
              go_wp2
              go_roundw
              case rel => exact ⟨m + 1, by omega, by go_num, HQ2, fun B => below_drewN (unhide HBX B) _⟩
              case measure => simp [intOf]; omega
          · have HJ2 : Hid (∀ j, j < k + 1 → okAt fs j) := hide (fun j hj => by
              by_cases h : j < k
              · exact unhide HJ j h
              · have : j = k := by omega
                subst this
                exact ⟨_, unhide HF, unhide HOKF, fun i hi g hg => unhide HQ i (by omega) g hg⟩)
            have HBX := hide hbx
            clear hbx
            go_wp2
            go_roundw
            case rel => exact ⟨k + 1, by omega, by go_num, HJ2, (unhide HB1).trans (unhide HBX _)⟩
            case measure => simp [intOf]; omega
      · simp only at hnm h5 h6
        subst h5 h6
        have HN2 := hide (ans_true hnm)
        have HOKF := hide (show okField ⟨fn, false, fi, []⟩ from ⟨hnm, (fun h => by cases h), (fun _ => rfl)⟩)
        skip
        clear hnm
        go_wp2_with (go_at_call 56; rw [← unhide HHW]; refine (named_any fn _ f1).mono ?_; rintro e w' ⟨rfl, rfl⟩; rw [unhide HN2])
        go_loopw [7] (fun i wx => ∃ m : Nat, m ≤ k ∧ i = .int .i64 m ∧ Hid (∀ q, q < m → ∀ g, fs[q]? = some g → g.name ≠ fn) ∧ ∀ B, Below B w1 wx) (fun i _ => k - (intOf i).toNat)
        case atStart => exact ⟨0, by omega, rfl, hide (fun q hq => by omega), fun B => Below.refl _ _⟩
        case round =>
          obtain ⟨m, hm, rfl, HQ, hbx⟩ := hrel
          by_cases hmk : m < k
          · have hml : m < fs.length := by omega
            have cm := ((hbx (b + 1)).cell (p := ⟨b, off + m * 4, none⟩) (by simp)).trans (unhide HC1 m hml)
            have zx := ((hbx (w.heap.size + 1)).cell (p := ⟨w.heap.size, 2, none⟩) (by simp)).trans z21
            have ex := ((hbx _).cell (Nat.lt_succ_self _)).trans e0
            obtain ⟨g, hg⟩ : ∃ g, g = fs[m] := ⟨_, rfl⟩
            rw [← hg] at cm
            have HG : Hid (fs[m]? = some g) := hide (by rw [hg]; exact List.getElem?_eq_getElem hml)
            obtain ⟨gn, gt, gi, gs⟩ := g
            simp only at cm
            have HBX := hide hbx
            clear hg hbx
            have im : (m : Int) < (N : Int) := by omega
            by_cases he : gn = fn
            · have hbq : (gn == fn) = true := beq_iff_eq.2 he
              have HA := hide (chk_bad (p := okEvent t v fs) (fun h => by
                obtain ⟨g, hg, _, h6⟩ := h.2.2.2.2 k hkl
                rw [unhide HF] at hg
                cases hg
                exact h6 m hmk _ (unhide HG) he))
              clear he
              go_wp2_with fail
              go_quiet (fail)
              go_wp2
              go_ret
              rw [unhide HA]
              exact ⟨rfl, below_drewN ((unhide HW1).trans (unhide HBX _)) _⟩
            · have hbq : (gn == fn) = false := beq_eq_false_iff_ne.2 he
              have HQ2 : Hid (∀ q, q < m + 1 → ∀ g, fs[q]? = some g → g.name ≠ fn) := hide (fun q hq g hg => by
                by_cases h : q < m
                · exact unhide HQ q h g hg
                · have : q = m := by omega
                  subst this
                  rw [unhide HG] at hg
                  cases hg
                  exact he)
              clear he
              go_wp2_with fail
              go_quiet (fail)
              go_wp2
              go_roundw
              case rel => exact ⟨m + 1, by omega, by go_num, HQ2, fun B => below_drewN (unhide HBX B) _⟩
              case measure => simp [intOf]; omega
          · have HJ2 : Hid (∀ j, j < k + 1 → okAt fs j) := hide (fun j hj => by
              by_cases h : j < k
              · exact unhide HJ j h
              · have : j = k := by omega
                subst this
                exact ⟨_, unhide HF, unhide HOKF, fun i hi g hg => unhide HQ i (by omega) g hg⟩)
            have HBX := hide hbx
            clear hbx
            go_wp2
            go_roundw
            case rel => exact ⟨k + 1, by omega, by go_num, HJ2, (unhide HB1).trans (unhide HBX _)⟩
            case measure => simp [intOf]; omega
      · simp only at hnm
        have HN2 := hide (ans_false hnm)
        have HA := hide (chk_bad (p := okEvent t v fs) (fun h => by
          obtain ⟨g, hg, h5, _⟩ := h.2.2.2.2 k hkl
          rw [unhide HF] at hg
          cases hg
          exact hnm h5.1))
        clear hnm
        go_wp2_with (go_at_call 56; rw [← unhide HHW]; refine (named_any fn _ f1).mono ?_; rintro e w' ⟨rfl, rfl⟩; rw [unhide HN2])
        go_ret
        rw [unhide HA]
        exact ⟨rfl, unhide HW1⟩
      · simp only at hnm h5 h6
        subst h5
        have HN2 := hide (ans_true hnm)
        have HA := hide (chk_bad (p := okEvent t v fs) (fun h => by
          obtain ⟨g, hg, h5, _⟩ := h.2.2.2.2 k hkl
          rw [unhide HF] at hg
          cases hg
          have := (h5.2.1 rfl).1; simp only at this; omega))
        have h6' : decide ((200 : Int) < (fss.length : Int)) = true := decide_eq_true (by omega)
        clear hnm
        go_wp2_with (go_at_call 56; rw [← unhide HHW]; refine (named_any fn _ f1).mono ?_; rintro e w' ⟨rfl, rfl⟩; rw [unhide HN2])
        go_ret
        rw [unhide HA]
        exact ⟨rfl, unhide HW1⟩
      · simp only at hnm h5 h6 h7
        subst h5
        have HN2 := hide (ans_true hnm)
        have HA := hide (chk_bad (p := okEvent t v fs) (fun h => by
          obtain ⟨g, hg, h5, _⟩ := h.2.2.2.2 k hkl
          rw [unhide HF] at hg
          cases hg
          exact h7 (h5.2.1 rfl).2))
        have h6' : decide ((200 : Int) < (fss.length : Int)) = false := decide_eq_false (by omega)
        have h7' : (fi != 0) = true := by rw [bne_iff_ne]; exact h7
        clear hnm h7
        go_wp2_with (go_at_call 56; rw [← unhide HHW]; refine (named_any fn _ f1).mono ?_; rintro e w' ⟨rfl, rfl⟩; rw [unhide HN2])
        go_ret
        rw [unhide HA]
        exact ⟨rfl, unhide HW1⟩
      · simp only at hnm h5 h6
        subst h5
        have HN2 := hide (ans_true hnm)
        have HA := hide (chk_bad (p := okEvent t v fs) (fun h => by
          obtain ⟨g, hg, h5, _⟩ := h.2.2.2.2 k hkl
          rw [unhide HF] at hg
          cases hg
          exact h6 (h5.2.2 rfl)))
        have h6' : (fss == []) = false := beq_eq_false_iff_ne.2 h6
        clear hnm h6
        go_wp2_with (go_at_call 56; rw [← unhide HHW]; refine (named_any fn _ f1).mono ?_; rintro e w' ⟨rfl, rfl⟩; rw [unhide HN2])
        go_ret
        rw [unhide HA]
        exact ⟨rfl, unhide HW1⟩
    · have HA := hide (chk_ok (unhide HE (fun j hj => unhide HJ j (by have := unhide HN; omega))))
      have HB := hide hbel
      clear hbel
      go_wp2
      go_ret
      rw [unhide HA]
      exact ⟨rfl, unhide HWr⟩
/-- The document's Check. -/
theorem rCheck_any (t : List UInt8) (v : Int) (a : Option Addr) (n c : Nat) (fs : List Fld) (w : World) (ht : t.length ≤ 9223372036854775807) (hv : FdL w (.slice a n c) fs) (hfit : ∀ f ∈ fs, fits f) :
    Calls Try.prog 50 #[.agg (ev t v a n c)] w fun e w' => e = .returned (.int .i64 (chk (okEvent t v fs))) ∧ Below w.heap.size w w' := by
  by_cases h : okName t ∧ 0 ≤ v ∧ v ≤ 1073741824 ∧ fs.length ≤ 16
  · exact rCheck_fields t v a n c fs w ht hv hfit h.1 h.2.1 h.2.2.1 h.2.2.2
  · exact rCheck_head t v a n c fs w ht hv h
end Go.Proofs.Ytabcmmhmghgliaa
