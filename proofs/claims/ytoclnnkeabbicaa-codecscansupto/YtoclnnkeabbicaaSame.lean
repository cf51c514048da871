/-
  DERIVED. The walk of SameFrames: lists of frames, held side by side.
-/
import Derived.Test.YtoclnnkeabbicaaAwake
namespace Go.Proofs.Ytoclnnkeabbicaa
open Go.RowKit
set_option linter.unusedVariables false

/-- A slice of frames that reads as these. -/
def Fl (w : World) (v : Value) (fs : List (UInt8 × List UInt8)) : Prop :=
  ∃ ao cap, v = .slice ao fs.length cap ∧ fs.length ≤ cap ∧ cap ≤ 9223372036854775807 ∧
    (fs.length ≠ 0 → ∃ b off, ao = some ⟨b, off, none⟩ ∧ b < w.heap.size ∧ ∀ i, (h : i < fs.length) →
      w.cell? ⟨b, off + i * 2, none⟩ = some (bv fs[i].1) ∧ ∃ a n c, w.cell? ⟨b, off + i * 2 + 1, none⟩ = some (.slice a n c) ∧ Sl w (.slice a n c) fs[i].2)

theorem Fl.below {B : Nat} {w w' : World} {v : Value} {fs : List (UInt8 × List UInt8)} (h : Fl w v fs) (hb : Below B w w') (hB : w.heap.size ≤ B) : Fl w' v fs := by
  obtain ⟨ao, cap, rfl, h1, h2, h4⟩ := h
  refine ⟨ao, cap, rfl, h1, h2, fun hz => ?_⟩
  obtain ⟨b, off, e, hlt, hc⟩ := h4 hz
  refine ⟨b, off, e, by have := hb.size; omega, fun i hi => ?_⟩
  obtain ⟨c0, a, n, c, c1, hs⟩ := hc i hi
  exact ⟨(hb.cell (p := ⟨b, off + i * 2, none⟩) (by show b < B; omega)).trans c0, a, n, c, (hb.cell (p := ⟨b, off + i * 2 + 1, none⟩) (by show b < B; omega)).trans c1, hs.below hb hB⟩

theorem take_eq_succ {α : Type} (l m : List α) (k : Nat) (hl : k < l.length) (hm : k < m.length) (h : l.take k = m.take k) (he : l[k] = m[k]) : l.take (k + 1) = m.take (k + 1) := by
  rw [List.take_succ_eq_append_getElem hl, List.take_succ_eq_append_getElem hm, h, he]

set_option maxHeartbeats 2000000 in
set_option maxRecDepth 100000 in
theorem SameFrames_some (b off cap b' off' cap' : Nat) (fs gs : List (UInt8 × List UInt8)) (w : World) (hlen : fs.length = gs.length) (h1 : fs.length ≤ cap) (_h1' : gs.length ≤ cap') (h2 : cap ≤ 9223372036854775807) (_h2' : cap' ≤ 9223372036854775807)
    (hc : ∀ i, (h : i < fs.length) → w.cell? ⟨b, off + i * 2, none⟩ = some (bv fs[i].1) ∧ ∃ a n c, w.cell? ⟨b, off + i * 2 + 1, none⟩ = some (.slice a n c) ∧ Sl w (.slice a n c) fs[i].2)
    (hc' : ∀ i, (h : i < gs.length) → w.cell? ⟨b', off' + i * 2, none⟩ = some (bv gs[i].1) ∧ ∃ a n c, w.cell? ⟨b', off' + i * 2 + 1, none⟩ = some (.slice a n c) ∧ Sl w (.slice a n c) gs[i].2) :
    Calls Try.prog 21 #[.slice (some ⟨b, off, none⟩) fs.length cap, .slice (some ⟨b', off', none⟩) gs.length cap'] w fun e w' => e = .returned (.bool (decide (fs = gs))) ∧ ∀ B, Below B w w' := by
  rw [← hlen]
  have h1' := _h1'
  rw [← hlen] at h1'
  obtain ⟨n, hn⟩ : ∃ n, n = fs.length := ⟨_, rfl⟩
  have HN := hide (And.intro hn (hn.trans hlen))
  have HC := hide (And.intro hc hc')
  rw [← hn] at h1 h1' ⊢
  clear hc hc' hn hlen
  go_enter Try.func21, Try.ntmps21
  go_wp2
  go_loopw [5] (fun i wr => ∃ k : Nat, k ≤ n ∧ i = .int .i64 k ∧ Hid (fs.take k = gs.take k) ∧ ∀ B, Below B w wr) (fun i _ => n - (intOf i).toNat)
  case atStart => exact ⟨0, by omega, rfl, hide (by simp), fun B => Below.refl _ _⟩
  case round =>
    obtain ⟨k, hk, rfl, HT, hbel⟩ := hrel
    by_cases hlt : k < n
    · have hkf : k < fs.length := by have := (unhide HN).1; omega
      have hkg : k < gs.length := by have := (unhide HN).2; omega
      obtain ⟨c0, a, m, c, c1, hs⟩ := (unhide HC).1 k hkf
      obtain ⟨c0', a', m', c', c1', hs'⟩ := (unhide HC).2 k hkg
      have e0 := ((hbel (b + 1)).cell (p := ⟨b, off + k * 2, none⟩) (by simp)).trans c0
      have e1 := ((hbel (b + 1)).cell (p := ⟨b, off + k * 2 + 1, none⟩) (by simp)).trans c1
      have e0' := ((hbel (b' + 1)).cell (p := ⟨b', off' + k * 2, none⟩) (by simp)).trans c0'
      have e1' := ((hbel (b' + 1)).cell (p := ⟨b', off' + k * 2 + 1, none⟩) (by simp)).trans c1'
      have hst := fun nq => (hs.below (below_drewN (hbel w.heap.size) nq) (Nat.le_refl _)).str
      have hst' := fun nq => (hs'.below (below_drewN (hbel w.heap.size) nq) (Nat.le_refl _)).str
      obtain ⟨x, hx⟩ : ∃ x, x = fs[k] := ⟨_, rfl⟩
      obtain ⟨y, hy⟩ : ∃ y, y = gs[k] := ⟨_, rfl⟩
      rw [← hx] at e0 hst
      rw [← hy] at e0' hst'
      obtain ⟨x1, x2⟩ := x
      obtain ⟨y1, y2⟩ := y
      simp only at e0 e0' hst hst'
      have HX := hide hx
      have HY := hide hy
      clear hx hy hs hs' c0 c1 c0' c1'
      have HB := hide hbel
      clear hbel
      by_cases hkind : x1 = y1
      · subst hkind
        have hkk : ((x1.toNat : Int) != (x1.toNat : Int)) = false := by simp
        by_cases hxy : x2 = y2
        · subst hxy
          have hb : (x2 == x2) = true := beq_self_eq_true x2
          go_wp2_with fail
          go_quiet (fail)
          go_wp2
          go_roundw
          case rel =>
            exact ⟨k + 1, by omega, by go_num, hide (take_eq_succ fs gs k hkf hkg (unhide HT) ((unhide HX).symm.trans (unhide HY))), fun B => below_drewN (unhide HB B) _⟩
          case measure => simp [intOf]; omega
        · have hb : (x2 == y2) = false := beq_eq_false_iff_ne.2 hxy
          have HF : Hid (decide (fs = gs) = false) := hide (by
            refine decide_eq_false (fun e => ?_)
            subst e
            have := (unhide HX).trans (unhide HY).symm
            simp only [Prod.mk.injEq] at this
            exact hxy this.2)
          clear hxy
          go_wp2_with fail
          go_quiet (fail)
          go_wp2
          go_ret
          rw [unhide HF]
          exact ⟨rfl, fun B => below_drewN (unhide HB B) _⟩
      · have hne : (x1.toNat : Int) ≠ (y1.toNat : Int) := fun e => hkind (UInt8.toNat_inj.1 (by omega))
        have hkk : ((x1.toNat : Int) != (y1.toNat : Int)) = true := by rw [bne_iff_ne]; exact hne
        have HF : Hid (decide (fs = gs) = false) := hide (by
          refine decide_eq_false (fun e => ?_)
          subst e
          have := (unhide HX).trans (unhide HY).symm
          simp only [Prod.mk.injEq] at this
          exact hkind this.1)
        clear hkind hne
        go_wp2_with fail
        go_quiet (fail)
        go_wp2
        go_ret
        rw [unhide HF]
        exact ⟨rfl, fun B => below_drewN (unhide HB B) _⟩
    · have HF : Hid (decide (fs = gs) = true) := hide (by
        refine decide_eq_true ?_
        have h := unhide HT
        obtain ⟨n1, n2⟩ := unhide HN
        rwa [List.take_of_length_le (by omega), List.take_of_length_le (by omega)] at h)
      have HB := hide hbel
      clear hbel
      go_wp2
      go_ret
      rw [unhide HF]
      exact ⟨rfl, unhide HB⟩

theorem Fl.cases {w : World} {v : Value} {fs : List (UInt8 × List UInt8)} (h : Fl w v fs) : (fs = [] ∧ ∃ ao cap, v = .slice ao 0 cap) ∨ ∃ b off cap, v = .slice (some ⟨b, off, none⟩) fs.length cap ∧ fs.length ≤ cap ∧ cap ≤ 9223372036854775807 ∧ 0 < fs.length ∧ ∀ i, (h : i < fs.length) →
      w.cell? ⟨b, off + i * 2, none⟩ = some (bv fs[i].1) ∧ ∃ a n c, w.cell? ⟨b, off + i * 2 + 1, none⟩ = some (.slice a n c) ∧ Sl w (.slice a n c) fs[i].2 := by
  obtain ⟨ao, cap, rfl, h1, h2, h4⟩ := h
  by_cases hz : fs.length = 0
  · obtain rfl := List.eq_nil_of_length_eq_zero hz
    exact .inl ⟨rfl, ao, cap, rfl⟩
  · obtain ⟨b, off, rfl, _, hc⟩ := h4 hz
    exact .inr ⟨b, off, cap, rfl, h1, h2, by omega, hc⟩

set_option maxHeartbeats 1000000 in
theorem SameFrames_any (v v' : Value) (fs gs : List (UInt8 × List UInt8)) (w : World) (h : Fl w v fs) (h' : Fl w v' gs) :
    Calls Try.prog 21 #[v, v'] w fun e w' => e = .returned (.bool (decide (fs = gs))) ∧ ∀ B, Below B w w' := by
  by_cases hlen : fs.length = gs.length
  · rcases h.cases with ⟨rfl, ao, cap, rfl⟩ | ⟨b, off, cap, rfl, h1, h2, h3, hc⟩
    · obtain rfl : gs = [] := List.eq_nil_of_length_eq_zero (by simpa using hlen.symm)
      rcases h'.cases with ⟨_, ao', cap', rfl⟩ | ⟨b', off', cap', rfl, h1', h2', h3', hc'⟩
      · clear h h' hlen
        go_enter Try.func21, Try.ntmps21
        go_wp2
        refine wp_loop_rounds 1 ?_
        rw [rounds_succ]
        go_wp2
        go_ret
        exact ⟨rfl, fun B => Below.refl _ _⟩
      · simp at h3'
    · rcases h'.cases with ⟨rfl, ao', cap', rfl⟩ | ⟨b', off', cap', rfl, h1', h2', h3', hc'⟩
      · simp at hlen; subst hlen; simp at h3
      · exact SameFrames_some b off cap b' off' cap' fs gs w hlen h1 h1' h2 h2' hc hc'
  · have HF : decide (fs = gs) = false := decide_eq_false (fun e => hlen (by rw [e]))
    rw [HF]
    obtain ⟨ao, cap, rfl, h1, h2, h4⟩ := h
    obtain ⟨ao', cap', rfl, h1', h2', h4'⟩ := h'
    clear h4 h4' HF
    have hne : ((fs.length : Int) != (gs.length : Int)) = true := by rw [bne_iff_ne]; omega
    go_enter Try.func21, Try.ntmps21
    go_wp2
    go_ret
    exact ⟨rfl, fun B => Below.refl _ _⟩

/-- One frame in a new block. -/
theorem Fl.one (w : World) (k : UInt8) (a : Option Addr) (n c : Nat) (d : List UInt8) (g : Nat) (hg : g = w.heap.size) (hs : Sl w (.slice a n c) d) : Fl (w.alloc (.cells #[bv k, .slice a n c] 37)) (.slice (some ⟨g, 0, none⟩) 1 1) [(k, d)] := by
  subst hg
  refine ⟨_, 1, rfl, by simp, by omega, fun _ => ⟨_, _, rfl, by simp, fun i hi => ?_⟩⟩
  obtain rfl : i = 0 := by simpa using hi
  exact ⟨by simp, a, n, c, by simp, hs.alloc _⟩
end Go.Proofs.Ytoclnnkeabbicaa
