/-
  DERIVED. The document's Keys; SameInts.
-/
import Derived.Test.YtmhlfbgchhmffaaCrput
namespace Go.Proofs.Ytmhlfbgchhmffaa
open Go.RowKit Go.Maps
set_option linter.unusedVariables false

set_option maxRecDepth 20000 in
set_option maxHeartbeats 2000000 in
theorem rKeys_any (w : World) (N b M : Nat) (v : Value) (xs : List It) (dirty : Bool) (h : RC w N b M v xs) :
    Calls Try.prog 38 #[.pointer (some ⟨b, 0, none⟩), .bool dirty] w fun e w' => ∃ u, e = .returned u ∧ ZOwn w' w.heap.size u ((xs.filter (fun x => !dirty || x.d)).map (·.k)) ∧ Below w.heap.size w w' := by
  have hbl := lt_of_block h.blk
  have c1 := h.c1
  have H := hide h
  obtain ⟨ao, cap, rfl, h1, h2, _⟩ := h.own.form
  have hl := h.len
  obtain ⟨n, hn⟩ : ∃ n, n = xs.length := ⟨_, rfl⟩
  rw [← hn] at c1 h1 hl H
  have hni : (n : Int) ≤ 1024 := by omega
  have HN := hide hn
  clear h hn
  go_enter Try.func38, Try.ntmps38
  go_wp2
  go_loopw [5, 6] (fun ks i wr => ∃ j : Nat, i = .int .i64 (j : Int) ∧ j ≤ n ∧ Hid (ZOwn wr w.heap.size ks (((xs.take j).filter (fun x => !dirty || x.d)).map (·.k))) ∧ Hid (Below w.heap.size w wr)) (fun _ i _ => n - (intOf i).toNat)
  case atStart => exact ⟨0, rfl, by omega, hide (ZOwn.nil _ _), hide (Below.refl _ _)⟩
  case round =>
    obtain ⟨j, rfl, hj, HZ, HB⟩ := hrel
    have hji : (j : Int) ≤ 1024 := by omega
    have c1r := ((unhide HB).cell (p := ⟨b, 1, none⟩) hbl).trans c1
    by_cases hlt : j < n
    · have hlt' : (j : Int) < (n : Int) := by omega
      have hidx : (0 : Int) ≤ (j : Int) ∧ (j : Int) < (n : Int) := ⟨by omega, hlt'⟩
      have hjx : j < xs.length := by rw [← unhide HN]; exact hlt
      obtain ⟨g, rfl, _, ⟨cur, hcur⟩, d0, _, d2, _⟩ := ((unhide H).own.below (unhide HB)).at hjx
      have hgl := lt_of_block hcur
      obtain ⟨t, ht⟩ : ∃ t, t = xs[j] := ⟨_, rfl⟩
      rw [← ht] at d0 d2
      have etk : xs.take (j + 1) = xs.take j ++ [t] := by rw [List.take_succ_eq_append_getElem hjx, ht]
      have ET := hide etk
      have hw : w.heap.size ≤ wr.heap.size := (unhide HB).size
      have hgw : g < w.heap.size := by
        obtain ⟨_, cur2, hc2⟩ := (unhide H).own.row (q := g) rfl
        exact lt_of_block hc2
      have hl1 : (((xs.take j).filter (fun x => !dirty || x.d)).map (·.k)).length ≤ 65536 := by
        have h1 := List.length_filter_le (fun x : It => !dirty || x.d) (xs.take j)
        have h2 : (xs.take j).length ≤ j := List.length_take_le _ _
        rw [List.length_map]
        omega
      clear ht etk hcur
      by_cases hgo : (!dirty || t.d) = true
      · have HG := hide hgo
        have hcase : dirty = false ∨ (dirty = true ∧ t.d = true) := by
          cases dirty <;> simp at hgo ⊢
          exact hgo
        clear hgo
        rcases hcase with hc | ⟨hc, hc2⟩
        · subst hc
          go_wp2_with (at_builtin; refine wpList_append_z rfl (.tmp 28) (.tmp 37) rfl w.heap.size _ _ rfl (ZOwn.below (unhide HZ) ((Below.refl _ _).alloc (Nat.le_refl _) _)) ?q1 hl1 ⟨wr.heap.size, 0, none⟩ 1 t.k rfl ?q2 ?_)
          case q1 => simp; omega
          case q2 => exact (cell_of_row _ _ _ _ _ _ (heap_alloc_new _ _)).trans rfl
          intro v' w2 hz2 hg2
          have hb2 : Below w.heap.size wr w2 := ((Below.refl w.heap.size wr).alloc hw _).grown hg2 (by simp; omega) (fun q hq => ((unhide HZ).row hq).1)
          have HZ2 := hide hz2
          have HB2 := hide ((unhide HB).trans hb2)
          clear hz2 hg2 hb2
          go_wp2
          go_roundw
          case rel => exact ⟨j + 1, by go_num, by omega, hide (by rw [unhide ET, List.filter_append, List.map_append]; simpa using unhide HZ2), HB2⟩
          case measure => simp [intOf]; omega
        · subst hc
          rw [hc2] at d2
          go_wp2_with (at_builtin; refine wpList_append_z rfl (.tmp 28) (.tmp 37) rfl w.heap.size _ _ rfl (ZOwn.below (unhide HZ) ((Below.refl _ _).alloc (Nat.le_refl _) _)) ?q3 hl1 ⟨wr.heap.size, 0, none⟩ 1 t.k rfl ?q4 ?_)
          case q3 => simp; omega
          case q4 => exact (cell_of_row _ _ _ _ _ _ (heap_alloc_new _ _)).trans rfl
          intro v' w2 hz2 hg2
          have hb2 : Below w.heap.size wr w2 := ((Below.refl w.heap.size wr).alloc hw _).grown hg2 (by simp; omega) (fun q hq => ((unhide HZ).row hq).1)
          have HZ2 := hide hz2
          have HB2 := hide ((unhide HB).trans hb2)
          clear hz2 hg2 hb2
          go_wp2
          go_roundw
          case rel => exact ⟨j + 1, by go_num, by omega, hide (by rw [unhide ET, List.filter_append, List.map_append]; simpa [hc2] using unhide HZ2), HB2⟩
          case measure => simp [intOf]; omega
      · have hc : dirty = true ∧ t.d = false := by
          cases dirty <;> simp at hgo ⊢
          exact hgo
        obtain ⟨rfl, hc2⟩ := hc
        rw [hc2] at d2
        clear hgo
        go_wp2
        go_roundw
        case rel => exact ⟨j + 1, by go_num, by omega, hide (by rw [unhide ET, List.filter_append, List.map_append]; simpa [hc2] using unhide HZ), HB⟩
        case measure => simp [intOf]; omega
    · have hlt' : ¬ (j : Int) < (n : Int) := by omega
      go_wp2
      go_ret
      refine ⟨_, rfl, ?_, unhide HB⟩
      have e : xs.take j = xs := List.take_of_length_le (by rw [← unhide HN]; omega)
      have := unhide HZ
      rw [e] at this
      exact this

theorem take_eq_step' {α : Type} (l m : List α) (k : Nat) (h1 : k < l.length) (h2 : k < m.length) (h : l.take k = m.take k) (e : l[k] = m[k]) : l.take (k + 1) = m.take (k + 1) := by
  rw [List.take_succ_eq_append_getElem h1, List.take_succ_eq_append_getElem h2, h, e]
set_option maxRecDepth 20000 in
set_option maxHeartbeats 2000000 in
/-- Two slices that read alike. -/
theorem SameInts_same (w : World) (ba bb : Nat) (v u : Value) (l : List Int) (hv : ZOwn w ba v l) (hu : ZOwn w bb u l) (hl : l.length ≤ 1024) :
    Calls Try.prog 37 #[v, u] w fun e w' => e = .returned (.bool true) ∧ ∃ q, w' = w.drewN q := by
  have HV := hide hv
  have HU := hide hu
  obtain ⟨ao, cap, rfl, h1, h2, _⟩ := hv.form
  obtain ⟨bo, dap, rfl, k1, k2, _⟩ := hu.form
  obtain ⟨n, hn⟩ : ∃ n, n = l.length := ⟨_, rfl⟩
  rw [← hn] at h1 k1 HV HU hl ⊢
  have hne : ((n : Int) != (n : Int)) = false := by simp
  have hni : (n : Int) ≤ 1024 := by omega
  have HN := hide hn
  clear hn hv hu
  go_enter Try.func37, Try.ntmps37
  go_wp2
  go_loopw [5] (fun i wr => ∃ k : Nat, i = .int .i64 (k : Int) ∧ k ≤ n ∧ ∃ q, wr = w.drewN q) (fun i _ => n - (intOf i).toNat)
  case atStart => exact ⟨0, rfl, by omega, 0, rfl⟩
  case round =>
    obtain ⟨k, rfl, hk, qd, rfl⟩ := hrel
    have hki : (k : Int) ≤ 1024 := by omega
    by_cases hlt : k < n
    · have hlt' : (k : Int) < (n : Int) := by omega
      have hidx : (0 : Int) ≤ (k : Int) ∧ (k : Int) < (n : Int) := ⟨by omega, hlt'⟩
      have hkl : k < l.length := by rw [← unhide HN]; exact hlt
      obtain ⟨g, rfl, _, _, d1⟩ := (unhide HV).at hkl
      obtain ⟨g2, rfl, _, _, d2⟩ := (unhide HU).at hkl
      obtain ⟨y, hy⟩ : ∃ y, y = l[k] := ⟨_, rfl⟩
      rw [← hy] at d1 d2
      have hyy : (y != y) = false := by simp
      clear hy
      go_wp2
      go_quiet (fail)
      go_wp2
      go_roundw
      case rel => exact ⟨k + 1, by go_num, by omega, _, rfl⟩
      case measure => simp [intOf]; omega
    · have hlt' : ¬ (k : Int) < (n : Int) := by omega
      go_wp2
      go_ret
      exact ⟨rfl, _, rfl⟩
end Go.Proofs.Ytmhlfbgchhmffaa
