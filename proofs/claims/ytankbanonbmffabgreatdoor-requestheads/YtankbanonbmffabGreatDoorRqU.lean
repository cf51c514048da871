/-
  DERIVED. The Builder's WriteString and String; chunks, plain.
-/
import Derived.Test.YtankbanonbmffabGreatDoorRqT
namespace Go.Proofs.YtankbanonbmffabGreatDoor
open Go.RowKit
set_option linter.unusedVariables false

theorem Own.of_string {w : World} {base : Nat} {v : Value} {l m : List UInt8} (h : w.ownsRow base 5 1 v (l.length + (⟨m.toArray⟩ : ByteArray).size) (l.map bv ++ Lib.strCells ⟨m.toArray⟩)) : Own w base v (l ++ m) := by
  have hs : (⟨m.toArray⟩ : ByteArray).size = m.length := rfl
  have e : Lib.strCells ⟨m.toArray⟩ = m.map bv := by simp [Lib.strCells]
  rw [hs, e] at h
  simpa [Own] using h

theorem own_grown {w w' : World} {base : Nat} {v : Value} {l : List UInt8} (h : Own w base v l) (hg : w.grownBy w' v.ownBlock) (hb : base ≤ w.heap.size) : Below base w w' := by
  refine (Below.refl base w).grown hg hb ?_
  intro k hk
  rcases h.2 with ⟨rfl, _⟩ | ⟨g, cap', cur, rfl, hb, _⟩
  · cases hk
  · simp only [Value.ownBlock, Option.some.injEq] at hk; omega
theorem bt_grown {w1 w2 : World} {b : Nat} {p v v2 : Value} {l m : List UInt8} (h1 : w1.heap[b]? = some (.cells #[p, v] 62 (0, 0))) (h2 : p = .pointer none ∨ p = .pointer (some ⟨b, 0, none⟩)) (h3 : Own w1 (b + 1) v l) (hb : b + 1 ≤ w1.heap.size)
    (o2 : w2.ownsRow (b + 1) 5 1 v2 (l.length + (⟨m.toArray⟩ : ByteArray).size) (l.map bv ++ Lib.strCells ⟨m.toArray⟩)) (g2 : w1.grownBy w2 v.ownBlock) :
    ∃ a n c, v2 = .slice a n c ∧ w2.frozen? ⟨b, 1, none⟩ = false ∧ w2.cell? ⟨b, 1, none⟩ = some v ∧ BtAt (w2.setCell ⟨b, 1, none⟩ v2) b (l ++ m) ∧ Below b w1 (w2.setCell ⟨b, 1, none⟩ v2) := by
  have ho := Own.of_string o2
  have hB := own_grown h3 g2 hb
  have h4 := (hB.block b (Nat.lt_succ_self b)).trans h1
  obtain ⟨ao, cap, e, _⟩ := ho.sl
  refine ⟨ao, _, cap, e, by simp [World.frozen?, h4], (cell_of_row _ _ _ _ _ _ h4).trans rfl, ⟨p, v2, heap_setCell_same w2 b 1 _ _ _ h4, h2, ?_⟩, (hB.mono (Nat.le_succ b)).setCell (p := ⟨b, 1, none⟩) (Nat.le_refl b) _⟩
  obtain ⟨q1, q2⟩ := ho
  refine ⟨q1, ?_⟩
  rcases q2 with h | ⟨g, cap', cur, e, b', c, r⟩
  · exact .inl h
  · exact .inr ⟨g, cap', cur, e, b', (Below.heap_setCell w2 ⟨b, 1, none⟩ _ g (by show g ≠ b; omega)).trans c, r⟩
set_option maxRecDepth 20000 in
set_option maxHeartbeats 1000000 in
theorem sbWrite_any (b : Nat) (l m : List UInt8) (w : World) (h : BtAt w b l) (hl : l.length + m.length ≤ 140737488355328) : Calls Tryz.prog 42 #[.pointer (some ⟨b, 0, none⟩), qv m] w fun e w' => e = .returned (.tuple #[.int .i64 (m.length : Int), .nilIface]) ∧ BtAt w' b (l ++ m) ∧ Below b w w' := by
  have HC := hide (sbCheck_any b l w h)
  have hbl := h.lt
  have HBL := hide hbl
  have HLen1 : Hid (l.length + (⟨m.toArray⟩ : ByteArray).size ≤ maxLen) := hide (by unfold maxLen; show l.length + m.length ≤ _; omega)
  have HLen2 : Hid (l.length + (⟨m.toArray⟩ : ByteArray).size ≤ 140737488355328) := hide hl
  obtain ⟨i0, hi, hz0, hz1, hz2⟩ := info_parts Tryz.info5
  have HI := hide (And.intro hi (And.intro hz0 (And.intro hz1 hz2)))
  clear h hbl hl hi hz0 hz1 hz2
  go_enter Tryz.func42, Tryz.ntmps42
  go_upto_region 2 with (go_at_call 66; refine (unhide HC).mono ?_; rintro e w1 ⟨rfl, t1, b1⟩; have HT := hide t1; have HB1 := hide b1; clear t1 b1)
  obtain ⟨p, v, h1, h2, h3⟩ := unhide HT
  obtain ⟨a, n, cap, rfl, hn⟩ : ∃ a n cap, v = .slice a n cap ∧ n = l.length := by
    obtain ⟨ao, cap, e, _⟩ := h3.sl; exact ⟨ao, _, cap, e, rfl⟩
  have c1 : w1.cell? ⟨b, 1, none⟩ = some (.slice a n cap) := (cell_of_row _ _ _ _ _ _ h1).trans rfl
  have H1 := hide h1
  have H2 := hide h2
  have H3 := hide h3
  have hb1 : b + 1 ≤ w1.heap.size := lt_of_block h1
  have HB2 := hide hb1
  clear h1 h2 h3 hn hb1
  go_wp2_with (at_builtin; refine Lib.wpList_append_own_string _ rfl (.tmp 12) (.tmp 13) 24 9 rfl (b + 1) 5 i0 Tryz.underlying24 Tryz.underlying9 (unhide HI).1 (unhide HI).2.1 (unhide HI).2.2.1 (unhide HI).2.2.2 _ l.length (l.map bv) rfl (unhide H3) ⟨m.toArray⟩ rfl (unhide HLen1) (unhide HLen2) (unhide HB2) ?_; intro v2 w2 o2 g2 _; obtain ⟨a2, n2, cap2, rfl, f1, c2, t2, b2⟩ := bt_grown (unhide H1) (unhide H2) (unhide H3) (unhide HB2) o2 g2; have HT2 := hide t2; have HBe := hide b2; clear o2 g2 t2 b2 c1)
  go_ret2
  exact ⟨rfl, unhide HT2, (unhide HB1).trans (unhide HBe)⟩

theorem sbString_any' (b : Nat) (l : List UInt8) (w : World) (h : BtAt w b l) : Calls Tryz.prog 44 #[.pointer (some ⟨b, 0, none⟩)] w fun e w' => e = .returned (qv l) ∧ Below b w w' := by
  have hlt := h.lt
  obtain ⟨p, v, h1, h2, h3⟩ := h
  have hb : Lib.BuilderAtF 62 5 b b p (Lib.byteCells l) w := by
    refine ⟨Nat.le_refl _, v, h1, ?_, ?_⟩
    · have := World.ownsRowF_of (h3.mono (Nat.le_succ b))
      rw [Lib.byteCells_length]
      exact this
    · rcases h3.2 with ⟨rfl, _⟩ | ⟨g, cap, cur, rfl, hb', _⟩
      · simp [Value.ownBlock]
      · simp only [Value.ownBlock, ne_eq, Option.some.injEq]; omega
  have hf : Lib.IsBuilderF 62 5 b b (Lib.byteCells l) w := by
    rcases h2 with rfl | rfl
    · exact .inl hb
    · exact .inr hb
  refine (Tryz.Builder_String_any_k b b l w hf (Nat.le_of_lt hlt)).mono ?_
  rintro e w' ⟨rfl, _, hB, _⟩
  exact ⟨rfl, hB⟩

/-! ### Chunks, plain -/
theorem qEnd_two (s : List UInt8) : qEnd s = (qNext s).then s fun b r => if b.toNat = 13 then qLF r else .no 400 := by
  rcases s with _ | ⟨b, _ | ⟨c, r⟩⟩
  · rfl
  · simp only [qEnd, qNext, Rs.then]
    by_cases h : b.toNat = 13 <;> simp [h, qLF]
  · simp only [qEnd, qNext, Rs.then, List.drop_succ_cons, List.drop_zero]
    by_cases h : b.toNat = 13
    · by_cases h2 : c.toNat = 10 <;> simp [h, h2, qLF]
    · simp [h]
theorem qChunks_succ (k : Nat) (body s : List UInt8) : qChunks (k + 1) body s = (qSizeL s).then s fun z r =>
      (if z = 0 then (qLine 0 r).then r fun m _ => if m = [] then .ok body 0 else .no 400
      else if body.length + z ≤ 1000 then (qTake z r).then r fun x t => (qEnd t).then t fun _ u => qChunks k (body ++ x) u
      else .no 413) := by
  rw [qChunks]
  unfold qSizeL
  cases qLine 0 s with
  | no e => rfl
  | ok l n =>
    simp only [Rs.then]
    cases qSize l <;> simp

/-- How far chunks is: the body so far, and the size z behind it. -/
structure ChAt (x body : List UInt8) (c n z : Nat) : Prop where
  len : body.length ≤ 1000
  eq : ∃ k, 1001 ≤ body.length + k ∧ qChunks 1001 [] x = (qChunks k body (x.drop c)).up c
  size : qSizeL (x.drop c) = .ok z n
theorem ChAt.step {x body : List UInt8} {c n z : Nat} (h : ChAt x body c n z) : ∃ k, 1000 ≤ body.length + k ∧ qChunks 1001 [] x = ((if z = 0 then (qLine 0 (x.drop (c + n))).then (x.drop (c + n)) fun m _ => if m = [] then .ok body 0 else .no 400
      else if body.length + z ≤ 1000 then (qTake z (x.drop (c + n))).then (x.drop (c + n)) fun y t => (qEnd t).then t fun _ u => qChunks k (body ++ y) u
      else .no 413).up n).up c := by
  obtain ⟨k, hk, he⟩ := h.eq
  obtain ⟨k, rfl⟩ : ∃ j, k = j + 1 := ⟨k - 1, by have := h.len; omega⟩
  exact ⟨k, by omega, by rw [he, qChunks_succ, then_ok h.size, List.drop_drop]⟩
theorem ChAt.last_no {x body : List UInt8} {c n : Nat} (h : ChAt x body c n 0) {s : Int} (hl : qLine 0 (x.drop (c + n)) = .no s) : qChunks 1001 [] x = .no s := by
  obtain ⟨k, _, e⟩ := h.step
  rw [e, if_pos rfl, then_no hl]; rfl
theorem ChAt.last_ok {x body : List UInt8} {c n m : Nat} (h : ChAt x body c n 0) (hl : qLine 0 (x.drop (c + n)) = .ok [] m) : qChunks 1001 [] x = .ok body (c + n + m) := by
  obtain ⟨k, _, e⟩ := h.step
  rw [e, if_pos rfl, then_ok hl, if_pos rfl]; simp [Rs.up, Nat.add_assoc]
theorem ChAt.last_bad {x body : List UInt8} {c n m : Nat} (h : ChAt x body c n 0) {l : List UInt8} (hl : qLine 0 (x.drop (c + n)) = .ok l m) (hne : l ≠ []) : qChunks 1001 [] x = .no 400 := by
  obtain ⟨k, _, e⟩ := h.step
  rw [e, if_pos rfl, then_ok hl, if_neg hne]; rfl
theorem ChAt.over {x body : List UInt8} {c n z : Nat} (h : ChAt x body c n z) (hz : z ≠ 0) (ho : ¬ body.length + z ≤ 1000) : qChunks 1001 [] x = .no 413 := by
  obtain ⟨k, _, e⟩ := h.step
  rw [e, if_neg hz, if_neg ho]; rfl
theorem ChAt.take_no {x body : List UInt8} {c n z : Nat} (h : ChAt x body c n z) (hz : z ≠ 0) (ho : body.length + z ≤ 1000) {s : Int} (ht : qTake z (x.drop (c + n)) = .no s) : qChunks 1001 [] x = .no s := by
  obtain ⟨k, _, e⟩ := h.step
  rw [e, if_neg hz, if_pos ho, then_no ht]; rfl
theorem ChAt.mid {x body : List UInt8} {c n z : Nat} (h : ChAt x body c n z) (hz : z ≠ 0) (ho : body.length + z ≤ 1000) {y : List UInt8} {m : Nat} (ht : qTake z (x.drop (c + n)) = .ok y m) : y.length = z ∧ m = z ∧ ∃ k, 1000 ≤ body.length + k ∧ qChunks 1001 [] x = ((((qEnd (x.drop (c + n + m))).then (x.drop (c + n + m)) fun _ u => qChunks k (body ++ y) u).up m).up n).up c := by
  obtain ⟨k, hk, e⟩ := h.step
  have hy : y.length = z ∧ m = z := by
    unfold qTake at ht
    split at ht
    · rename_i hle
      cases ht
      exact ⟨by rw [List.length_take]; omega, rfl⟩
    · cases ht
  refine ⟨hy.1, hy.2, k, hk, ?_⟩
  rw [e, if_neg hz, if_pos ho, then_ok ht, List.drop_drop]
theorem ChAt.end_no {x body : List UInt8} {c n z : Nat} (h : ChAt x body c n z) (hz : z ≠ 0) (ho : body.length + z ≤ 1000) {y : List UInt8} {m : Nat} (ht : qTake z (x.drop (c + n)) = .ok y m) {s : Int} (hE : qEnd (x.drop (c + n + m)) = .no s) : qChunks 1001 [] x = .no s := by
  obtain ⟨_, _, k, _, e⟩ := h.mid hz ho ht
  rw [e, then_no hE]; rfl
theorem qEnd_ok {s : List UInt8} {a : Unit} {m : Nat} (h : qEnd s = .ok a m) : m = 2 := by
  rcases s with _ | ⟨b, _ | ⟨c, r⟩⟩
  · cases h
  · simp only [qEnd] at h; split at h <;> cases h
  · simp only [qEnd] at h
    split at h
    · split at h
      · cases h; rfl
      · cases h
    · cases h
theorem ChAt.go {x body : List UInt8} {c n z : Nat} (h : ChAt x body c n z) (hz : z ≠ 0) (ho : body.length + z ≤ 1000) {y : List UInt8} {m : Nat} (ht : qTake z (x.drop (c + n)) = .ok y m) {a : Unit} {m2 : Nat} (hE : qEnd (x.drop (c + n + m)) = .ok a m2) : (body ++ y).length ≤ 1000 ∧ ∃ k, 1001 ≤ (body ++ y).length + k ∧ qChunks 1001 [] x = (qChunks k (body ++ y) (x.drop (c + n + m + 2))).up (c + n + m + 2) := by
  obtain ⟨hy, hm, k, hk, e⟩ := h.mid hz ho ht
  have := qEnd_ok hE
  subst this
  refine ⟨by rw [List.length_append]; omega, k, by rw [List.length_append]; omega, ?_⟩
  rw [e, then_ok hE, List.drop_drop, up_up, up_up, up_up]
theorem ChAt.next {x body : List UInt8} {c n z : Nat} (h : ChAt x body c n z) (hz : z ≠ 0) (ho : body.length + z ≤ 1000) {y : List UInt8} {m : Nat} (ht : qTake z (x.drop (c + n)) = .ok y m) {a : Unit} {m2 : Nat} (hE : qEnd (x.drop (c + n + m)) = .ok a m2) {z' n' : Nat} (hs : qSizeL (x.drop (c + n + m + 2)) = .ok z' n') : ChAt x (body ++ y) (c + n + m + 2) n' z' := by
  obtain ⟨h1, h2⟩ := h.go hz ho ht hE
  exact ⟨h1, h2, hs⟩
theorem ChAt.size_no {x body : List UInt8} {c n z : Nat} (h : ChAt x body c n z) (hz : z ≠ 0) (ho : body.length + z ≤ 1000) {y : List UInt8} {m : Nat} (ht : qTake z (x.drop (c + n)) = .ok y m) {a : Unit} {m2 : Nat} (hE : qEnd (x.drop (c + n + m)) = .ok a m2) {s : Int} (hs : qSizeL (x.drop (c + n + m + 2)) = .no s) : qChunks 1001 [] x = .no s := by
  obtain ⟨h1, k, hk, e⟩ := h.go hz ho ht hE
  obtain ⟨k, rfl⟩ : ∃ j, k = j + 1 := ⟨k - 1, by omega⟩
  rw [e, qChunks_succ, then_no hs]; rfl
theorem ChAt.first {x : List UInt8} {n z : Nat} (h : qSizeL x = .ok z n) : ChAt x [] 0 n z :=
  ⟨by simp, ⟨1001, by simp, by rw [List.drop_zero]; cases qChunks 1001 [] x <;> simp [Rs.up]⟩, by rw [List.drop_zero]; exact h⟩
theorem qChunks_no {x : List UInt8} {s : Int} (h : qSizeL x = .no s) : qChunks 1001 [] x = .no s := by rw [qChunks_succ, then_no h]
theorem qSizeL_lt {s : List UInt8} {z n : Nat} (h : qSizeL s = .ok z n) : z < 65536 := by
  unfold qSizeL at h
  cases hq : qLine 0 s with
  | no e => rw [hq] at h; cases h
  | ok l m =>
    rw [hq] at h
    simp only at h
    split at h
    · rename_i hs
      cases h
      obtain ⟨_, h4, ha⟩ := qSize_facts hs
      exact qSz_lt 4 l h4 ha
    · cases h
end Go.Proofs.YtankbanonbmffabGreatDoor
