/-
  DERIVED. A call is done on both devices.
-/
import Derived.Test.YtfoanlmmjbclgaaM3
import Derived.Test.YtfoanlmmjbclgaaM2
namespace Go.Proofs.Ytfoanlmmjbclgaa
open Go.RowKit
set_option linter.unusedVariables false
set_option maxRecDepth 20000

def DoPost (w0 W : World) (b rb N : Nat) (H : Nat → Prop) (e : Ending) (W' : World) : Prop := e = .returned (.bool true) ∧ Did w0 W W' b rb N H
theorem sl_nilB (w : World) : (convert 47 9 (.slice none 0 0)).run Try.prog w = .ok (.string ⟨#[]⟩) w := (show Sl w (.slice none 0 0) [] from ⟨none, 0, rfl, Nat.le_refl _, by unfold maxLen; omega, fun h => absurd rfl h⟩).str
theorem bytes_eqB (a : ByteArray) : (a.toList == a.toList) = true := by simp
theorem sl_blockB {w : World} {q : Nat} {L : List UInt8} {ty : TypeId} {fr : Nat × Nat} (h : w.heap[q]? = some (.cells (L.map bv).toArray ty fr)) (hL : L.length = 512) : Sl w (.slice (some ⟨q, 0, none⟩) 512 512) L := by
  refine ⟨some ⟨q, 0, none⟩, 512, by rw [hL], by rw [hL]; exact Nat.le_refl _, by unfold maxLen; omega, fun _ => ⟨q, 0, rfl, lt_of_block h, fun i hi => ?_⟩⟩
  rw [cell_of_row _ _ _ _ _ _ h]
  simp [hi]
/-- Behind memory of one's own ahead of it, and turned behind it. -/
theorem did_of {w0 W Wa Wb Wc : World} {b rb N : Nat} {T : St} {H H' : Nat → Prop} (ha : Below W.heap.size W Wa) (hl : ∀ q, H q → q < W.heap.size) (p : Pr w0 Wb b rb (N + 2) T H') (k : Kept H Wa Wb) (hh : ∀ q, H' q → H q ∨ (Wa.heap.size ≤ q ∧ q < Wb.heap.size)) (hc : Wb.heap.size ≤ Wc.heap.size) (hs : ∀ q, H' q → Wc.heap[q]? = Wb.heap[q]?) (hw : ∀ q, q < W.heap.size → Wc.heap[q]? = Wb.heap[q]?) (e1 : Wc.os = Wb.os) (e2 : Wc.tape = Wb.tape) (e3 : Wc.output = Wb.output) : Did w0 W Wc b rb N H := by
  have z1 := ha.size
  have z2 := k.size
  refine ⟨T, H', p.same hc hs, ⟨e1.trans (k.os.trans ha.os), e2.trans (k.tape.trans ha.tape), e3.trans (k.output.trans ha.output), by omega, fun q hq hn => ?_⟩, fun q hq => (hh q hq).imp id fun h => ⟨by omega, by omega⟩⟩
  rw [hw q hq, k.block q (by omega) hn]
  exact ha.block q hq
def cC (k : Int) (t : Bool) (n f : Int) (s : ByteArray) (v : Value) : Array Value := #[.int .i64 k, .bool t, .int .i64 n, .int .i64 f, .string s, v]
theorem conv_str (w : World) (s : ByteArray) (hl : s.size ≤ 9223372036854775807) : ∃ cap w', (convert 9 47 (.string s)).run Try.prog w = .ok (.slice (some ⟨w.heap.size, 0, none⟩) s.size cap) w' ∧ Sl w' (.slice (some ⟨w.heap.size, 0, none⟩) s.size cap) s.data.toList ∧ Below w.heap.size w w' := by
  refine ⟨_, _, run_bytes_of_string w 9 47 5 s Try.underlying9 Try.underlying47 Try.underlying5, ?_, ?_⟩
  · have hsz : s.data.toList.length = s.size := Array.length_toList
    refine ⟨_, _, by rw [hsz], by rw [hsz]; exact grownCap_ge _ _ _ _, grownCap_le_maxLen _ _ _ _ (by unfold maxLen; omega), fun _ => ⟨w.heap.size, 0, rfl, by simp, fun i hi => ?_⟩⟩
    have hg : (w.drew.alloc (.cells (bytesRow s (grownCap w s.size 0 5)) 5 ((bytesRow s (grownCap w s.size 0 5)).size, (bytesRow s (grownCap w s.size 0 5)).size + 1))).heap[w.heap.size]? = some (.cells (bytesRow s (grownCap w s.size 0 5)) 5 ((bytesRow s (grownCap w s.size 0 5)).size, (bytesRow s (grownCap w s.size 0 5)).size + 1)) := by
      show (w.heap.push _)[w.heap.size]? = _
      simp
    rw [cell_of_row _ _ _ _ _ _ hg, Nat.zero_add, bytesRow_at s _ i (by simpa using hi)]
    simp [bv]
  · exact ((Below.refl _ _).drew).alloc (by simp) _
theorem conv_row (w : World) (s : ByteArray) (w' : World) (cap : Nat) (h : (convert 9 47 (.string s)).run Try.prog w = .ok (.slice (some ⟨w.heap.size, 0, none⟩) s.size cap) w') : ∃ cs fr, w'.heap[w.heap.size]? = some (.cells cs 5 fr) ∧ s.size ≤ cs.size ∧ ∀ i, i < s.size → ¬ (fr.1 ≤ i ∧ i < fr.2) := by
  rw [run_bytes_of_string w 9 47 5 s Try.underlying9 Try.underlying47 Try.underlying5] at h
  injection h with _ h2
  have hsz : s.size ≤ (bytesRow s (grownCap w s.size 0 5)).size := by
    rcases Nat.lt_or_ge (bytesRow s (grownCap w s.size 0 5)).size s.size with hlt | hge
    · have := bytesRow_at s (grownCap w s.size 0 5) (bytesRow s (grownCap w s.size 0 5)).size (by simpa using hlt)
      simp at this
    · exact hge
  refine ⟨bytesRow s (grownCap w s.size 0 5), ((bytesRow s (grownCap w s.size 0 5)).size, (bytesRow s (grownCap w s.size 0 5)).size + 1), ?_, hsz, fun i hi hh => ?_⟩
  · rw [← h2]
    show (w.heap.push _)[w.heap.size]? = _
    simp
  · simp only at hh
    omega
theorem frozen_fr {w : World} {q j : Nat} {cs : Array Value} {t : TypeId} {fr : Nat × Nat} (h : w.heap[q]? = some (.cells cs t fr)) (hf : ¬ (fr.1 ≤ j ∧ j < fr.2)) : w.frozen? ⟨q, j, none⟩ = false := by
  obtain ⟨a, b⟩ := fr
  simp only [World.frozen?, h]
  simp at hf ⊢
  omega
theorem heap_setCell_fr {w : World} {q : Nat} {cs : Array Value} {t : TypeId} {fr : Nat × Nat} (h : w.heap[q]? = some (.cells cs t fr)) (j : Nat) (v : Value) : (w.setCell ⟨q, j, none⟩ v).heap[q]? = some (.cells (cs.setIfInBounds j v) t fr) := by simp [World.setCell, Array.getElem?_modify, h]
set_option maxHeartbeats 8000000 in
theorem do_other {w0 W : World} {b rb N : Nat} {S : St} {H : Nat → Prop} (h : Pr w0 W b rb N S H) (hN : N < 800000) (hw0 : w0.heap.size ≤ W.heap.size) (k : Int) (two : Bool) (n fill : Int) (n1 : -9223372036854775808 ≤ n) (n2 : n < 9223372036854775808) (f1 : -9223372036854775808 ≤ fill) (f2 : fill < 9223372036854775808) (hd : ByteArray) (hhd : hd.size ≤ 9223372036854775807) (pa : Option Addr) (pl pc : Nat) (pk : List Int) (hp : ∀ A, Kept H W A → Ints A (.slice pa pl pc) pk) (hk : k ≠ 1 ∧ k ≠ 2 ∧ k ≠ 3 ∧ k ≠ 4 ∧ k ≠ 5 ∧ k ≠ 6 ∧ k ≠ 8) :
    Calls Try.prog 9 #[.pointer (some ⟨b, 0, none⟩), .pointer (some ⟨rb, 0, none⟩), .agg #[.int .i64 k, .bool two, .int .i64 n, .int .i64 fill, .string hd, .slice pa pl pc]] W (DoPost w0 W b rb N H) := by
  obtain ⟨W1, hW1⟩ : ∃ W1, W1 = W.alloc (.cells #[.int .i64 k, .bool two, .int .i64 n, .int .i64 fill, .string hd, .slice pa pl pc] 37) := ⟨_, rfl⟩
  have hb1 : Below W.heap.size W W1 := by rw [hW1]; exact (Below.refl _ _).alloc (Nat.le_refl _) _
  obtain ⟨x, hx⟩ : ∃ x, x = W.heap.size := ⟨_, rfl⟩
  have bx1 : W1.heap[x]? = some (.cells #[.int .i64 k, .bool two, .int .i64 n, .int .i64 fill, .string hd, .slice pa pl pc] 37 (0, 0)) := by rw [hW1, hx]; exact heap_alloc_self _ _
  have P1 := hide (h.grown hb1)
  have HL : Hid (∀ q, H q → q < W.heap.size) := hide (fun q hq => (h.lo q hq).2)
  have HB1 := hide hb1
  have HW1 := hide hW1
  have HX := hide hx
  have HBX := hide bx1
  have HXH : Hid (¬ H x ∧ x < W1.heap.size) := hide ⟨fun hh => by have := (h.lo x hh).2; omega, lt_of_block bx1⟩
  have hz1 : W.heap.size ≤ W1.heap.size := hb1.size
  have HZ1 := hide hz1
  have HCX : Hid (∀ A, Kept H W1 A → A.cell? ⟨x, 2, none⟩ = some (.int .i64 n) ∧ A.cell? ⟨x, 5, none⟩ = some (.slice pa pl pc) ∧ A.cell? ⟨x, 4, none⟩ = some (.string hd) ∧ A.cell? ⟨x, 0, none⟩ = some (.int .i64 k)) := hide (fun A hA => by
    have e := (hA.block x (lt_of_block bx1) (unhide HXH).1).trans bx1
    exact ⟨(cell_of_row _ _ _ _ _ _ e).trans rfl, (cell_of_row _ _ _ _ _ _ e).trans rfl, (cell_of_row _ _ _ _ _ _ e).trans rfl, (cell_of_row _ _ _ _ _ _ e).trans rfl⟩)
  have HF := hide (did_of (Wc := W1) hb1 (unhide HL) ((unhide P1).mono (show N ≤ N + 2 by omega)) (Kept.refl H W1) (fun q hq => .inl hq) (Nat.le_refl _) (fun q _ => rfl) (fun q _ => rfl) rfl rfl rfl)
  have kb1 : (k == 1) = false := beq_eq_false_iff_ne.2 hk.1
  have kb2 : (k == 2) = false := beq_eq_false_iff_ne.2 hk.2.1
  have kb3 : (k == 3) = false := beq_eq_false_iff_ne.2 hk.2.2.1
  have kb4 : (k == 4) = false := beq_eq_false_iff_ne.2 hk.2.2.2.1
  have kb5 : (k == 5) = false := beq_eq_false_iff_ne.2 hk.2.2.2.2.1
  have kb6 : (k == 6) = false := beq_eq_false_iff_ne.2 hk.2.2.2.2.2.1
  have kb8 : (k == 8) = false := beq_eq_false_iff_ne.2 hk.2.2.2.2.2.2
  clear h hb1 bx1 hx hz1 hk
  go_enter Try.func9, Try.ntmps9
  go_wp2
  go_ret
  rw [← unhide HW1]
  exact ⟨rfl, unhide HF⟩
set_option maxHeartbeats 8000000 in
theorem do_asked {w0 W : World} {b rb N : Nat} {S : St} {H : Nat → Prop} (h : Pr w0 W b rb N S H) (hN : N < 800000) (hw0 : w0.heap.size ≤ W.heap.size) (two : Bool) (n fill : Int) (n1 : -9223372036854775808 ≤ n) (n2 : n < 9223372036854775808) (f1 : -9223372036854775808 ≤ fill) (f2 : fill < 9223372036854775808) (hd : ByteArray) (hhd : hd.size ≤ 9223372036854775807) (pa : Option Addr) (pl pc : Nat) (pk : List Int) (hp : ∀ A, Kept H W A → Ints A (.slice pa pl pc) pk) :
    Calls Try.prog 9 #[.pointer (some ⟨b, 0, none⟩), .pointer (some ⟨rb, 0, none⟩), .agg #[.int .i64 6, .bool two, .int .i64 n, .int .i64 fill, .string hd, .slice pa pl pc]] W (DoPost w0 W b rb N H) := by
  obtain ⟨W1, hW1⟩ : ∃ W1, W1 = W.alloc (.cells #[.int .i64 6, .bool two, .int .i64 n, .int .i64 fill, .string hd, .slice pa pl pc] 37) := ⟨_, rfl⟩
  have hb1 : Below W.heap.size W W1 := by rw [hW1]; exact (Below.refl _ _).alloc (Nat.le_refl _) _
  obtain ⟨x, hx⟩ : ∃ x, x = W.heap.size := ⟨_, rfl⟩
  have bx1 : W1.heap[x]? = some (.cells #[.int .i64 6, .bool two, .int .i64 n, .int .i64 fill, .string hd, .slice pa pl pc] 37 (0, 0)) := by rw [hW1, hx]; exact heap_alloc_self _ _
  have P1 := hide (h.grown hb1)
  have HL : Hid (∀ q, H q → q < W.heap.size) := hide (fun q hq => (h.lo q hq).2)
  have HB1 := hide hb1
  have HW1 := hide hW1
  have HX := hide hx
  have HBX := hide bx1
  have HXH : Hid (¬ H x ∧ x < W1.heap.size) := hide ⟨fun hh => by have := (h.lo x hh).2; omega, lt_of_block bx1⟩
  have hz1 : W.heap.size ≤ W1.heap.size := hb1.size
  have HZ1 := hide hz1
  have HCX : Hid (∀ A, Kept H W1 A → A.cell? ⟨x, 2, none⟩ = some (.int .i64 n) ∧ A.cell? ⟨x, 5, none⟩ = some (.slice pa pl pc) ∧ A.cell? ⟨x, 4, none⟩ = some (.string hd) ∧ A.cell? ⟨x, 0, none⟩ = some (.int .i64 6)) := hide (fun A hA => by
    have e := (hA.block x (lt_of_block bx1) (unhide HXH).1).trans bx1
    exact ⟨(cell_of_row _ _ _ _ _ _ e).trans rfl, (cell_of_row _ _ _ _ _ _ e).trans rfl, (cell_of_row _ _ _ _ _ _ e).trans rfl, (cell_of_row _ _ _ _ _ _ e).trans rfl⟩)
  have AS := hide (asked_go (unhide P1) (by omega))
  clear h hb1 bx1 hx hW1 hz1
  go_enter Try.func9, Try.ntmps9
  go_wp2_with fail
  rw [← unhide HW1, ← unhide HX]
  refine (unhide AS).mono ?_
  rintro e w2 ⟨rfl, b2⟩
  have HF := hide (did_of (Wc := w2) (unhide HB1) (unhide HL) ((unhide P1).mono (show N ≤ N + 2 by omega)) (Kept.refl H W1) (fun q hq => .inl hq) b2.size (fun q hq => b2.block q (by have := unhide HL q hq; have := unhide HZ1; omega)) (fun q hq => b2.block q (by have := unhide HZ1; omega)) b2.os b2.tape b2.output)
  clear b2 AS
  go_wp2
  go_ret
  exact ⟨rfl, unhide HF⟩
set_option maxHeartbeats 8000000 in
theorem do_flush {w0 W : World} {b rb N : Nat} {S : St} {H : Nat → Prop} (h : Pr w0 W b rb N S H) (hN : N < 800000) (hw0 : w0.heap.size ≤ W.heap.size) (two : Bool) (n fill : Int) (n1 : -9223372036854775808 ≤ n) (n2 : n < 9223372036854775808) (f1 : -9223372036854775808 ≤ fill) (f2 : fill < 9223372036854775808) (hd : ByteArray) (hhd : hd.size ≤ 9223372036854775807) (pa : Option Addr) (pl pc : Nat) (pk : List Int) (hp : ∀ A, Kept H W A → Ints A (.slice pa pl pc) pk) :
    Calls Try.prog 9 #[.pointer (some ⟨b, 0, none⟩), .pointer (some ⟨rb, 0, none⟩), .agg #[.int .i64 3, .bool two, .int .i64 n, .int .i64 fill, .string hd, .slice pa pl pc]] W (DoPost w0 W b rb N H) := by
  obtain ⟨W1, hW1⟩ : ∃ W1, W1 = W.alloc (.cells #[.int .i64 3, .bool two, .int .i64 n, .int .i64 fill, .string hd, .slice pa pl pc] 37) := ⟨_, rfl⟩
  have hb1 : Below W.heap.size W W1 := by rw [hW1]; exact (Below.refl _ _).alloc (Nat.le_refl _) _
  obtain ⟨x, hx⟩ : ∃ x, x = W.heap.size := ⟨_, rfl⟩
  have bx1 : W1.heap[x]? = some (.cells #[.int .i64 3, .bool two, .int .i64 n, .int .i64 fill, .string hd, .slice pa pl pc] 37 (0, 0)) := by rw [hW1, hx]; exact heap_alloc_self _ _
  have P1 := hide (h.grown hb1)
  have HL : Hid (∀ q, H q → q < W.heap.size) := hide (fun q hq => (h.lo q hq).2)
  have HB1 := hide hb1
  have HW1 := hide hW1
  have HX := hide hx
  have HBX := hide bx1
  have HXH : Hid (¬ H x ∧ x < W1.heap.size) := hide ⟨fun hh => by have := (h.lo x hh).2; omega, lt_of_block bx1⟩
  have hz1 : W.heap.size ≤ W1.heap.size := hb1.size
  have HZ1 := hide hz1
  have HCX : Hid (∀ A, Kept H W1 A → A.cell? ⟨x, 2, none⟩ = some (.int .i64 n) ∧ A.cell? ⟨x, 5, none⟩ = some (.slice pa pl pc) ∧ A.cell? ⟨x, 4, none⟩ = some (.string hd) ∧ A.cell? ⟨x, 0, none⟩ = some (.int .i64 3)) := hide (fun A hA => by
    have e := (hA.block x (lt_of_block bx1) (unhide HXH).1).trans bx1
    exact ⟨(cell_of_row _ _ _ _ _ _ e).trans rfl, (cell_of_row _ _ _ _ _ _ e).trans rfl, (cell_of_row _ _ _ _ _ _ e).trans rfl, (cell_of_row _ _ _ _ _ _ e).trans rfl⟩)
  have FL := hide (Flush_both (unhide P1) (by omega))
  clear h hb1 bx1 hx hW1 hz1
  go_enter Try.func9, Try.ntmps9
  go_wp2_with fail
  rw [← unhide HW1, ← unhide HX]
  refine (unhide FL).mono ?_
  rintro e w2 ⟨y, rfl, k2, c2⟩
  have C2 := hide c2
  clear c2 k2 FL
  go_wp2_with fail
  refine (unhide C2).mono ?_
  rintro e w3 ⟨rfl, T, p3, k3⟩
  have HF := hide (did_of (Wc := w3) (unhide HB1) (unhide HL) p3 k3 (fun q hq => .inl hq) (Nat.le_refl _) (fun q _ => rfl) (fun q _ => rfl) rfl rfl rfl)
  have hyy : (y == y) = true := by simp
  clear p3 k3 C2
  go_wp2
  go_ret
  exact ⟨by first | rfl | simp, unhide HF⟩
set_option maxHeartbeats 8000000 in
theorem do_fuse {w0 W : World} {b rb N : Nat} {S : St} {H : Nat → Prop} (h : Pr w0 W b rb N S H) (hN : N < 800000) (hw0 : w0.heap.size ≤ W.heap.size) (two : Bool) (n fill : Int) (n1 : -9223372036854775808 ≤ n) (n2 : n < 9223372036854775808) (f1 : -9223372036854775808 ≤ fill) (f2 : fill < 9223372036854775808) (hd : ByteArray) (hhd : hd.size ≤ 9223372036854775807) (pa : Option Addr) (pl pc : Nat) (pk : List Int) (hp : ∀ A, Kept H W A → Ints A (.slice pa pl pc) pk) :
    Calls Try.prog 9 #[.pointer (some ⟨b, 0, none⟩), .pointer (some ⟨rb, 0, none⟩), .agg #[.int .i64 4, .bool two, .int .i64 n, .int .i64 fill, .string hd, .slice pa pl pc]] W (DoPost w0 W b rb N H) := by
  obtain ⟨W1, hW1⟩ : ∃ W1, W1 = W.alloc (.cells #[.int .i64 4, .bool two, .int .i64 n, .int .i64 fill, .string hd, .slice pa pl pc] 37) := ⟨_, rfl⟩
  have hb1 : Below W.heap.size W W1 := by rw [hW1]; exact (Below.refl _ _).alloc (Nat.le_refl _) _
  obtain ⟨x, hx⟩ : ∃ x, x = W.heap.size := ⟨_, rfl⟩
  have bx1 : W1.heap[x]? = some (.cells #[.int .i64 4, .bool two, .int .i64 n, .int .i64 fill, .string hd, .slice pa pl pc] 37 (0, 0)) := by rw [hW1, hx]; exact heap_alloc_self _ _
  have P1 := hide (h.grown hb1)
  have HL : Hid (∀ q, H q → q < W.heap.size) := hide (fun q hq => (h.lo q hq).2)
  have HB1 := hide hb1
  have HW1 := hide hW1
  have HX := hide hx
  have HBX := hide bx1
  have HXH : Hid (¬ H x ∧ x < W1.heap.size) := hide ⟨fun hh => by have := (h.lo x hh).2; omega, lt_of_block bx1⟩
  have hz1 : W.heap.size ≤ W1.heap.size := hb1.size
  have HZ1 := hide hz1
  have HCX : Hid (∀ A, Kept H W1 A → A.cell? ⟨x, 2, none⟩ = some (.int .i64 n) ∧ A.cell? ⟨x, 5, none⟩ = some (.slice pa pl pc) ∧ A.cell? ⟨x, 4, none⟩ = some (.string hd) ∧ A.cell? ⟨x, 0, none⟩ = some (.int .i64 4)) := hide (fun A hA => by
    have e := (hA.block x (lt_of_block bx1) (unhide HXH).1).trans bx1
    exact ⟨(cell_of_row _ _ _ _ _ _ e).trans rfl, (cell_of_row _ _ _ _ _ _ e).trans rfl, (cell_of_row _ _ _ _ _ _ e).trans rfl, (cell_of_row _ _ _ _ _ _ e).trans rfl⟩)
  have FU : Hid (Calls Try.prog 24 #[.pointer (some ⟨b, 0, none⟩), .int .i64 n] W1.drew (OpBoth w0 W1.drew b rb N H 25 #[.pointer (some ⟨rb, 0, none⟩), .int .i64 n])) := hide (Fuse_both ((unhide P1).same (W' := W1.drew) (Nat.le_refl _) fun _ _ => rfl) n n1 n2)
  have S0 : Hid (W1.drew.cell? ⟨x, 2, none⟩ = some (.int .i64 n)) := hide (unhide HCX W1 (Kept.refl _ _)).1
  clear h hb1 bx1 hx hz1
  go_enter Try.func9, Try.ntmps9
  go_upto_region 26 with fail
  rw [← unhide HW1, ← unhide HX]
  clear hW1
  go_region_held3 (fun w' => w'.cell? ⟨x, 2, none⟩ = some (.int .i64 n))
    (first | exact unhide S0 | exact unhide S2 | exact unhide S3)
    (first
    | (go_at_call 24; refine (unhide FU).mono ?_; rintro e w2 ⟨y, rfl, k2, c2⟩; have C2 := hide c2; have S2 := hide (unhide HCX w2 ((show Kept H W1 W1.drew from ⟨rfl, rfl, rfl, Nat.le_refl _, fun _ _ _ => rfl⟩).trans k2)).1; clear c2 k2)
    | (go_at_call 25; refine (unhide C2).mono ?_; rintro e w3 ⟨rfl, T, p3, k3⟩; have HF := hide (did_of (Wa := W1.drew) (Wc := w3) (unhide HB1).drew (unhide HL) p3 k3 (fun q hq => .inl hq) (Nat.le_refl _) (fun q _ => rfl) (fun q _ => rfl) rfl rfl rfl); have S3 := hide (unhide HCX w3 ((show Kept H W1 W1.drew from ⟨rfl, rfl, rfl, Nat.le_refl _, fun _ _ _ => rfl⟩).trans k3)).1; have hyy : (y == y) = true := (by simp); clear p3 k3))
  all_goals
    go_wp2
    go_ret
    exact ⟨by first | rfl | simp, unhide HF⟩
set_option maxHeartbeats 8000000 in
theorem do_read {w0 W : World} {b rb N : Nat} {S : St} {H : Nat → Prop} (h : Pr w0 W b rb N S H) (hN : N < 800000) (hw0 : w0.heap.size ≤ W.heap.size) (two : Bool) (n fill : Int) (n1 : -9223372036854775808 ≤ n) (n2 : n < 9223372036854775808) (f1 : -9223372036854775808 ≤ fill) (f2 : fill < 9223372036854775808) (hd : ByteArray) (hhd : hd.size ≤ 9223372036854775807) (pa : Option Addr) (pl pc : Nat) (pk : List Int) (hp : ∀ A, Kept H W A → Ints A (.slice pa pl pc) pk) :
    Calls Try.prog 9 #[.pointer (some ⟨b, 0, none⟩), .pointer (some ⟨rb, 0, none⟩), .agg #[.int .i64 1, .bool two, .int .i64 n, .int .i64 fill, .string hd, .slice pa pl pc]] W (DoPost w0 W b rb N H) := by
  obtain ⟨W1, hW1⟩ : ∃ W1, W1 = W.alloc (.cells #[.int .i64 1, .bool two, .int .i64 n, .int .i64 fill, .string hd, .slice pa pl pc] 37) := ⟨_, rfl⟩
  have hb1 : Below W.heap.size W W1 := by rw [hW1]; exact (Below.refl _ _).alloc (Nat.le_refl _) _
  obtain ⟨x, hx⟩ : ∃ x, x = W.heap.size := ⟨_, rfl⟩
  have bx1 : W1.heap[x]? = some (.cells #[.int .i64 1, .bool two, .int .i64 n, .int .i64 fill, .string hd, .slice pa pl pc] 37 (0, 0)) := by rw [hW1, hx]; exact heap_alloc_self _ _
  have P1 := hide (h.grown hb1)
  have HL : Hid (∀ q, H q → q < W.heap.size) := hide (fun q hq => (h.lo q hq).2)
  have HB1 := hide hb1
  have HW1 := hide hW1
  have HX := hide hx
  have HBX := hide bx1
  have HXH : Hid (¬ H x ∧ x < W1.heap.size) := hide ⟨fun hh => by have := (h.lo x hh).2; omega, lt_of_block bx1⟩
  have hz1 : W.heap.size ≤ W1.heap.size := hb1.size
  have HZ1 := hide hz1
  have HCX : Hid (∀ A, Kept H W1 A → A.cell? ⟨x, 2, none⟩ = some (.int .i64 n) ∧ A.cell? ⟨x, 5, none⟩ = some (.slice pa pl pc) ∧ A.cell? ⟨x, 4, none⟩ = some (.string hd) ∧ A.cell? ⟨x, 0, none⟩ = some (.int .i64 1)) := hide (fun A hA => by
    have e := (hA.block x (lt_of_block bx1) (unhide HXH).1).trans bx1
    exact ⟨(cell_of_row _ _ _ _ _ _ e).trans rfl, (cell_of_row _ _ _ _ _ _ e).trans rfl, (cell_of_row _ _ _ _ _ _ e).trans rfl, (cell_of_row _ _ _ _ _ _ e).trans rfl⟩)
  have RD := hide (Read_both (unhide P1) (by omega) n)
  clear h hb1 bx1 hx hW1 hz1
  go_enter Try.func9, Try.ntmps9
  go_wp2_with fail
  rw [← unhide HW1, ← unhide HX]
  refine (unhide RD).mono ?_
  rintro e w2 ⟨y, k2, hh⟩
  have hyy : (y == y) = true := by simp
  have cx := (unhide HCX w2 k2).1
  rcases hh with ⟨rfl, c2⟩ | ⟨q, L, rfl, hq, hg, hL, c2⟩
  · have C2 := hide c2
    clear c2 k2 RD
    go_wp2_with fail
    refine (unhide C2).mono ?_
    rintro e w3 ⟨rfl, T, p3, k3⟩
    have HF := hide (did_of (Wc := w3) (unhide HB1) (unhide HL) p3 k3 (fun q hq => .inl hq) (Nat.le_refl _) (fun q _ => rfl) (fun q _ => rfl) rfl rfl rfl)
    have cv := sl_nilB w3
    clear p3 k3 C2 cx
    go_wp2_with fail
    go_loopw [12] (fun i Wr => i = .int .i64 (0 : Int) ∧ Wr = w3) (fun _ _ => 0)
    case atStart => exact ⟨rfl, rfl⟩
    case round =>
      obtain ⟨rfl, rfl⟩ := hrel
      go_wp2
      go_ret
      exact ⟨by first | rfl | simp, unhide HF⟩
  · have C2 := hide c2
    have HQ := hide hq
    have HG := hide hg
    have HLn := hide hL
    clear c2 k2 RD hq hg hL
    go_wp2_with fail
    refine (unhide C2).mono ?_
    rintro e w3 ⟨rfl, ⟨T, p3, k3⟩, hq3⟩
    have P3 := hide p3
    have K3 := hide k3
    have hg3 : w3.heap[q]? = some (.cells (L.map bv).toArray 60 (0, 0)) := hq3.trans (unhide HG)
    have cv := (sl_blockB hg3 (unhide HLn)).str
    obtain ⟨sn, hsn⟩ : ∃ sn : ByteArray, sn = ⟨L.toArray⟩ := ⟨_, rfl⟩
    have cv' : (convert 47 9 (.slice (some ⟨q, 0, none⟩) 512 512)).run Try.prog w3 = .ok (.string sn) w3 := by rw [hsn]; exact cv
    have e3 : sV L = .string sn := by rw [hsn]
    rw [e3]
    have hee := bytes_eqB sn
    have R3 : Hid (∃ cs, w3.heap[q]? = some (.cells cs 60 (0, 0)) ∧ cs.size = 512) := hide ⟨_, hg3, by simp; exact unhide HLn⟩
    clear p3 k3 C2 cx hg3 cv hsn e3 hq3
    go_wp2_with fail
    go_loopw [12] (fun i Wr => ∃ j : Nat, i = .int .i64 (j : Int) ∧ j ≤ 512 ∧ Hid (∃ cs, Wr.heap[q]? = some (.cells cs 60 (0, 0)) ∧ cs.size = 512) ∧ Hid (Wr.heap.size = w3.heap.size ∧ Wr.os = w3.os ∧ Wr.tape = w3.tape ∧ Wr.output = w3.output ∧ ∀ r, r ≠ q → Wr.heap[r]? = w3.heap[r]?)) (fun i _ => 512 - (intOf i).toNat)
    case atStart => exact ⟨0, rfl, by omega, R3, hide ⟨rfl, rfl, rfl, rfl, fun _ _ => rfl⟩⟩
    case round =>
      obtain ⟨j, rfl, hj, RJ, KJ⟩ := hrel
      clear R3
      by_cases hlt : j < 512
      · have hltI : (j : Int) < 512 := by omega
        obtain ⟨cs, hc, hs⟩ := unhide RJ
        have c0 : wr.cell? ⟨q, j, none⟩ = some (cs[j]'(by omega)) := by rw [cell_of_row _ _ _ _ _ _ hc]; exact Array.getElem?_eq_getElem (by omega)
        obtain ⟨old, hold⟩ : ∃ o, o = cs[j]'(by omega) := ⟨_, rfl⟩
        rw [← hold] at c0
        have f0 := frozen_of_row wr q j _ _ hc
        have FN : Hid ((∃ cs, (wr.setCell ⟨q, j, none⟩ (.int .u8 99)).heap[q]? = some (.cells cs 60 (0, 0)) ∧ cs.size = 512) ∧ ((wr.setCell ⟨q, j, none⟩ (.int .u8 99)).heap.size = w3.heap.size ∧ (wr.setCell ⟨q, j, none⟩ (.int .u8 99)).os = w3.os ∧ (wr.setCell ⟨q, j, none⟩ (.int .u8 99)).tape = w3.tape ∧ (wr.setCell ⟨q, j, none⟩ (.int .u8 99)).output = w3.output ∧ ∀ r, r ≠ q → (wr.setCell ⟨q, j, none⟩ (.int .u8 99)).heap[r]? = w3.heap[r]?)) := hide (by
          obtain ⟨y1, y2, y3, y4, y5⟩ := unhide KJ
          exact ⟨⟨_, heap_setCell_same wr q j _ _ _ hc, by rw [Array.size_setIfInBounds]; exact hs⟩, by simp [World.setCell]; exact y1, y2, y3, y4, fun r hr => by rw [heap_setCell_other _ _ _ _ hr]; exact y5 r hr⟩)
        have j0 : (0 : Int) ≤ (j : Int) := Int.natCast_nonneg _
        clear hc hs hold RJ KJ
        go_wp2
        go_roundw
        case rel => exact ⟨j + 1, by go_num, by omega, hide (unhide FN).1, hide (unhide FN).2⟩
        case measure => simp [intOf]; omega
      · have hltI : ¬ (j : Int) < 512 := by omega
        have HF : Hid (Did w0 W wr b rb N H) := hide (by
          obtain ⟨y1, y2, y3, y4, y5⟩ := unhide KJ
          have hqw := unhide HQ
          have hz := unhide HZ1
          exact did_of (unhide HB1) (unhide HL) (unhide P3) (unhide K3) (fun q hq => .inl hq) (by omega) (fun r hr => y5 r fun e => by have := unhide HL r hr; omega) (fun r hr => y5 r fun e => by omega) y2 y3 y4)
        clear RJ KJ
        go_wp2
        go_ret
        exact ⟨by first | rfl | simp [hee, hyy], unhide HF⟩
set_option maxHeartbeats 8000000 in
theorem do_write2 {w0 W : World} {b rb N : Nat} {S : St} {H : Nat → Prop} (h : Pr w0 W b rb N S H) (hN : N < 800000) (hw0 : w0.heap.size ≤ W.heap.size) (two : Bool) (n fill : Int) (n1 : -9223372036854775808 ≤ n) (n2 : n < 9223372036854775808) (f1 : -9223372036854775808 ≤ fill) (f2 : fill < 9223372036854775808) (hd : ByteArray) (hhd : hd.size ≤ 9223372036854775807) (pa : Option Addr) (pl pc : Nat) (pk : List Int) (hp : ∀ A, Kept H W A → Ints A (.slice pa pl pc) pk) :
    Calls Try.prog 9 #[.pointer (some ⟨b, 0, none⟩), .pointer (some ⟨rb, 0, none⟩), .agg #[.int .i64 2, .bool two, .int .i64 n, .int .i64 fill, .string hd, .slice pa pl pc]] W (DoPost w0 W b rb N H) := by
  obtain ⟨W1, hW1⟩ : ∃ W1, W1 = W.alloc (.cells #[.int .i64 2, .bool two, .int .i64 n, .int .i64 fill, .string hd, .slice pa pl pc] 37) := ⟨_, rfl⟩
  have hb1 : Below W.heap.size W W1 := by rw [hW1]; exact (Below.refl _ _).alloc (Nat.le_refl _) _
  obtain ⟨x, hx⟩ : ∃ x, x = W.heap.size := ⟨_, rfl⟩
  have bx1 : W1.heap[x]? = some (.cells #[.int .i64 2, .bool two, .int .i64 n, .int .i64 fill, .string hd, .slice pa pl pc] 37 (0, 0)) := by rw [hW1, hx]; exact heap_alloc_self _ _
  have P1 := hide (h.grown hb1)
  have HL : Hid (∀ q, H q → q < W.heap.size) := hide (fun q hq => (h.lo q hq).2)
  have HB1 := hide hb1
  have HW1 := hide hW1
  have HX := hide hx
  have HBX := hide bx1
  have HXH : Hid (¬ H x ∧ x < W1.heap.size) := hide ⟨fun hh => by have := (h.lo x hh).2; omega, lt_of_block bx1⟩
  have hz1 : W.heap.size ≤ W1.heap.size := hb1.size
  have HZ1 := hide hz1
  have HCX : Hid (∀ A, Kept H W1 A → A.cell? ⟨x, 2, none⟩ = some (.int .i64 n) ∧ A.cell? ⟨x, 5, none⟩ = some (.slice pa pl pc) ∧ A.cell? ⟨x, 4, none⟩ = some (.string hd) ∧ A.cell? ⟨x, 0, none⟩ = some (.int .i64 2)) := hide (fun A hA => by
    have e := (hA.block x (lt_of_block bx1) (unhide HXH).1).trans bx1
    exact ⟨(cell_of_row _ _ _ _ _ _ e).trans rfl, (cell_of_row _ _ _ _ _ _ e).trans rfl, (cell_of_row _ _ _ _ _ _ e).trans rfl, (cell_of_row _ _ _ _ _ _ e).trans rfl⟩)
  have BK := hide (Block_any fill hd W1 f1 f2)
  clear h hb1 bx1 hx hW1 hz1
  go_enter Try.func9, Try.ntmps9
  go_wp2_with fail
  rw [← unhide HW1, ← unhide HX]
  refine (unhide BK).mono ?_
  rintro e wd ⟨rfl, hrow, bd⟩
  obtain ⟨dq, hdq⟩ : ∃ dq, dq = W1.heap.size := ⟨_, rfl⟩
  rw [← hdq] at hrow ⊢
  obtain ⟨L, hL⟩ : ∃ L, L = headL hd (fillL (UInt8.ofNat (pickR fill 255)) 512) := ⟨_, rfl⟩
  rw [← hL] at hrow
  have hl5 : L.length = 512 := by rw [hL]; exact headL_len _ _
  have hsl : Sl wd (.slice (some ⟨dq, 0, none⟩) 512 512) L := hrow.sl hl5
  have BD := hide bd
  have hdl : dq < wd.heap.size := lt_of_block hrow
  have R3 : Hid (∃ cs fr, wd.heap[dq]? = some (.cells cs 5 fr) ∧ 512 ≤ cs.size ∧ ∀ i, i < 512 → ¬ (fr.1 ≤ i ∧ i < fr.2)) := hide ⟨_, (0, 0), hrow, by simp; omega, fun i _ => by simp⟩
  obtain ⟨dm, hdm⟩ : ∃ dm : Nat, dm = 512 := ⟨_, rfl⟩
  obtain ⟨dc, hdc⟩ : ∃ dc : Nat, dc = 512 := ⟨_, rfl⟩
  have cd0 : wd.cell? ⟨x, 0, none⟩ = some (.int .i64 2) := (unhide HCX wd (Kept.of_below bd)).2.2.2
  have cd2 : wd.cell? ⟨x, 2, none⟩ = some (.int .i64 n) := (unhide HCX wd (Kept.of_below bd)).1
  have HBD : Hid (Below W.heap.size W wd) := hide ((unhide HB1).trans (bd.mono (unhide HZ1)))
  have PD : Hid (Pr w0 wd b rb N S H) := hide ((unhide P1).grown bd)
  have HDQ : Hid (W.heap.size ≤ dq) := hide (by have := unhide HZ1; omega)
  have HCW : Hid (Kept H W1 wd) := hide (Kept.of_below bd)
  have WB := hide (Write_both (unhide PD) (by omega) (by have := (unhide HBD).size; omega) n (some ⟨dq, 0, none⟩) 512 512 L hsl (fun _ ad e hh => by cases e; have := unhide HL _ hh; have := unhide HDQ; simp only at *; omega))
  clear hrow bd hdq hL hl5 hsl BK hdm hdc
  go_wp2_with fail
  refine (unhide WB).mono ?_
  rintro e w2 ⟨y, rfl, k2, c2⟩
  have hyy : (y == y) = true := by simp
  have C2 := hide c2
  have cx2 : w2.cell? ⟨x, 2, none⟩ = some (.int .i64 n) := (unhide HCX w2 ((unhide HCW).trans k2)).1
  clear c2 k2 WB
  go_wp2_with fail
  refine (unhide C2).mono ?_
  rintro e w3 ⟨rfl, T, H', p3, k3, l3⟩
  have P3 := hide p3
  have K3 := hide k3
  have L3 := hide l3
  have hnd : ¬ H' dq := fun hh => by
    rcases l3 dq hh with h1 | h1
    · have := unhide HL dq h1; have := unhide HDQ; omega
    · omega
  have HND := hide hnd
  have R4 : Hid (∃ cs fr, w3.heap[dq]? = some (.cells cs 5 fr) ∧ 512 ≤ cs.size ∧ ∀ i, i < 512 → ¬ (fr.1 ≤ i ∧ i < fr.2)) := hide (by
    obtain ⟨cs, fr, hg, r⟩ := unhide R3
    exact ⟨cs, fr, (k3.block dq hdl fun hh => by have := unhide HL dq hh; have := unhide HDQ; omega).trans hg, r⟩)
  clear p3 k3 l3 hnd C2 cx2 R3
  go_wp2_with fail
  go_loopw [16] (fun i Wr => ∃ j : Nat, i = .int .i64 (j : Int) ∧ j ≤ 512 ∧ Hid (∃ cs fr, Wr.heap[dq]? = some (.cells cs 5 fr) ∧ 512 ≤ cs.size ∧ ∀ i, i < 512 → ¬ (fr.1 ≤ i ∧ i < fr.2)) ∧ Hid (Wr.heap.size = w3.heap.size ∧ Wr.os = w3.os ∧ Wr.tape = w3.tape ∧ Wr.output = w3.output ∧ ∀ r, r ≠ dq → Wr.heap[r]? = w3.heap[r]?)) (fun i _ => 512 - (intOf i).toNat)
  case atStart => exact ⟨0, rfl, by omega, R4, hide ⟨rfl, rfl, rfl, rfl, fun _ _ => rfl⟩⟩
  case round =>
    obtain ⟨j, rfl, hj, RJ, KJ⟩ := hrel
    clear R4
    by_cases hlt : j < 512
    · have hltI : (j : Int) < 512 := by omega
      obtain ⟨cs, fr, hc, hs, hf⟩ := unhide RJ
      have c0 : wr.cell? ⟨dq, j, none⟩ = some (cs[j]'(by omega)) := by rw [cell_of_row _ _ _ _ _ _ hc]; exact Array.getElem?_eq_getElem (by omega)
      obtain ⟨old, hold⟩ : ∃ o, o = cs[j]'(by omega) := ⟨_, rfl⟩
      rw [← hold] at c0
      have f0 : wr.frozen? ⟨dq, j, none⟩ = false := frozen_fr hc (hf j hlt)
      have FN : Hid ((∃ cs fr, (wr.setCell ⟨dq, j, none⟩ (.int .u8 98)).heap[dq]? = some (.cells cs 5 fr) ∧ 512 ≤ cs.size ∧ ∀ i, i < 512 → ¬ (fr.1 ≤ i ∧ i < fr.2)) ∧ ((wr.setCell ⟨dq, j, none⟩ (.int .u8 98)).heap.size = w3.heap.size ∧ (wr.setCell ⟨dq, j, none⟩ (.int .u8 98)).os = w3.os ∧ (wr.setCell ⟨dq, j, none⟩ (.int .u8 98)).tape = w3.tape ∧ (wr.setCell ⟨dq, j, none⟩ (.int .u8 98)).output = w3.output ∧ ∀ r, r ≠ dq → (wr.setCell ⟨dq, j, none⟩ (.int .u8 98)).heap[r]? = w3.heap[r]?)) := hide (by
        obtain ⟨y1, y2, y3, y4, y5⟩ := unhide KJ
        exact ⟨⟨_, fr, heap_setCell_fr hc j _, by rw [Array.size_setIfInBounds]; exact hs, hf⟩, by simp [World.setCell]; exact y1, y2, y3, y4, fun r hr => by rw [heap_setCell_other _ _ _ _ hr]; exact y5 r hr⟩)
      have j0 : (0 : Int) ≤ (j : Int) := Int.natCast_nonneg _
      clear hc hs hf hold RJ KJ
      go_wp2
      go_roundw
      case rel => exact ⟨j + 1, by go_num, by omega, hide (unhide FN).1, hide (unhide FN).2⟩
      case measure => simp [intOf]; omega
    · have hltI : ¬ (j : Int) < 512 := by omega
      have HF : Hid (Did w0 W wr b rb N H) := hide (by
        obtain ⟨y1, y2, y3, y4, y5⟩ := unhide KJ
        have hqw := unhide HDQ
        have hz := (unhide HBD).size
        exact did_of (Wa := wd) (unhide HBD) (unhide HL) (unhide P3) (unhide K3) (unhide L3) (by omega) (fun r hr => y5 r fun e => unhide HND (e ▸ hr)) (fun r hr => y5 r fun e => by omega) y2 y3 y4)
      clear RJ KJ
      go_wp2
      go_ret
      exact ⟨by first | rfl | simp [hyy], unhide HF⟩
set_option maxHeartbeats 8000000 in
theorem do_write8 {w0 W : World} {b rb N : Nat} {S : St} {H : Nat → Prop} (h : Pr w0 W b rb N S H) (hN : N < 800000) (hw0 : w0.heap.size ≤ W.heap.size) (two : Bool) (n fill : Int) (n1 : -9223372036854775808 ≤ n) (n2 : n < 9223372036854775808) (f1 : -9223372036854775808 ≤ fill) (f2 : fill < 9223372036854775808) (hd : ByteArray) (hhd : hd.size ≤ 9223372036854775807) (pa : Option Addr) (pl pc : Nat) (pk : List Int) (hp : ∀ A, Kept H W A → Ints A (.slice pa pl pc) pk) :
    Calls Try.prog 9 #[.pointer (some ⟨b, 0, none⟩), .pointer (some ⟨rb, 0, none⟩), .agg #[.int .i64 8, .bool two, .int .i64 n, .int .i64 fill, .string hd, .slice pa pl pc]] W (DoPost w0 W b rb N H) := by
  obtain ⟨W1, hW1⟩ : ∃ W1, W1 = W.alloc (.cells #[.int .i64 8, .bool two, .int .i64 n, .int .i64 fill, .string hd, .slice pa pl pc] 37) := ⟨_, rfl⟩
  have hb1 : Below W.heap.size W W1 := by rw [hW1]; exact (Below.refl _ _).alloc (Nat.le_refl _) _
  obtain ⟨x, hx⟩ : ∃ x, x = W.heap.size := ⟨_, rfl⟩
  have bx1 : W1.heap[x]? = some (.cells #[.int .i64 8, .bool two, .int .i64 n, .int .i64 fill, .string hd, .slice pa pl pc] 37 (0, 0)) := by rw [hW1, hx]; exact heap_alloc_self _ _
  have P1 := hide (h.grown hb1)
  have HL : Hid (∀ q, H q → q < W.heap.size) := hide (fun q hq => (h.lo q hq).2)
  have HB1 := hide hb1
  have HW1 := hide hW1
  have HX := hide hx
  have HBX := hide bx1
  have HXH : Hid (¬ H x ∧ x < W1.heap.size) := hide ⟨fun hh => by have := (h.lo x hh).2; omega, lt_of_block bx1⟩
  have hz1 : W.heap.size ≤ W1.heap.size := hb1.size
  have HZ1 := hide hz1
  have HCX : Hid (∀ A, Kept H W1 A → A.cell? ⟨x, 2, none⟩ = some (.int .i64 n) ∧ A.cell? ⟨x, 5, none⟩ = some (.slice pa pl pc) ∧ A.cell? ⟨x, 4, none⟩ = some (.string hd) ∧ A.cell? ⟨x, 0, none⟩ = some (.int .i64 8)) := hide (fun A hA => by
    have e := (hA.block x (lt_of_block bx1) (unhide HXH).1).trans bx1
    exact ⟨(cell_of_row _ _ _ _ _ _ e).trans rfl, (cell_of_row _ _ _ _ _ _ e).trans rfl, (cell_of_row _ _ _ _ _ _ e).trans rfl, (cell_of_row _ _ _ _ _ _ e).trans rfl⟩)
  have BK := hide (Block_any fill hd W1 f1 f2)
  clear h hb1 bx1 hx hW1 hz1
  go_enter Try.func9, Try.ntmps9
  go_wp2_with fail
  rw [← unhide HW1, ← unhide HX]
  refine (unhide BK).mono ?_
  rintro e we ⟨rfl, _, be⟩
  obtain ⟨dc, wd, cv, sl7, b7⟩ := conv_str we hd hhd
  have hfr := conv_row we hd wd dc cv
  obtain ⟨dm, hdm⟩ : ∃ dm, dm = hd.size := ⟨_, rfl⟩
  obtain ⟨dq, hdq⟩ : ∃ dq, dq = we.heap.size := ⟨_, rfl⟩
  rw [← hdm] at cv sl7 hfr
  have hfr2 := hfr
  rw [← hdq] at cv sl7 hfr2
  obtain ⟨L, hL⟩ : ∃ L, L = hd.data.toList := ⟨_, rfl⟩
  rw [← hL] at sl7
  have hze := be.size
  have bd : Below W1.heap.size W1 wd := be.trans (b7.mono be.size)
  have R3 : Hid (∃ cs fr, wd.heap[dq]? = some (.cells cs 5 fr) ∧ dm ≤ cs.size ∧ ∀ i, i < dm → ¬ (fr.1 ≤ i ∧ i < fr.2)) := hide hfr2
  have hdl : dq < wd.heap.size := by obtain ⟨cs, fr, hg, _⟩ := hfr2; exact lt_of_block hg
  have ce0 : we.cell? ⟨x, 0, none⟩ = some (.int .i64 8) := (unhide HCX we (Kept.of_below be)).2.2.2
  have ce4 : we.cell? ⟨x, 4, none⟩ = some (.string hd) := (unhide HCX we (Kept.of_below be)).2.2.1
  have cd2 : wd.cell? ⟨x, 2, none⟩ = some (.int .i64 n) := (unhide HCX wd (Kept.of_below bd)).1
  have HBD : Hid (Below W.heap.size W wd) := hide ((unhide HB1).trans (bd.mono (unhide HZ1)))
  have PD : Hid (Pr w0 wd b rb N S H) := hide ((unhide P1).grown bd)
  have HDQ : Hid (W.heap.size ≤ dq) := hide (by have := unhide HZ1; omega)
  have HCW : Hid (Kept H W1 wd) := hide (Kept.of_below bd)
  have hdmI : (dm : Int) ≤ 9223372036854775807 := by omega
  have WB := hide (Write_both (unhide PD) (by omega) (by have := (unhide HBD).size; omega) n (some ⟨dq, 0, none⟩) dm dc L sl7 (fun _ ad e hh => by cases e; have := unhide HL _ hh; have := unhide HDQ; simp only at *; omega))
  clear hfr hfr2 bd be b7 hdq hL sl7 BK hdm hze
  go_wp2_with fail
  refine (unhide WB).mono ?_
  rintro e w2 ⟨y, rfl, k2, c2⟩
  have hyy : (y == y) = true := by simp
  have C2 := hide c2
  have cx2 : w2.cell? ⟨x, 2, none⟩ = some (.int .i64 n) := (unhide HCX w2 ((unhide HCW).trans k2)).1
  clear c2 k2 WB
  go_wp2_with fail
  refine (unhide C2).mono ?_
  rintro e w3 ⟨rfl, T, H', p3, k3, l3⟩
  have P3 := hide p3
  have K3 := hide k3
  have L3 := hide l3
  have hnd : ¬ H' dq := fun hh => by
    rcases l3 dq hh with h1 | h1
    · have := unhide HL dq h1; have := unhide HDQ; omega
    · omega
  have HND := hide hnd
  have R4 : Hid (∃ cs fr, w3.heap[dq]? = some (.cells cs 5 fr) ∧ dm ≤ cs.size ∧ ∀ i, i < dm → ¬ (fr.1 ≤ i ∧ i < fr.2)) := hide (by
    obtain ⟨cs, fr, hg, r⟩ := unhide R3
    exact ⟨cs, fr, (k3.block dq hdl fun hh => by have := unhide HL dq hh; have := unhide HDQ; omega).trans hg, r⟩)
  clear p3 k3 l3 hnd C2 cx2 R3
  go_wp2_with fail
  go_loopw [16] (fun i Wr => ∃ j : Nat, i = .int .i64 (j : Int) ∧ j ≤ dm ∧ Hid (∃ cs fr, Wr.heap[dq]? = some (.cells cs 5 fr) ∧ dm ≤ cs.size ∧ ∀ i, i < dm → ¬ (fr.1 ≤ i ∧ i < fr.2)) ∧ Hid (Wr.heap.size = w3.heap.size ∧ Wr.os = w3.os ∧ Wr.tape = w3.tape ∧ Wr.output = w3.output ∧ ∀ r, r ≠ dq → Wr.heap[r]? = w3.heap[r]?)) (fun i _ => dm - (intOf i).toNat)
  case atStart => exact ⟨0, rfl, by omega, R4, hide ⟨rfl, rfl, rfl, rfl, fun _ _ => rfl⟩⟩
  case round =>
    obtain ⟨j, rfl, hj, RJ, KJ⟩ := hrel
    clear R4
    by_cases hlt : j < dm
    · have hltI : (j : Int) < (dm : Int) := by omega
      obtain ⟨cs, fr, hc, hs, hf⟩ := unhide RJ
      have c0 : wr.cell? ⟨dq, j, none⟩ = some (cs[j]'(by omega)) := by rw [cell_of_row _ _ _ _ _ _ hc]; exact Array.getElem?_eq_getElem (by omega)
      obtain ⟨old, hold⟩ : ∃ o, o = cs[j]'(by omega) := ⟨_, rfl⟩
      rw [← hold] at c0
      have f0 : wr.frozen? ⟨dq, j, none⟩ = false := frozen_fr hc (hf j hlt)
      have FN : Hid ((∃ cs fr, (wr.setCell ⟨dq, j, none⟩ (.int .u8 98)).heap[dq]? = some (.cells cs 5 fr) ∧ dm ≤ cs.size ∧ ∀ i, i < dm → ¬ (fr.1 ≤ i ∧ i < fr.2)) ∧ ((wr.setCell ⟨dq, j, none⟩ (.int .u8 98)).heap.size = w3.heap.size ∧ (wr.setCell ⟨dq, j, none⟩ (.int .u8 98)).os = w3.os ∧ (wr.setCell ⟨dq, j, none⟩ (.int .u8 98)).tape = w3.tape ∧ (wr.setCell ⟨dq, j, none⟩ (.int .u8 98)).output = w3.output ∧ ∀ r, r ≠ dq → (wr.setCell ⟨dq, j, none⟩ (.int .u8 98)).heap[r]? = w3.heap[r]?)) := hide (by
        obtain ⟨y1, y2, y3, y4, y5⟩ := unhide KJ
        exact ⟨⟨_, fr, heap_setCell_fr hc j _, by rw [Array.size_setIfInBounds]; exact hs, hf⟩, by simp [World.setCell]; exact y1, y2, y3, y4, fun r hr => by rw [heap_setCell_other _ _ _ _ hr]; exact y5 r hr⟩)
      have j0 : (0 : Int) ≤ (j : Int) := Int.natCast_nonneg _
      clear hc hs hf hold RJ KJ
      go_wp2
      go_roundw
      case rel => exact ⟨j + 1, by go_num, by omega, hide (unhide FN).1, hide (unhide FN).2⟩
      case measure => simp [intOf]; omega
    · have hltI : ¬ (j : Int) < (dm : Int) := by omega
      have HF : Hid (Did w0 W wr b rb N H) := hide (by
        obtain ⟨y1, y2, y3, y4, y5⟩ := unhide KJ
        have hqw := unhide HDQ
        have hz := (unhide HBD).size
        exact did_of (Wa := wd) (unhide HBD) (unhide HL) (unhide P3) (unhide K3) (unhide L3) (by omega) (fun r hr => y5 r fun e => unhide HND (e ▸ hr)) (fun r hr => y5 r fun e => by omega) y2 y3 y4)
      clear RJ KJ
      go_wp2
      go_ret
      exact ⟨by first | rfl | simp [hyy], unhide HF⟩
end Go.Proofs.Ytfoanlmmjbclgaa

/-
  DERIVED. Both devices crash, by picks.
-/
namespace Go.Proofs.Ytfoanlmmjbclgaa
open Go.RowKit
set_option linter.unusedVariables false
set_option maxRecDepth 20000

/-- Integers of one's own. -/
def IOwn (w : World) (base : Nat) (v : Value) (l : List Int) : Prop := w.ownsRow base 3 1 v l.length (l.map (Value.int .i64))
theorem IOwn.keptB {w w' : World} {base : Nat} {v : Value} {l : List Int} (h : IOwn w base v l) (hk : ∀ q, v.ownBlock = some q → q < w.heap.size → w'.heap[q]? = w.heap[q]?) : IOwn w' base v l := by
  obtain ⟨h1, h2⟩ := h
  refine ⟨h1, ?_⟩
  rcases h2 with h2 | ⟨q, cap, cur, rfl, hb, hg, r⟩
  · exact .inl h2
  · exact .inr ⟨q, cap, cur, rfl, hb, (hk q rfl (lt_of_block hg)).trans hg, r⟩
theorem wpList_append_picks {w : World} {ops : Array Oper} {rest : List Oper} {o : Oper} {a : Act} {Q : Exit → Act → World → Prop} (hgd : o.guard = none) (s x : Operand)
    (ho : o.op = .call { callee := .builtin .append, args := #[s, x], argTypes := #[35, 35] })
    (base : Nat) (v : Value) (hs : a.eval s = v) (hown : w.ownsRow base 3 1 v 0 [])
    (pa : Option Addr) (pl pc : Nat) (pk : List Int) (hx : a.eval x = .slice pa pl pc) (hI : Ints w (.slice pa pl pc) pk) (hnil : pa = none → pl = 0 ∧ pc = 0) (hl : pk.length * 8 ≤ 140737488351232) (hbase : base ≤ w.heap.size)
    (h : ∀ v' w', IOwn w' base v' pk → w.grownBy w' v.ownBlock → wpList Try.prog ops Q rest (a.put o.dst v') w') : wpList Try.prog ops Q (o :: rest) a w := by
  obtain ⟨i0, hi, hz0, hz1, hz2⟩ := info_partsB infoK
  obtain ⟨ao, cap, e, hm, _, hc⟩ := hI
  injection e with e1 e2 e3
  cases pa with
  | none =>
    obtain ⟨rfl, rfl⟩ := hnil rfl
    have hp : pk = [] := List.eq_nil_of_length_eq_zero e2.symm
    subst hp
    refine wpList_append_own_none hgd s x 35 ho base 3 i0 1 Try.underlying35 hi v 0 [] hs hown hx ?_
    exact h v w hown ⟨rfl, rfl, rfl, Nat.le_refl _, fun _ _ _ => rfl⟩
  | some ad =>
    refine wpList_append_own w hgd s x 35 ho base 3 i0 (.int .i64 0) 1 8 Try.underlying35 hi hz0 hz1 hz2 rfl (by decide) v 0 [] hs hown ad pl pc (pk.map (Value.int .i64)) hx (by rw [List.length_map]; omega) (fun j u hj => ?_) ?_ (by unfold maxLen; omega) (by omega) hbase ?_
    · rw [List.getElem?_map] at hj
      by_cases hjl : j < pk.length
      · rw [List.getElem?_eq_getElem hjl] at hj
        simp only [Option.map_some, Option.some.injEq] at hj
        obtain ⟨pb, off, e4, _, hcell⟩ := hc (fun e => by rw [e] at hjl; simp at hjl)
        rw [e4] at e1
        cases e1
        rw [addr_add, hcell j hjl, hj]
      · rw [List.getElem?_eq_none (by omega)] at hj
        cases hj
    · intro u hu
      obtain ⟨z, _, rfl⟩ := List.mem_map.1 hu
      rfl
    · intro v' w' ho' hgr _
      refine h v' w' ?_ hgr
      rw [Nat.zero_add, List.nil_append, e2] at ho'
      exact ho'
theorem wpList_append_seven {w : World} {ops : Array Oper} {rest : List Oper} {o : Oper} {a : Act} {Q : Exit → Act → World → Prop} (hgd : o.guard = none) (s x : Operand)
    (ho : o.op = .call { callee := .builtin .append, args := #[s, x], argTypes := #[35, 35] })
    (base : Nat) (v : Value) (l : List Int) (hs : a.eval s = v) (hown : IOwn w base v l) (hj : l.length * 8 ≤ 140737488351232)
    (ad : Addr) (c : Nat) (hx : a.eval x = .slice (some ad) 1 c) (hy : ∀ j u, [Value.int .i64 7][j]? = some u → w.cell? (ad.add j) = some u) (hbase : base ≤ w.heap.size)
    (h : ∀ v' w', IOwn w' base v' (l ++ [7]) → w.grownBy w' v.ownBlock → wpList Try.prog ops Q rest (a.put o.dst v') w') : wpList Try.prog ops Q (o :: rest) a w := by
  obtain ⟨i0, hi, hz0, hz1, hz2⟩ := info_partsB infoK
  refine wpList_append_own w hgd s x 35 ho base 3 i0 (.int .i64 0) 1 8 Try.underlying35 hi hz0 hz1 hz2 rfl (by decide) v l.length _ hs hown ad 1 c [.int .i64 7] hx (by simp) hy ?_ (by unfold maxLen; omega) (by omega) hbase ?_
  · intro u hu
    obtain rfl : u = .int .i64 7 := by simpa using hu
    rfl
  · intro v' w' ho' hgr _
    refine h v' w' ?_ hgr
    unfold IOwn
    rw [List.length_append, List.map_append]
    exact ho'
set_option maxHeartbeats 8000000 in
theorem do_crash {w0 W : World} {b rb N : Nat} {S : St} {H : Nat → Prop} (h : Pr w0 W b rb N S H) (hN : N < 800000) (hw0 : w0.heap.size ≤ W.heap.size) (two : Bool) (n fill : Int) (n1 : -9223372036854775808 ≤ n) (n2 : n < 9223372036854775808) (f1 : -9223372036854775808 ≤ fill) (f2 : fill < 9223372036854775808) (hd : ByteArray) (hhd : hd.size ≤ 9223372036854775807) (pa : Option Addr) (pl pc : Nat) (pk : List Int) (hp : ∀ A, Kept H W A → Ints A (.slice pa pl pc) pk) (hnil : pa = none → pl = 0 ∧ pc = 0) (hpb : pk.length * 8 ≤ 140737488351232) :
    Calls Try.prog 9 #[.pointer (some ⟨b, 0, none⟩), .pointer (some ⟨rb, 0, none⟩), .agg #[.int .i64 5, .bool two, .int .i64 n, .int .i64 fill, .string hd, .slice pa pl pc]] W (DoPost w0 W b rb N H) := by
  obtain ⟨W1, hW1⟩ : ∃ W1, W1 = W.alloc (.cells #[.int .i64 5, .bool two, .int .i64 n, .int .i64 fill, .string hd, .slice pa pl pc] 37) := ⟨_, rfl⟩
  have hb1 : Below W.heap.size W W1 := by rw [hW1]; exact (Below.refl _ _).alloc (Nat.le_refl _) _
  obtain ⟨x, hx⟩ : ∃ x, x = W.heap.size := ⟨_, rfl⟩
  have bx1 : W1.heap[x]? = some (.cells #[.int .i64 5, .bool two, .int .i64 n, .int .i64 fill, .string hd, .slice pa pl pc] 37 (0, 0)) := by rw [hW1, hx]; exact heap_alloc_self _ _
  have P1 := hide (h.grown hb1)
  have HL : Hid (∀ q, H q → q < W.heap.size) := hide (fun q hq => (h.lo q hq).2)
  have HB1 := hide hb1
  have HW1 := hide hW1
  have HX := hide hx
  have HBX := hide bx1
  have HXH : Hid (¬ H x ∧ x < W1.heap.size) := hide ⟨fun hh => by have := (h.lo x hh).2; omega, lt_of_block bx1⟩
  have hz1 : W.heap.size ≤ W1.heap.size := hb1.size
  have HZ1 := hide hz1
  have HCX : Hid (∀ A, Kept H W1 A → A.cell? ⟨x, 2, none⟩ = some (.int .i64 n) ∧ A.cell? ⟨x, 5, none⟩ = some (.slice pa pl pc) ∧ A.cell? ⟨x, 4, none⟩ = some (.string hd) ∧ A.cell? ⟨x, 0, none⟩ = some (.int .i64 5)) := hide (fun A hA => by
    have e := (hA.block x (lt_of_block bx1) (unhide HXH).1).trans bx1
    exact ⟨(cell_of_row _ _ _ _ _ _ e).trans rfl, (cell_of_row _ _ _ _ _ _ e).trans rfl, (cell_of_row _ _ _ _ _ _ e).trans rfl, (cell_of_row _ _ _ _ _ _ e).trans rfl⟩)
  have P1' := unhide P1
  have HI : Hid (∀ A, Kept H W1 A → Ints A (.slice pa pl pc) pk) := hide (fun A hA => hp A ((Kept.of_below hb1).trans hA))
  have hpl : pl = pk.length := by
    obtain ⟨ao, cap, e, _⟩ := hp W (Kept.refl _ _)
    injection e
  have HPL := hide hpl
  have hplI : (pl : Int) ≤ 17592186044000 := by omega
  have cx5 := (unhide HCX W1 (Kept.refl _ _)).2.1
  have HAP : Hid (∀ (O : Obj), Ints ((W1.alloc O)) (.slice pa pl pc) pk) := hide (fun O => unhide HI _ (Kept.of_below ((Below.refl _ _).alloc (Nat.le_refl _) _)))
  have HXA : Hid (∀ A, Below W1.heap.size W1 A → A.cell? ⟨x, 5, none⟩ = some (.slice pa pl pc)) := hide (fun A hA => (unhide HCX A (Kept.of_below hA)).2.1)
  have HF1 : Hid (∀ (v' : Value) (w' : World), IOwn w' W1.heap.size v' pk → (W1.alloc (.cells #[] 3)).grownBy w' (some W1.heap.size) → IOwn (w'.alloc (.cells #[.int .i64 7] 3)) W1.heap.size v' pk ∧ Below W1.heap.size W1 (w'.alloc (.cells #[.int .i64 7] 3)) ∧ W1.heap.size ≤ (w'.alloc (.cells #[.int .i64 7] 3)).heap.size) := hide (fun v' w' o' g' => by
    have hb2 : Below W1.heap.size W1 (W1.alloc (.cells #[] 3)) := (Below.refl _ _).alloc (Nat.le_refl _) _
    have hb3 := grown_below hb2 g' (by simp) (fun q hq => by cases hq; exact Nat.le_refl _)
    refine ⟨o'.keptB fun q _ hl => Below.heap_alloc _ _ _ hl, hb3.alloc hb3.size _, by have := hb3.size; simp; omega⟩)
  have HF2 : Hid (∀ (v' : Value) (w' : World) (v'' : Value) (w'' : World), IOwn (w'.alloc (.cells #[.int .i64 7] 3)) W1.heap.size v' pk → Below W1.heap.size W1 (w'.alloc (.cells #[.int .i64 7] 3)) → IOwn w'' W1.heap.size v'' (pk ++ [7]) → (w'.alloc (.cells #[.int .i64 7] 3)).grownBy w'' v'.ownBlock → Below W1.heap.size W1 w'') := hide (fun v' w' v'' w'' o1 b1 o2 g2 => grown_below b1 g2 (by have := b1.size; omega) fun q hq => (rowL o1 hq).1)
  have HZI : Hid (pk.length * 8 ≤ 140737488351232) := hide hpb
  clear h hx hz1 hp hpl hpb
  rw [hW1] at cx5
  clear hb1 bx1
  go_enter Try.func9, Try.ntmps9
  go_upto_region 28 with fail
  rw [← unhide HW1, ← unhide HX]
  clear hW1 cx5
  have cx5 := (unhide HCX W1 (Kept.refl _ _)).2.1
  have cx5a := unhide HXA (W1.alloc (.cells #[] 3)) ((Below.refl _ _).alloc (Nat.le_refl _) _)
  go_upto_region 29 with (first | (refine wpList_append_picks rfl (.tmp 112) (.tmp 114) rfl W1.heap.size _ rfl (row_emptyN W1 _ _ W1.heap.size rfl) pa pl pc pk rfl (unhide HAP _) hnil (unhide HZI) (by simp) ?_; intro v1 w2 o1 g1; obtain ⟨o1a, b1a, z1a⟩ := unhide HF1 v1 w2 o1 g1; clear o1 g1) | (refine wpList_append_seven rfl (.tmp 115) (.tmp 116) rfl W1.heap.size v1 pk rfl o1a (unhide HZI) ⟨w2.heap.size, 0, none⟩ 1 rfl (cell_one_new _ _ _) z1a ?_; intro v2 w3 o2 g2; have B3 := hide (unhide HF2 v1 w2 v2 w3 o1a b1a o2 g2); obtain ⟨ao2, cc2, e2, ha2, hb2, hc2⟩ := rowForm o2; obtain ⟨g, hg2⟩ := hc2 (by simp); subst hg2; have O2 := hide o2; rw [List.length_append] at e2 ha2; subst e2; clear o1a b1a z1a o2 g2 hc2) | fail)
  obtain ⟨m1, hm1⟩ : ∃ m1 : Nat, m1 = pk.length + 1 := ⟨_, rfl⟩
  have hm1' : m1 = pl + 1 := by rw [hm1, unhide HPL]
  rw [← hm1]
  have hro := unhide O2
  have hgr := rowL hro (q := g) rfl
  have HCE : Hid (∀ A : World, A.heap[g]? = w3.heap[g]? → ∀ (j : Nat) (u : Value), ((pk ++ [(7 : Int)]).map (Value.int .i64))[j]? = some u → A.cell? ⟨g, j, none⟩ = some u) := hide (fun A hA j u hu => by
    have hc := hro.cells (g := g) rfl j u hu
    rw [addr_add, Nat.zero_add] at hc
    rw [← hc]
    unfold World.cell?
    rw [hA])
  have HRNG : Hid (∀ z ∈ pk, -9223372036854775808 ≤ z ∧ z < 9223372036854775808) := hide (by obtain ⟨ao, cap, e, hl, hr, _⟩ := unhide HI W1 (Kept.refl _ _); exact hr)
  have HIP : Hid (∀ A : World, A.heap[g]? = w3.heap[g]? → w3.heap.size ≤ A.heap.size → Ints A (.slice (some ⟨g, 0, none⟩) pl cc2) pk) := hide (fun A hA hz => by
    refine ⟨some ⟨g, 0, none⟩, cc2, by rw [unhide HPL], by have := unhide HZI; omega, unhide HRNG, fun _ => ⟨g, 0, rfl, by have := hgr.2.1; omega, fun j hj => ?_⟩⟩
    rw [Nat.zero_add]
    refine unhide HCE A hA j _ ?_
    rw [List.map_append, List.getElem?_append_left (by rw [List.length_map]; exact hj), List.getElem?_map, List.getElem?_eq_getElem hj]
    rfl)
  have HC7 : Hid (∀ A : World, A.heap[g]? = w3.heap[g]? → A.cell? ⟨g, pl, none⟩ = some (.int .i64 7)) := hide (fun A hA => unhide HCE A hA pl _ (by rw [unhide HPL, List.map_append, List.getElem?_append_right (by simp)]; simp))
  have HGB : Hid (W1.heap.size ≤ g ∧ g < w3.heap.size) := hide ⟨hgr.1, hgr.2.1⟩
  have HNG : Hid (¬ H g) := hide (fun hh => by have := unhide HL g hh; have := unhide HZ1; have := hgr.1; omega)
  have hcc : (pl : Int) ≤ (cc2 : Int) := by have h1 : pk.length + 1 ≤ cc2 := ha2; have := unhide HPL; omega
  have hm1I : (m1 : Int) ≤ 9223372036854775807 := by omega
  have hplm : (pl : Int) < (m1 : Int) := by omega
  have cx5b := unhide HXA w3 (unhide B3)
  have CB := hide (Crash_both ((unhide P1).grown (unhide B3)) (by omega) pk (.slice (some ⟨g, 0, none⟩) pl cc2) (unhide HIP w3 rfl (Nat.le_refl _)) (fun _ pb e => by cases e; exact unhide HNG))
  have KB3 : Hid (Kept H W1 w3) := hide (Kept.of_below (unhide B3))
  clear hro hgr hm1 hm1' cx5 cx5a ha2 hb2
  go_wp2_with fail
  refine (unhide CB).mono ?_
  rintro e w4 ⟨rfl, k4, c4⟩
  have C4 := hide (c4 pa pl pc (fun A hA => unhide HI A ((unhide KB3).trans (k4.trans hA))))
  have cx5c := (unhide HCX w4 ((unhide KB3).trans k4)).2.1
  clear c4 k4 CB cx5b
  go_wp2_with fail
  refine (unhide C4).mono ?_
  rintro e w5 ⟨rfl, T, p5, k5⟩
  have hg5 : w5.heap[g]? = w3.heap[g]? := k5.block g (unhide HGB).2 (unhide HNG)
  have HF : Hid (∀ k, Did w0 W (w5.drewN k) b rb N H) := hide (fun k => did_of (Wa := w3) ((unhide HB1).trans ((unhide B3).mono (unhide HZ1))) (unhide HL) p5 k5 (fun q hq => .inl hq) (Nat.le_refl _) (fun q _ => rfl) (fun q _ => rfl) rfl rfl rfl)
  have cx5d := (unhide HCX w5 ((unhide KB3).trans k5)).2.1
  have c7 := unhide HC7 w5 hg5
  have SI : Hid (∀ k, Calls Try.prog 26 #[.slice (some ⟨g, 0, none⟩) pl cc2, .slice pa pl pc] (w5.drewN k) fun e w' => e = .returned (.bool true) ∧ ∃ m, w' = (w5.drewN k).drewN m) := hide (fun k => SameInts_go (w5.drewN k) _ _ _ _ _ _ pk (unhide HIP (w5.drewN k) hg5 k5.size) (unhide HI (w5.drewN k) (((unhide KB3).trans k5).trans ⟨rfl, rfl, rfl, Nat.le_refl _, fun _ _ _ => rfl⟩)))
  have pl0 : (0 : Int) ≤ (pl : Int) := Int.natCast_nonneg _
  clear p5 k5 hg5 C4 cx5c
  go_wp2_with fail
  go_quiet ((go_at_call 26; exact Calls.quiet_of (unhide SI _)))
  go_wp2
  go_ret
  exact ⟨by first | rfl | simp, unhide HF _⟩
end Go.Proofs.Ytfoanlmmjbclgaa

/-
  DERIVED. How the calls of the law on devices are opened, and how long their parts may be.
-/
namespace Go.Proofs.Ytfoanlmmjbclgaa
open Go.ChangeShapes Go.WideShapes Go.ChangeAt Go.RowKit
set_option linter.unusedVariables false

theorem weightsAll_mem {H : Type} {P : Program} {e : TypeId} {d : DataW H} {n : Nat} : ∀ {l : List (DataW H)}, d ∈ l → n ∈ d.weights P e → n ∈ DataW.weightsAll P e l
  | x :: l, h, hn => by
    simp only [DataW.weightsAll, List.mem_append]
    rcases List.mem_cons.1 h with rfl | h
    · exact .inl hn
    · exact .inr (weightsAll_mem h hn)
theorem Try.bytesIntB : Try.prog.bytesOf 3 = 8 := by kernel_rfl
/-- A slice: nil, or somewhere. -/
def nilF (v : Value) : Prop := ∃ pa pl pc, v = .slice pa pl pc ∧ (pa = none → pl = 0 ∧ pc = 0)
theorem open_intB {H : Type} {enc : TypeId × Value → H} {W : World} {v : Value} {y : DataW H × List MemPlace} {fuel : Nat}
    (hf : DataW.trod enc Try.prog W 0 (fun _ => true) true fuel 35 [v] = some y) : ∃ l : List Int, Ints W v l ∧ nilF v ∧ ∀ B, (∀ x ∈ y.1.weights Try.prog 35, x ≤ B) → l.length * 8 ≤ B := by
  rcases Go.Deep.open_slice Try.underlying35 hf with ⟨hcs, hx⟩ | ⟨x, n, cap, m, k, D, Pl, hcs, _, hln, hm, hz, hx, hcell⟩
  · simp at hcs
    subst hcs
    exact ⟨[], ⟨none, 0, rfl, by simp, by simp, fun h => absurd rfl h⟩, ⟨none, 0, 0, rfl, fun _ => ⟨rfl, rfl⟩⟩, fun B _ => by simp⟩
  · simp at hcs
    subst hcs
    obtain ⟨l, hl⟩ := open_intl (enc := enc) (d := y.1) (p := y.2) ⟨fuel, by simpa [Value.cells] using hf⟩
    refine ⟨l, hl, ⟨_, _, _, rfl, fun h => by cases h⟩, fun B hB => ?_⟩
    obtain ⟨ao, cp, e, _⟩ := hl
    injection e with e1 e2 e3
    have hw := hB ((((List.range n).map D).length + ((List.range (m - n)).map fun j => D (n + j)).length) * Try.prog.bytesOf 3) (by rw [hx]; simp [DataW.weights, Try.underlying35])
    rw [Try.bytesIntB] at hw
    simp at hw
    omega
/-- A slice of calls, whose picks take no more than B bytes each. -/
def BClL (w : World) (v : Value) (l : List Cl) (B : Nat) : Prop :=
  ∃ ao cap, v = .slice ao l.length cap ∧ l.length ≤ 9223372036854775807 ∧ (0 < l.length → ∃ b off, ao = some ⟨b, off, none⟩ ∧ b < w.heap.size ∧ ∀ i, (h : i < l.length) → ClAt w b (off + i * 6) l[i] ∧ (∃ v, w.cell? ⟨b, off + i * 6 + 5, none⟩ = some v ∧ Ints w v l[i].picks ∧ nilF v) ∧ l[i].head.size ≤ 9223372036854775807 ∧ l[i].picks.length * 8 ≤ B)
set_option maxRecDepth 100000 in
theorem open_callsB {H : Type} {enc : TypeId × Value → H} {W : World} {a : Option Addr} {n c : Nat} {d : DataW H} {p : List MemPlace}
    (h : DataW.Trod enc Try.prog W 0 (fun _ => true) true 22 (.slice a n c) d p) {B : Nat} (hB : ∀ x ∈ d.weights Try.prog 22, x ≤ B) : ∃ l : List Cl, BClL W (.slice a n c) l B := by
  obtain ⟨fuel, hf⟩ := h
  obtain ⟨f0, f1, f2, f3, f4, f5, hu, ⟨o0, o1, o2, o3, o4, o5⟩, t0, t1, t2, t3, t4, t5⟩ := Try.underCl
  rcases Go.Deep.open_slice Try.underlying22 hf with ⟨hcs, hx⟩ | ⟨x, n', cap, m, k, D, Pl, hcs, _, hl, hm, hz, hx, hcell⟩
  · simp [Value.cells] at hcs
    obtain ⟨rfl, rfl, rfl⟩ := hcs
    exact ⟨[], none, 0, rfl, by simp, fun h => by simp at h⟩
  · simp [Value.cells] at hcs
    obtain ⟨rfl, rfl, rfl⟩ := hcs
    rw [if_pos rfl] at hz
    subst hz
    unfold maxLen at hm
    have hel : ∀ i, i < n → ∃ e : Cl, I64 e.kind ∧ I64 e.n ∧ I64 e.fill ∧ W.cell? (x.add (i * 6)) = some (.int .i64 e.kind) ∧ W.cell? (x.add (i * 6 + 1)) = some (.bool e.two) ∧ W.cell? (x.add (i * 6 + 2)) = some (.int .i64 e.n) ∧ W.cell? (x.add (i * 6 + 3)) = some (.int .i64 e.fill) ∧ W.cell? (x.add (i * 6 + 4)) = some (.string e.head) ∧ ∃ v, W.cell? (x.add (i * 6 + 5)) = some v ∧ Ints W v e.picks ∧ nilF v ∧ e.head.size ≤ 9223372036854775807 ∧ (∀ B, (∀ x ∈ (D i).weights Try.prog 37, x ≤ B) → e.picks.length * 8 ≤ B) := by
      intro i hi
      obtain ⟨cs, q1, q2⟩ := hcell i (by omega)
      rw [Try.cellsCl] at q1
      obtain ⟨_, hlen, hc⟩ := World.cells?_some q1
      match cs, hlen with
      | [c0, c1, c2, c3, c4, c5], _ =>
        obtain ⟨xs, k', _, hDx, _, hxl, hfl⟩ := DataW.trod_struct hu q2
        match xs, hxl with
        | [x0, x1, x2, x3, x4, x5], _ =>
          have g0 := hfl 0 f0 rfl
          have g1 := hfl 1 f1 rfl
          have g2 := hfl 2 f2 rfl
          have g3 := hfl 3 f3 rfl
          have g4 := hfl 4 f4 rfl
          have g5 := hfl 5 f5 rfl
          rw [o0, t0, Try.cellsInt] at g0
          rw [o1, t1, Try.cellsBool] at g1
          rw [o2, t2, Try.cellsInt] at g2
          rw [o3, t3, Try.cellsInt] at g3
          rw [o4, t4, Try.cellsStr] at g4
          rw [o5, t5, Try.cellsInts] at g5
          obtain ⟨s0, e0, _, w0⟩ := DataW.trod_int Try.underlying3 g0
          obtain ⟨s1, e1, _⟩ := DataW.trod_bool Try.underlying4 g1
          obtain ⟨s2, e2, _, w2⟩ := DataW.trod_int Try.underlying3 g2
          obtain ⟨s3, e3, _, w3⟩ := DataW.trod_int Try.underlying3 g3
          obtain ⟨s4, e4, _, w4⟩ := DataW.trod_string Try.underlying9 g4
          simp at e0 e1 e2 e3 e4
          subst e0 e1 e2 e3 e4
          simp at g5
          obtain ⟨l5, h5, hn5, hb5⟩ := open_intB g5
          have hDi : D i = .agg [x0.1, x1.1, x2.1, x3.1, x4.1, x5.1] := by simpa using congrArg Prod.fst hDx
          have hbd : ∀ B, (∀ x ∈ (D i).weights Try.prog 37, x ≤ B) → l5.length * 8 ≤ B := by
            intro B hB
            refine hb5 B fun x hx => hB x ?_
            rw [hDi]
            simp only [DataW.weights, hu, DataW.weightsEach, List.map_cons, t5, List.mem_append]
            simp [hx]
          unfold maxLen at w4
          have k0 := hc 0 (by omega)
          have k1 := hc 1 (by omega)
          have k2 := hc 2 (by omega)
          have k3 := hc 3 (by omega)
          have k4 := hc 4 (by omega)
          have k5 := hc 5 (by omega)
          rw [Go.Deep.add_add] at k0 k1 k2 k3 k4 k5
          have b0 := bounds_i64 w0
          have b2 := bounds_i64 w2
          have b3 := bounds_i64 w3
          have B0 : I64 s0 := ⟨by omega, by omega⟩
          have B2 : I64 s2 := ⟨by omega, by omega⟩
          have B3 : I64 s3 := ⟨by omega, by omega⟩
          exact ⟨⟨s0, s1, s2, s3, s4, l5⟩, B0, B2, B3, k0, k1, k2, k3, k4, c5, k5, h5, hn5, w4, hbd⟩
    obtain ⟨F, hF⟩ := Go.Deep.choose_lt (α := Cl) hel
    have hlen : ((List.range n).map F).length = n := by simp
    refine ⟨(List.range n).map F, some x, _, by rw [hlen], by rw [hlen]; omega, fun hz => ?_⟩
    rw [hlen] at hz
    have h0 := (hF 0 (by omega)).2.2.2.1
    have hsp := World.cell?_spot h0
    obtain ⟨b, off, sp⟩ := x
    have hsp' : sp = none := by
      cases sp with
      | none => rfl
      | some k => simp [Addr.add] at hsp
    subst hsp'
    refine ⟨b, off, rfl, ?_, fun i hi => ?_⟩
    · rw [addr_add] at h0
      exact World.block_lt_of_cell? W ⟨b, off + 0 * 6, none⟩ h0
    · have hi' : i < n := by rw [hlen] at hi; exact hi
      obtain ⟨j0, j2, j3, q0, q1, q2, q3, q4, v, q5, q6, q7, q8, q9⟩ := hF i hi'
      rw [addr_add] at q0 q1 q2 q3 q4 q5
      have e : ((List.range n).map F)[i] = F i := by simp
      rw [e]
      simp only [← Nat.add_assoc] at q1 q2 q3 q4 q5
      refine ⟨{ c0 := q0, c1 := q1, c2 := q2, c3 := q3, c4 := q4, c5 := ⟨v, q5, q6⟩, i0 := j0, i2 := j2, i3 := j3 }, ⟨v, q5, q6, q7⟩, q8, ?_⟩
      have hdd : d = .slice ((List.range n).map D) ((List.range (m - n)).map fun j => D (n + j)) := by simpa using congrArg Prod.fst hx
      refine q9 B fun x hx => hB x ?_
      rw [hdd]
      simp only [DataW.weights, Try.underlying22, List.mem_cons, List.mem_append]
      exact .inr (.inl (weightsAll_mem (List.mem_map.2 ⟨i, List.mem_range.2 hi', rfl⟩) hx))
end Go.Proofs.Ytfoanlmmjbclgaa

/-
  DERIVED. Where the law on devices stands: two pairs of devices.
-/
namespace Go.Proofs.Ytfoanlmmjbclgaa
open Go.RowKit
set_option linter.unusedVariables false
set_option maxRecDepth 20000

theorem do_any {w0 W : World} {b rb N : Nat} {S : St} {H : Nat → Prop} (h : Pr w0 W b rb N S H) (hN : N < 800000) (hw0 : w0.heap.size ≤ W.heap.size) (k : Int) (two : Bool) (n fill : Int) (n1 : -9223372036854775808 ≤ n) (n2 : n < 9223372036854775808) (f1 : -9223372036854775808 ≤ fill) (f2 : fill < 9223372036854775808) (hd : ByteArray) (hhd : hd.size ≤ 9223372036854775807) (pa : Option Addr) (pl pc : Nat) (pk : List Int) (hp : ∀ A, Kept H W A → Ints A (.slice pa pl pc) pk) (hnil : pa = none → pl = 0 ∧ pc = 0) (hpb : pk.length * 8 ≤ 140737488351232) :
    Calls Try.prog 9 #[.pointer (some ⟨b, 0, none⟩), .pointer (some ⟨rb, 0, none⟩), .agg #[.int .i64 k, .bool two, .int .i64 n, .int .i64 fill, .string hd, .slice pa pl pc]] W (DoPost w0 W b rb N H) := by
  by_cases k1 : k = 1
  · subst k1; exact do_read h hN hw0 two n fill n1 n2 f1 f2 hd hhd pa pl pc pk hp
  · by_cases k2 : k = 2
    · subst k2; exact do_write2 h hN hw0 two n fill n1 n2 f1 f2 hd hhd pa pl pc pk hp
    · by_cases k3 : k = 3
      · subst k3; exact do_flush h hN hw0 two n fill n1 n2 f1 f2 hd hhd pa pl pc pk hp
      · by_cases k4 : k = 4
        · subst k4; exact do_fuse h hN hw0 two n fill n1 n2 f1 f2 hd hhd pa pl pc pk hp
        · by_cases k5 : k = 5
          · subst k5; exact do_crash h hN hw0 two n fill n1 n2 f1 f2 hd hhd pa pl pc pk hp hnil hpb
          · by_cases k6 : k = 6
            · subst k6; exact do_asked h hN hw0 two n fill n1 n2 f1 f2 hd hhd pa pl pc pk hp
            · by_cases k8 : k = 8
              · subst k8; exact do_write8 h hN hw0 two n fill n1 n2 f1 f2 hd hhd pa pl pc pk hp
              · exact do_other h hN hw0 k two n fill n1 n2 f1 f2 hd hhd pa pl pc pk hp ⟨k1, k2, k3, k4, k5, k6, k8⟩
/-- Two pairs of devices, in two slices. -/
structure Bst (w W : World) (db mb b0 b1 r0 r1 N : Nat) (H0 H1 : Nat → Prop) : Prop where
  p0 : ∃ S, Pr w W b0 r0 N S H0
  p1 : ∃ S, Pr w W b1 r1 N S H1
  ap : ∀ q, H0 q → ¬ H1 q
  ds : W.heap[db]? = some (.cells #[.pointer (some ⟨b0, 0, none⟩), .pointer (some ⟨b1, 0, none⟩)] 24 (0, 0))
  ms : W.heap[mb]? = some (.cells #[.pointer (some ⟨r0, 0, none⟩), .pointer (some ⟨r1, 0, none⟩)] 28 (0, 0))
  d0 : ¬ H0 db
  d1 : ¬ H1 db
  m0 : ¬ H0 mb
  m1 : ¬ H1 mb
  ld : w.heap.size ≤ db
  lm : w.heap.size ≤ mb
  bel : Below w.heap.size w W
section
variable {w W W' : World} {db mb b0 b1 r0 r1 N : Nat} {H0 H1 : Nat → Prop}
theorem Bst.cells (h : Bst w W db mb b0 b1 r0 r1 N H0 H1) : W.cell? ⟨db, 0, none⟩ = some (.pointer (some ⟨b0, 0, none⟩)) ∧ W.cell? ⟨db, 1, none⟩ = some (.pointer (some ⟨b1, 0, none⟩)) ∧ W.cell? ⟨mb, 0, none⟩ = some (.pointer (some ⟨r0, 0, none⟩)) ∧ W.cell? ⟨mb, 1, none⟩ = some (.pointer (some ⟨r1, 0, none⟩)) :=
  ⟨(cell_of_row _ _ _ _ _ _ h.ds).trans rfl, (cell_of_row _ _ _ _ _ _ h.ds).trans rfl, (cell_of_row _ _ _ _ _ _ h.ms).trans rfl, (cell_of_row _ _ _ _ _ _ h.ms).trans rfl⟩
theorem Bst.grown (h : Bst w W db mb b0 b1 r0 r1 N H0 H1) (hb : Below W.heap.size W W') : Bst w W' db mb b0 b1 r0 r1 N H0 H1 := by
  obtain ⟨S0, p0⟩ := h.p0
  obtain ⟨S1, p1⟩ := h.p1
  exact { h with p0 := ⟨S0, p0.grown hb⟩, p1 := ⟨S1, p1.grown hb⟩, ds := (hb.block db (lt_of_block h.ds)).trans h.ds, ms := (hb.block mb (lt_of_block h.ms)).trans h.ms, bel := h.bel.trans (hb.mono h.bel.size) }
theorem Bst.mono {M : Nat} (h : Bst w W db mb b0 b1 r0 r1 N H0 H1) (hM : N ≤ M) : Bst w W db mb b0 b1 r0 r1 M H0 H1 := by
  obtain ⟨S0, p0⟩ := h.p0
  obtain ⟨S1, p1⟩ := h.p1
  exact { h with p0 := ⟨S0, p0.mono hM⟩, p1 := ⟨S1, p1.mono hM⟩ }
theorem kept_below {H : Nat → Prop} (hb : Below w.heap.size w W) (hk : Kept H W W') (hl : ∀ q, H q → w.heap.size ≤ q) : Below w.heap.size w W' :=
  ⟨hk.os.trans hb.os, hk.tape.trans hb.tape, hk.output.trans hb.output, Nat.le_trans hb.size hk.size, fun q hq => (hk.block q (by have := hb.size; omega) fun hh => by have := hl q hh; omega).trans (hb.block q hq)⟩
/-- A call on the first pair; on the second. -/
theorem Bst.did0 (h : Bst w W db mb b0 b1 r0 r1 N H0 H1) (hd : Did w W W' b0 r0 N H0) : ∃ H0', Bst w W' db mb b0 b1 r0 r1 (N + 2) H0' H1 := by
  obtain ⟨S', H', p, k, l⟩ := hd
  obtain ⟨S0, p0⟩ := h.p0
  obtain ⟨S1, p1⟩ := h.p1
  have n1 : ∀ q, H1 q → ¬ H0 q := fun q h1 h0 => h.ap q h0 h1
  have hz := k.size
  have ndb := lt_of_block h.ds
  have nmb := lt_of_block h.ms
  exact ⟨H',
    { p0 := ⟨S', p⟩, p1 := ⟨S1, (p1.same hz fun q hq => k.block q (p1.lo q hq).2 (n1 q hq)).mono (by omega)⟩
      ap := fun q hq h1 => by
        rcases l q hq with h2 | h2
        · exact h.ap q h2 h1
        · have := (p1.lo q h1).2; omega
      ds := (k.block db ndb h.d0).trans h.ds, ms := (k.block mb nmb h.m0).trans h.ms
      d0 := fun hh => by rcases l db hh with h2 | h2; exact h.d0 h2; omega
      d1 := h.d1
      m0 := fun hh => by rcases l mb hh with h2 | h2; exact h.m0 h2; omega
      m1 := h.m1, ld := h.ld, lm := h.lm
      bel := kept_below h.bel k fun q hq => (p0.lo q hq).1 }⟩
theorem Bst.did1 (h : Bst w W db mb b0 b1 r0 r1 N H0 H1) (hd : Did w W W' b1 r1 N H1) : ∃ H1', Bst w W' db mb b0 b1 r0 r1 (N + 2) H0 H1' := by
  obtain ⟨S', H', p, k, l⟩ := hd
  obtain ⟨S0, p0⟩ := h.p0
  obtain ⟨S1, p1⟩ := h.p1
  have hz := k.size
  have ndb := lt_of_block h.ds
  have nmb := lt_of_block h.ms
  exact ⟨H',
    { p1 := ⟨S', p⟩, p0 := ⟨S0, (p0.same hz fun q hq => k.block q (p0.lo q hq).2 (h.ap q hq)).mono (by omega)⟩
      ap := fun q h0 hq => by
        rcases l q hq with h2 | h2
        · exact h.ap q h0 h2
        · have := (p0.lo q h0).2; omega
      ds := (k.block db ndb h.d1).trans h.ds, ms := (k.block mb nmb h.m1).trans h.ms
      d1 := fun hh => by rcases l db hh with h2 | h2; exact h.d1 h2; omega
      d0 := h.d0
      m1 := fun hh => by rcases l mb hh with h2 | h2; exact h.m1 h2; omega
      m0 := h.m0, ld := h.ld, lm := h.lm
      bel := kept_below h.bel k fun q hq => (p1.lo q hq).1 }⟩
end
/-- A pair that has just been copied. -/
theorem pr_copy {w W W2 W3 W4 W5 : World} {b r N b2 r2 x y i j : Nat} {S : St} {H : Nat → Prop} {u v : Value} (h : Pr w W b r N S H) (hw : w.heap.size ≤ W.heap.size)
    (d2 : Dev W2 b2 (fun k => W.heap.size ≤ k ∧ k < W2.heap.size) (N + N) S) (bl2 : Below W.heap.size W W2) (e3 : W3 = W2.setCell ⟨x, i, none⟩ u) (hx : x < W.heap.size)
    {sg sc : Nat} {pv : Value} {ps : List (Nat × List UInt8)} {fz : Int} (r4 : RDAt W4 (fun q => W3.heap.size ≤ q ∧ q < W4.heap.size) r2 S sg sc pv ps fz) (bl4 : Below W3.heap.size W3 W4) (e5 : W5 = W4.setCell ⟨y, j, none⟩ v) (hy : y < W.heap.size) :
    Pr w W5 b2 r2 N S (fun q => W.heap.size ≤ q ∧ q < W4.heap.size) := by
  obtain ⟨F, G, h⟩ := h
  have z2 := bl2.size
  have z3 : W3.heap.size = W2.heap.size := by rw [e3]; simp [World.setCell]
  have z4 := bl4.size
  have z5 : W5.heap.size = W4.heap.size := by rw [e5]; simp [World.setCell]
  have ho := h.dev.bnd
  have s3 : ∀ q, q ≠ x → W3.heap[q]? = W2.heap[q]? := fun q hq => by rw [e3]; exact heap_setCell_other _ _ _ _ hq
  have s5 : ∀ q, q ≠ y → W5.heap[q]? = W4.heap[q]? := fun q hq => by rw [e5]; exact heap_setCell_other _ _ _ _ hq
  refine ⟨fun k => W.heap.size ≤ k ∧ k < W2.heap.size, fun q => W3.heap.size ≤ q ∧ q < W4.heap.size, ?_⟩
  exact
    { dev := (d2.tight h.n1 ho.1 ho.2.1).frame fun k hk _ => by rw [s5 k (by omega), bl4.block k (by omega), s3 k (by omega)]
      ref := ⟨sg, sc, pv, ps, fz, r4.same fun q hq => s5 q (by omega)⟩
      hF := fun q hq => by omega
      hG := fun q hq => by omega
      ap := fun q hf hg => by omega
      lo := fun q hq => by omega
      n1 := h.n1 }
section
variable {w W W2 W3 W4 W5 : World} {db mb b0 b1 r0 r1 N b2 r2 : Nat} {H0 H1 : Nat → Prop} {S : St}
theorem Bst.copy1 (h : Bst w W db mb b0 b1 r0 r1 N H0 H1) (p0 : Pr w W b0 r0 N S H0) (d2 : Dev W2 b2 (fun k => W.heap.size ≤ k ∧ k < W2.heap.size) (N + N) S) (bl2 : Below W.heap.size W W2) (e3 : W3 = W2.setCell ⟨db, 1, none⟩ (.pointer (some ⟨b2, 0, none⟩)))
    {sg sc : Nat} {pv : Value} {ps : List (Nat × List UInt8)} {fz : Int} (r4 : RDAt W4 (fun q => W3.heap.size ≤ q ∧ q < W4.heap.size) r2 S sg sc pv ps fz) (bl4 : Below W3.heap.size W3 W4) (e5 : W5 = W4.setCell ⟨mb, 1, none⟩ (.pointer (some ⟨r2, 0, none⟩))) :
    ∃ H1', Bst w W5 db mb b0 b2 r0 r2 N H0 H1' := by
  have ndb := lt_of_block h.ds
  have nmb := lt_of_block h.ms
  have z2 := bl2.size
  have z3 : W3.heap.size = W2.heap.size := by rw [e3]; simp [World.setCell]
  have z4 := bl4.size
  have z5 : W5.heap.size = W4.heap.size := by rw [e5]; simp [World.setCell]
  have s3 : ∀ q, q ≠ db → W3.heap[q]? = W2.heap[q]? := fun q hq => by rw [e3]; exact heap_setCell_other _ _ _ _ hq
  have s5 : ∀ q, q ≠ mb → W5.heap[q]? = W4.heap[q]? := fun q hq => by rw [e5]; exact heap_setCell_other _ _ _ _ hq
  have hne : mb ≠ db := fun e => by
    have h1 := h.ds
    have h2 := h.ms
    rw [e, h1] at h2
    simp only [Option.some.injEq, Obj.cells.injEq] at h2
    exact absurd h2.2.1 (by decide)
  have old : ∀ q, q < W.heap.size → q ≠ db → q ≠ mb → W5.heap[q]? = W.heap[q]? := fun q hq h1 h2 => by rw [s5 q h2, bl4.block q (by omega), s3 q h1, bl2.block q hq]
  have hds2 : W2.heap[db]? = _ := (bl2.block db ndb).trans h.ds
  have hds3 : W3.heap[db]? = some (.cells #[.pointer (some ⟨b0, 0, none⟩), .pointer (some ⟨b2, 0, none⟩)] 24 (0, 0)) := by rw [e3, heap_setCell_same W2 db 1 _ _ _ hds2]; rfl
  have hms4 : W4.heap[mb]? = some (.cells #[.pointer (some ⟨r0, 0, none⟩), .pointer (some ⟨r1, 0, none⟩)] 28 (0, 0)) := by rw [bl4.block mb (by omega), s3 mb hne, bl2.block mb nmb]; exact h.ms
  have ld := h.ld
  have lm := h.lm
  exact ⟨fun q => W.heap.size ≤ q ∧ q < W4.heap.size,
    { p0 := ⟨S, p0.same (by omega) fun q hq => old q (p0.lo q hq).2 (fun e => h.d0 (e ▸ hq)) (fun e => h.m0 (e ▸ hq))⟩
      p1 := ⟨S, pr_copy p0 h.bel.size d2 bl2 e3 ndb r4 bl4 e5 nmb⟩
      ap := fun q hq h1 => by have := (p0.lo q hq).2; omega
      ds := by rw [s5 db (Ne.symm hne), bl4.block db (by omega)]; exact hds3
      ms := by rw [e5, heap_setCell_same W4 mb 1 _ _ _ hms4]; rfl
      d0 := h.d0, d1 := fun hh => by omega
      m0 := h.m0, m1 := fun hh => by omega
      ld := h.ld, lm := h.lm
      bel := by
        have hbw := h.bel.size
        rw [e5]
        refine Below.setCell ?_ lm _
        have b3 : Below w.heap.size w W3 := by rw [e3]; exact (h.bel.trans (bl2.mono hbw)).setCell ld _
        exact b3.trans (bl4.mono (by omega)) }⟩
theorem Bst.copy0 (h : Bst w W db mb b0 b1 r0 r1 N H0 H1) (p1 : Pr w W b1 r1 N S H1) (d2 : Dev W2 b2 (fun k => W.heap.size ≤ k ∧ k < W2.heap.size) (N + N) S) (bl2 : Below W.heap.size W W2) (e3 : W3 = W2.setCell ⟨db, 0, none⟩ (.pointer (some ⟨b2, 0, none⟩)))
    {sg sc : Nat} {pv : Value} {ps : List (Nat × List UInt8)} {fz : Int} (r4 : RDAt W4 (fun q => W3.heap.size ≤ q ∧ q < W4.heap.size) r2 S sg sc pv ps fz) (bl4 : Below W3.heap.size W3 W4) (e5 : W5 = W4.setCell ⟨mb, 0, none⟩ (.pointer (some ⟨r2, 0, none⟩))) :
    ∃ H0', Bst w W5 db mb b2 b1 r2 r1 N H0' H1 := by
  have ndb := lt_of_block h.ds
  have nmb := lt_of_block h.ms
  have z2 := bl2.size
  have z3 : W3.heap.size = W2.heap.size := by rw [e3]; simp [World.setCell]
  have z4 := bl4.size
  have z5 : W5.heap.size = W4.heap.size := by rw [e5]; simp [World.setCell]
  have s3 : ∀ q, q ≠ db → W3.heap[q]? = W2.heap[q]? := fun q hq => by rw [e3]; exact heap_setCell_other _ _ _ _ hq
  have s5 : ∀ q, q ≠ mb → W5.heap[q]? = W4.heap[q]? := fun q hq => by rw [e5]; exact heap_setCell_other _ _ _ _ hq
  have hne : mb ≠ db := fun e => by
    have h1 := h.ds
    have h2 := h.ms
    rw [e, h1] at h2
    simp only [Option.some.injEq, Obj.cells.injEq] at h2
    exact absurd h2.2.1 (by decide)
  have old : ∀ q, q < W.heap.size → q ≠ db → q ≠ mb → W5.heap[q]? = W.heap[q]? := fun q hq h1 h2 => by rw [s5 q h2, bl4.block q (by omega), s3 q h1, bl2.block q hq]
  have hds2 : W2.heap[db]? = _ := (bl2.block db ndb).trans h.ds
  have hds3 : W3.heap[db]? = some (.cells #[.pointer (some ⟨b2, 0, none⟩), .pointer (some ⟨b1, 0, none⟩)] 24 (0, 0)) := by rw [e3, heap_setCell_same W2 db 0 _ _ _ hds2]; rfl
  have hms4 : W4.heap[mb]? = some (.cells #[.pointer (some ⟨r0, 0, none⟩), .pointer (some ⟨r1, 0, none⟩)] 28 (0, 0)) := by rw [bl4.block mb (by omega), s3 mb hne, bl2.block mb nmb]; exact h.ms
  have ld := h.ld
  have lm := h.lm
  exact ⟨fun q => W.heap.size ≤ q ∧ q < W4.heap.size,
    { p1 := ⟨S, p1.same (by omega) fun q hq => old q (p1.lo q hq).2 (fun e => h.d1 (e ▸ hq)) (fun e => h.m1 (e ▸ hq))⟩
      p0 := ⟨S, pr_copy p1 h.bel.size d2 bl2 e3 ndb r4 bl4 e5 nmb⟩
      ap := fun q hq h1 => by have := (p1.lo q h1).2; omega
      ds := by rw [s5 db (Ne.symm hne), bl4.block db (by omega)]; exact hds3
      ms := by rw [e5, heap_setCell_same W4 mb 0 _ _ _ hms4]; rfl
      d1 := h.d1, d0 := fun hh => by omega
      m1 := h.m1, m0 := fun hh => by omega
      ld := h.ld, lm := h.lm
      bel := by
        have hbw := h.bel.size
        rw [e5]
        refine Below.setCell ?_ lm _
        have b3 : Below w.heap.size w W3 := by rw [e3]; exact (h.bel.trans (bl2.mono hbw)).setCell ld _
        exact b3.trans (bl4.mono (by omega)) }⟩
end
end Go.Proofs.Ytfoanlmmjbclgaa
