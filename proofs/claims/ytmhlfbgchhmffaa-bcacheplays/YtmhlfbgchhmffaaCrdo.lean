/-
  DERIVED. The document's Do.
-/
import Derived.Test.YtmhlfbgchhmffaaCrput
namespace Go.Proofs.Ytmhlfbgchhmffaa
open Go.RowKit Go.Maps
set_option linter.unusedVariables false

theorem rDo_none (w : World) (N b M : Nat) (v : Value) (xs : List It) (what k : Int) (h : RC w N b M v xs) (hk : ∀ x ∈ xs, x.k ≠ k) :
    Calls Try.prog 36 #[.pointer (some ⟨b, 0, none⟩), .int .i64 what, .int .i64 k] w (GPost w N b M (.int .i64 71) xs) := by
  have H := hide h
  have FA := hide (rFind_none w N b M v xs k h hk)
  clear h hk
  go_enter Try.func36, Try.ntmps36
  go_wp2_with fail
  refine (unhide FA).mono ?_
  rintro e w1 ⟨rfl, rfl⟩
  go_wp2
  go_ret
  exact ⟨rfl, ⟨v, unhide H⟩, RFr.refl _ _⟩

set_option maxRecDepth 20000 in
set_option maxHeartbeats 1000000 in
theorem rDo_pin (w : World) (N b M : Nat) (v0 : Value) (X1 X2 : List It) (t : It) (h : RC w N b M v0 (X1 ++ t :: X2)) (hk : ∀ x ∈ X1, x.k ≠ t.k) (hp : t.p ≤ 1000000) (hN : N ≤ w.heap.size) :
    Calls Try.prog 36 #[.pointer (some ⟨b, 0, none⟩), .int .i64 1, .int .i64 t.k] w (GPost w N b M (.int .i64 0) (X1 ++ ⟨t.k, t.v, t.d, t.p + 1⟩ :: X2)) := by
  have c1 := h.c1
  have hi0 : X1.length < (X1 ++ t :: X2).length := by simp
  obtain ⟨ao, cap, rfl, h1, h2, _⟩ := h.own.form
  obtain ⟨g, rfl, _, ⟨cur, hg⟩, d0, d1, d2, d3⟩ := h.own.at hi0
  have hl := h.len
  have et : (X1 ++ t :: X2)[X1.length] = t := by simp
  rw [et] at d2 d3
  have fz := h.row
  have H := hide h
  have FA := hide (rFind_some w N b M _ X1 X2 t h hk)
  obtain ⟨r1, f1⟩ := h.item X1.length 3 (.int .i64 ((t.p : Int) + 1)) ⟨t.k, t.v, t.d, t.p + 1⟩ hi0 (by omega) (by rw [et]; rfl)
  rw [mid_set] at r1
  have hpi : (t.p : Int) ≤ 1000000 := by omega
  have R1 := hide r1
  have F1 := hide f1
  clear r1 f1
  obtain ⟨n, hn⟩ : ∃ n, n = (X1 ++ t :: X2).length := ⟨_, rfl⟩
  obtain ⟨q, hq⟩ : ∃ q, q = X1.length := ⟨_, rfl⟩
  rw [← hq] at FA hi0 d2 d3 R1 F1
  rw [← hn] at hi0 c1 h1 hl
  have hidx : (0 : Int) ≤ (q : Int) ∧ (q : Int) < (n : Int) := ⟨by omega, by omega⟩
  have HN := hide hn
  clear hn hq h hk hg et d0 d1
  go_enter Try.func36, Try.ntmps36
  go_wp2_with fail
  refine (unhide FA).mono ?_
  rintro e w1 ⟨rfl, rfl⟩
  go_wp2
  go_ret
  exact ⟨rfl, ⟨_, unhide R1⟩, unhide F1⟩

set_option maxRecDepth 20000 in
set_option maxHeartbeats 1000000 in
theorem rDo_unpin0 (w : World) (N b M : Nat) (v0 : Value) (X1 X2 : List It) (t : It) (h : RC w N b M v0 (X1 ++ t :: X2)) (hk : ∀ x ∈ X1, x.k ≠ t.k) (hp : t.p = 0) (hN : N ≤ w.heap.size) :
    Calls Try.prog 36 #[.pointer (some ⟨b, 0, none⟩), .int .i64 2, .int .i64 t.k] w (GPost w N b M (.int .i64 72) (X1 ++ t :: X2)) := by
  have c1 := h.c1
  have hi0 : X1.length < (X1 ++ t :: X2).length := by simp
  obtain ⟨ao, cap, rfl, h1, h2, _⟩ := h.own.form
  obtain ⟨g, rfl, _, ⟨cur, hg⟩, d0, d1, d2, d3⟩ := h.own.at hi0
  have hl := h.len
  have et : (X1 ++ t :: X2)[X1.length] = t := by simp
  rw [et] at d2 d3
  have fz := h.row
  have H := hide h
  have FA := hide (rFind_some w N b M _ X1 X2 t h hk)
  rw [hp] at d3
  obtain ⟨n, hn⟩ : ∃ n, n = (X1 ++ t :: X2).length := ⟨_, rfl⟩
  obtain ⟨q, hq⟩ : ∃ q, q = X1.length := ⟨_, rfl⟩
  rw [← hq] at FA hi0 d2 d3
  rw [← hn] at hi0 c1 h1 hl
  have hidx : (0 : Int) ≤ (q : Int) ∧ (q : Int) < (n : Int) := ⟨by omega, by omega⟩
  have HN := hide hn
  clear hn hq h hk hg et d0 d1
  go_enter Try.func36, Try.ntmps36
  go_wp2_with fail
  refine (unhide FA).mono ?_
  rintro e w1 ⟨rfl, rfl⟩
  go_wp2
  go_ret
  exact ⟨rfl, ⟨_, unhide H⟩, RFr.refl _ _⟩

set_option maxRecDepth 20000 in
set_option maxHeartbeats 1000000 in
theorem rDo_unpin (w : World) (N b M : Nat) (v0 : Value) (X1 X2 : List It) (t : It) (h : RC w N b M v0 (X1 ++ t :: X2)) (hk : ∀ x ∈ X1, x.k ≠ t.k) (hp0 : t.p ≠ 0) (hp : t.p ≤ 1000000) (hN : N ≤ w.heap.size) :
    Calls Try.prog 36 #[.pointer (some ⟨b, 0, none⟩), .int .i64 2, .int .i64 t.k] w (GPost w N b M (.int .i64 0) (X1 ++ ⟨t.k, t.v, t.d, t.p - 1⟩ :: X2)) := by
  have c1 := h.c1
  have hi0 : X1.length < (X1 ++ t :: X2).length := by simp
  obtain ⟨ao, cap, rfl, h1, h2, _⟩ := h.own.form
  obtain ⟨g, rfl, _, ⟨cur, hg⟩, d0, d1, d2, d3⟩ := h.own.at hi0
  have hl := h.len
  have et : (X1 ++ t :: X2)[X1.length] = t := by simp
  rw [et] at d2 d3
  have fz := h.row
  have H := hide h
  have FA := hide (rFind_some w N b M _ X1 X2 t h hk)
  obtain ⟨z, hz⟩ : ∃ z, t.p = z + 1 := ⟨t.p - 1, by omega⟩
  obtain ⟨y, hy⟩ : ∃ y : Int, y = (z : Int) + 1 := ⟨_, rfl⟩
  obtain ⟨r1, f1⟩ := h.item X1.length 3 (.int .i64 (y - 1)) ⟨t.k, t.v, t.d, z⟩ hi0 (by omega) (by rw [et, show y - 1 = (z : Int) by omega]; rfl)
  rw [mid_set] at r1
  have e1 : t.p - 1 = z := by omega
  rw [e1]
  have e0 : ((t.p : Nat) : Int) = y := by omega
  rw [e0] at d3
  have hzb : (y == 0) = false := by simp; omega
  have hy1 : 1 ≤ y := by omega
  have hpi : y ≤ 1000000 := by omega
  have R1 := hide r1
  have F1 := hide f1
  clear r1 f1 e1 e0 hz hp hp0 hy
  obtain ⟨n, hn⟩ : ∃ n, n = (X1 ++ t :: X2).length := ⟨_, rfl⟩
  obtain ⟨q, hq⟩ : ∃ q, q = X1.length := ⟨_, rfl⟩
  rw [← hq] at FA hi0 d2 d3 R1 F1
  rw [← hn] at hi0 c1 h1 hl
  have hidx : (0 : Int) ≤ (q : Int) ∧ (q : Int) < (n : Int) := ⟨by omega, by omega⟩
  have HN := hide hn
  clear hn hq h hk hg et d0 d1
  go_enter Try.func36, Try.ntmps36
  go_wp2_with fail
  refine (unhide FA).mono ?_
  rintro e w1 ⟨rfl, rfl⟩
  go_wp2
  go_ret
  exact ⟨rfl, ⟨_, unhide R1⟩, unhide F1⟩

set_option maxRecDepth 20000 in
set_option maxHeartbeats 1000000 in
theorem rDo_clean (w : World) (N b M : Nat) (v0 : Value) (X1 X2 : List It) (t : It) (h : RC w N b M v0 (X1 ++ t :: X2)) (hk : ∀ x ∈ X1, x.k ≠ t.k) (hN : N ≤ w.heap.size) :
    Calls Try.prog 36 #[.pointer (some ⟨b, 0, none⟩), .int .i64 3, .int .i64 t.k] w (GPost w N b M (.int .i64 0) (X1 ++ ⟨t.k, t.v, false, t.p⟩ :: X2)) := by
  have c1 := h.c1
  have hi0 : X1.length < (X1 ++ t :: X2).length := by simp
  obtain ⟨ao, cap, rfl, h1, h2, _⟩ := h.own.form
  obtain ⟨g, rfl, _, ⟨cur, hg⟩, d0, d1, d2, d3⟩ := h.own.at hi0
  have hl := h.len
  have et : (X1 ++ t :: X2)[X1.length] = t := by simp
  rw [et] at d2 d3
  have fz := h.row
  have H := hide h
  have FA := hide (rFind_some w N b M _ X1 X2 t h hk)
  obtain ⟨r1, f1⟩ := h.item X1.length 2 (.bool false) ⟨t.k, t.v, false, t.p⟩ hi0 (by omega) (by rw [et]; rfl)
  rw [mid_set] at r1
  have R1 := hide r1
  have F1 := hide f1
  clear r1 f1
  obtain ⟨n, hn⟩ : ∃ n, n = (X1 ++ t :: X2).length := ⟨_, rfl⟩
  obtain ⟨q, hq⟩ : ∃ q, q = X1.length := ⟨_, rfl⟩
  rw [← hq] at FA hi0 d2 d3 R1 F1
  rw [← hn] at hi0 c1 h1 hl
  have hidx : (0 : Int) ≤ (q : Int) ∧ (q : Int) < (n : Int) := ⟨by omega, by omega⟩
  have HN := hide hn
  clear hn hq h hk hg et d0 d1
  go_enter Try.func36, Try.ntmps36
  go_wp2_with fail
  refine (unhide FA).mono ?_
  rintro e w1 ⟨rfl, rfl⟩
  go_wp2
  go_ret
  exact ⟨rfl, ⟨_, unhide R1⟩, unhide F1⟩

set_option maxRecDepth 20000 in
set_option maxHeartbeats 1000000 in
theorem rDo_drop1 (w : World) (N b M : Nat) (v0 : Value) (X1 X2 : List It) (t : It) (h : RC w N b M v0 (X1 ++ t :: X2)) (hk : ∀ x ∈ X1, x.k ≠ t.k) (hp : t.p ≠ 0) (hN : N ≤ w.heap.size) :
    Calls Try.prog 36 #[.pointer (some ⟨b, 0, none⟩), .int .i64 4, .int .i64 t.k] w (GPost w N b M (.int .i64 72) (X1 ++ t :: X2)) := by
  have c1 := h.c1
  have hi0 : X1.length < (X1 ++ t :: X2).length := by simp
  obtain ⟨ao, cap, rfl, h1, h2, _⟩ := h.own.form
  obtain ⟨g, rfl, _, ⟨cur, hg⟩, d0, d1, d2, d3⟩ := h.own.at hi0
  have hl := h.len
  have et : (X1 ++ t :: X2)[X1.length] = t := by simp
  rw [et] at d2 d3
  have fz := h.row
  have H := hide h
  have FA := hide (rFind_some w N b M _ X1 X2 t h hk)
  have hp1 : (0 : Int) < (t.p : Int) := by omega
  obtain ⟨n, hn⟩ : ∃ n, n = (X1 ++ t :: X2).length := ⟨_, rfl⟩
  obtain ⟨q, hq⟩ : ∃ q, q = X1.length := ⟨_, rfl⟩
  rw [← hq] at FA hi0 d2 d3
  rw [← hn] at hi0 c1 h1 hl
  have hidx : (0 : Int) ≤ (q : Int) ∧ (q : Int) < (n : Int) := ⟨by omega, by omega⟩
  have HN := hide hn
  clear hn hq h hk hg et d0 d1
  go_enter Try.func36, Try.ntmps36
  go_wp2_with fail
  refine (unhide FA).mono ?_
  rintro e w1 ⟨rfl, rfl⟩
  go_wp2
  go_ret
  exact ⟨rfl, ⟨_, unhide H⟩, RFr.refl _ _⟩

set_option maxRecDepth 20000 in
set_option maxHeartbeats 1000000 in
theorem rDo_drop (w : World) (N b M : Nat) (v0 : Value) (X1 X2 : List It) (t : It) (h : RC w N b M v0 (X1 ++ t :: X2)) (hk : ∀ x ∈ X1, x.k ≠ t.k) (hp : t.p = 0) (hN : N ≤ w.heap.size) :
    Calls Try.prog 36 #[.pointer (some ⟨b, 0, none⟩), .int .i64 4, .int .i64 t.k] w (GPost w N b M (.int .i64 0) (X1 ++ X2)) := by
  have c1 := h.c1
  have hi0 : X1.length < (X1 ++ t :: X2).length := by simp
  obtain ⟨ao, cap, rfl, h1, h2, _⟩ := h.own.form
  obtain ⟨g, rfl, _, ⟨cur, hg⟩, d0, d1, d2, d3⟩ := h.own.at hi0
  have hl := h.len
  have et : (X1 ++ t :: X2)[X1.length] = t := by simp
  rw [et] at d2 d3
  have fz := h.row
  have H := hide h
  have FA := hide (rFind_some w N b M _ X1 X2 t h hk)
  rw [hp] at d3
  have WA := hide (rwithout_any w N b M _ X1 X2 t h)
  have hxl : Hid ((X1 ++ X2).length ≤ 1024) := hide (by simp at hl ⊢; omega)
  obtain ⟨n, hn⟩ : ∃ n, n = (X1 ++ t :: X2).length := ⟨_, rfl⟩
  obtain ⟨q, hq⟩ : ∃ q, q = X1.length := ⟨_, rfl⟩
  rw [← hq] at FA hi0 d2 d3 WA
  rw [← hn] at hi0 c1 h1 hl
  have hidx : (0 : Int) ≤ (q : Int) ∧ (q : Int) < (n : Int) := ⟨by omega, by omega⟩
  have HN := hide hn
  clear hn hq h hk hg et d0 d1
  go_enter Try.func36, Try.ntmps36
  go_wp2_with fail
  refine (unhide FA).mono ?_
  rintro e w1 ⟨rfl, rfl⟩
  go_wp2_with fail
  refine (unhide WA).mono ?_
  rintro e w3 ⟨u, rfl, o3, g3⟩
  obtain ⟨r5, f5⟩ := RC.put (unhide H) g3 (o3.mono hN) (unhide hxl)
  have hb3 := (unhide H).grown g3
  have e31 := hb3.c1
  rw [← unhide HN] at e31
  have fz3 := hb3.fz
  obtain ⟨ao3, cap3, hv3, _⟩ := o3.form
  obtain ⟨n3, hn3⟩ : ∃ n3, u = .slice ao3 n3 cap3 := ⟨_, hv3⟩
  clear hv3
  subst hn3
  have R5 := hide r5
  have F5 := hide f5
  clear r5 f5 hb3 o3 g3
  go_wp2
  go_ret
  exact ⟨rfl, ⟨_, unhide R5⟩, unhide F5⟩
end Go.Proofs.Ytmhlfbgchhmffaa
