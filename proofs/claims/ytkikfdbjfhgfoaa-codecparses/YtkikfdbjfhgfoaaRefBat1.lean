/-
  DERIVED. The document's cursor over a batch's bytes: Text, Number, Byte. What is read is what was laid, where something was.
-/
import Derived.Test.YtkikfdbjfhgfoaaRefRead2
import Derived.Test.YtkikfdbjfhgfoaaRdr
import Derived.Deep.AppendLies
namespace Go.Proofs.Ytkikfdbjfhgfoaa
open Go.RowKit
set_option linter.unusedVariables false

theorem Sl.dropv {w0 : World} {ao : Option Addr} {n cap : Nat} {l : List UInt8} (h : Sl w0 (.slice ao n cap) l) (K : Nat) (hK : K ≤ l.length) (A : Option Addr) (m c2 : Nat) (hm : m = l.length - K) (hc : c2 = cap - K) (hA : A = ao.map (fun x => x.add K) ∨ c2 = 0) : Sl w0 (.slice A m c2) (l.drop K) := by
  subst hm hc
  obtain ⟨ao', cap', e, h1, h2, h4⟩ := h
  injection e with e1 e2 e3
  subst e1 e3
  refine ⟨A, cap - K, by rw [List.length_drop], by rw [List.length_drop]; omega, by omega, fun hne => ?_⟩
  obtain ⟨b', off, rfl, hb, hcc⟩ := h4 (by omega)
  rcases hA with rfl | h0
  · refine ⟨b', off + K, by simp [addr_add], hb, fun i hi => ?_⟩
    rw [List.length_drop] at hi
    rw [List.getElem_drop, Nat.add_assoc]
    exact hcc (K + i) (by omega)
  · omega
/-- A cursor at block b, over bytes that lay there in w0. -/
structure CuAt (w0 w : World) (b : Nat) (bad : Bool) (l : List UInt8) : Prop where
  ex : ∃ v, w.heap[b]? = some (.cells #[v, .bool bad] 70 (0, 0)) ∧ Sl w0 v l
  new : w0.heap.size ≤ b
  grown : w0.grownBy w none
theorem CuAt.lt {w0 w : World} {b : Nat} {bad : Bool} {l : List UInt8} (h : CuAt w0 w b bad l) : b < w.heap.size := by
  obtain ⟨v, hv, _⟩ := h.ex; exact lt_of_block hv
theorem CuAt.kept {w0 w w' : World} {b : Nat} {bad : Bool} {l : List UInt8} (h : CuAt w0 w b bad l) (hg : w.grownBy w' none) : CuAt w0 w' b bad l := by
  obtain ⟨v, hv, hs⟩ := h.ex
  exact ⟨⟨v, (hg.block b h.lt (by simp)).trans hv, hs⟩, h.new, h.grown.trans hg⟩
theorem CuAt.beside {w0 w w' : World} {b : Nat} {q : Option Nat} {bad : Bool} {l : List UInt8} (h : CuAt w0 w b bad l) (hg : w.grownBy w' q) (hq : ∀ j, q = some j → w0.heap.size ≤ j ∧ j ≠ b) : CuAt w0 w' b bad l := by
  obtain ⟨v, hv, hs⟩ := h.ex
  exact ⟨⟨v, (hg.block b h.lt (fun e => (hq b e.symm).2 rfl)).trans hv, hs⟩, h.new, h.grown.andThen hg (fun j e => .inl (hq j e).1)⟩
theorem CuAt.flag {w0 w : World} {b : Nat} {bad : Bool} {l : List UInt8} (h : CuAt w0 w b bad l) : w.cell? ⟨b, 1, none⟩ = some (.bool bad) ∧ w.frozen? ⟨b, 1, none⟩ = false := by
  obtain ⟨v, hv, hs⟩ := h.ex
  exact ⟨(cell_of_row _ _ _ _ _ _ hv).trans rfl, by simp [World.frozen?, hv]⟩
theorem CuAt.bytes {w0 w : World} {b : Nat} {bad : Bool} {l : List UInt8} (h : CuAt w0 w b bad l) : ∃ ao cap, w.cell? ⟨b, 0, none⟩ = some (.slice ao l.length cap) ∧ w.frozen? ⟨b, 0, none⟩ = false ∧ l.length ≤ cap ∧ cap ≤ 9223372036854775807 ∧ Sl w0 (.slice ao l.length cap) l := by
  obtain ⟨v, hv, hs⟩ := h.ex
  obtain ⟨ao, cap, rfl, h1, h2, h4⟩ := id hs
  unfold maxLen at h2
  exact ⟨ao, cap, (cell_of_row _ _ _ _ _ _ hv).trans rfl, by simp [World.frozen?, hv], h1, by omega, hs⟩
theorem CuAt.setBad {w0 w : World} {b : Nat} {bad : Bool} {l : List UInt8} (h : CuAt w0 w b bad l) : CuAt w0 (w.setCell ⟨b, 1, none⟩ (.bool true)) b true l := by
  obtain ⟨v, hv, hs⟩ := h.ex
  refine ⟨⟨v, ?_, hs⟩, h.new, own_step h.grown h.new (setCell_grown _ _ _ _)⟩
  rw [heap_setCell_same w b 1 _ _ _ hv]; rfl
theorem CuAt.setB {w0 w : World} {b : Nat} {bad : Bool} {l : List UInt8} (h : CuAt w0 w b bad l) (v' : Value) (l' : List UInt8) (hs' : Sl w0 v' l') : CuAt w0 (w.setCell ⟨b, 0, none⟩ v') b bad l' := by
  obtain ⟨v, hv, hs⟩ := h.ex
  refine ⟨⟨v', ?_, hs'⟩, h.new, own_step h.grown h.new (setCell_grown _ _ _ _)⟩
  rw [heap_setCell_same w b 0 _ _ _ hv]; rfl

def CTextPost (w0 w : World) (b : Nat) (bad : Bool) (l : List UInt8) (o : Ending) (w' : World) : Prop := ∃ s l' bad', o = .returned (sv s) ∧ CuAt w0 w' b bad' l' ∧ w.grownBy w' (some b) ∧ s.length ≤ 2000 ∧ ∀ t r, l = layT t ++ r → t.length ≤ 2000 → s = t ∧ l' = r ∧ bad' = bad
set_option maxRecDepth 20000 in
set_option maxHeartbeats 4000000 in
theorem cText_any (w0 w : World) (b : Nat) (bad : Bool) (l : List UInt8) (h : CuAt w0 w b bad l) :
    Calls Try.prog 31 #[.pointer (some ⟨b, 0, none⟩)] w (CTextPost w0 w b bad l) := by
  obtain ⟨ao, cap, c0, z0, hr1, hr2, hsl⟩ := h.bytes
  have HT := hide (rText_any (.slice ao l.length cap) l 2000 w (hsl.kept h.grown) (by omega) (by omega))
  have hK := (pc_room l 2000).1
  have HB : Hid (∀ t r, l = layT t ++ r → t.length ≤ 2000 → pcE l 2000 = 0 ∧ pcK l 2000 = (layT t).length ∧ pcD l 2000 = t) := hide fun t r hl ht => by
    have := pc_lay t r 2000 ht (by omega)
    rw [hl]; exact this
  have hD := (pc_room l 2000).2
  have hE0 : pcE l 2000 ≠ 0 → pcD l 2000 = [] := fun h => by unfold pcD; rw [if_neg h]
  obtain ⟨D, hDe⟩ : ∃ D, D = pcD l 2000 := ⟨_, rfl⟩
  obtain ⟨E, hEe⟩ : ∃ E, E = pcE l 2000 := ⟨_, rfl⟩
  obtain ⟨K, hKe⟩ : ∃ K, K = pcK l 2000 := ⟨_, rfl⟩
  have HT2 : Hid (Calls Try.prog 48 #[.slice ao l.length cap, .int .i64 2000] w fun e w' => e = .returned (.tuple #[.string ⟨D.toArray⟩, .int .i64 (K : Int), .int .i64 (E : Int)]) ∧ Below w.heap.size w w') := hide (by rw [hDe, hEe, hKe]; exact unhide HT)
  have hK : K ≤ l.length := by rw [hKe]; exact hK
  have hD : D.length ≤ 2000 := by rw [hDe]; exact hD
  have HB2 : Hid (∀ t r, l = layT t ++ r → t.length ≤ 2000 → E = 0 ∧ K = (layT t).length ∧ D = t) := hide (by rw [hDe, hEe, hKe]; exact unhide HB)
  have hE0 : E ≠ 0 → D = [] := by rw [hDe, hEe]; exact hE0
  have HC := hide h
  have HSL := hide hsl
  clear hDe hEe hKe HT HB h hsl
  by_cases he : E = 0
  · subst he
    have FIN : Hid (∀ w1 v', Below w.heap.size w w1 → Sl w0 v' (l.drop K) → CTextPost w0 w b bad l (.returned (sv D)) (w1.setCell ⟨b, 0, none⟩ v')) := hide fun w1 v' hb hs => by
      have g1 := grown_of_below hb
      refine ⟨D, l.drop K, bad, rfl, ((unhide HC).kept g1).setB _ _ hs, (g1.but _).trans (setCell_grown _ _ _ _), hD, fun t r hl ht => ?_⟩
      obtain ⟨_, q2, q3⟩ := unhide HB2 t r hl ht
      exact ⟨q3, by rw [q2, hl]; exact List.drop_left, rfl⟩
    have HSd : Hid (∀ (A : Option Addr) (m c2 : Nat), m = l.length - K → c2 = cap - K → (A = ao.map (fun x => x.add K) ∨ c2 = 0) → Sl w0 (.slice A m c2) (l.drop K)) := hide fun A m c2 => (unhide HSL).dropv K hK A m c2
    have HLT := hide (unhide HC).lt
    obtain ⟨n, hn⟩ : ∃ n, n = l.length := ⟨_, rfl⟩
    have HC2 : Hid (∀ w1, Below w.heap.size w w1 → w1.cell? ⟨b, 0, none⟩ = some (.slice ao n cap) ∧ w1.frozen? ⟨b, 0, none⟩ = false) := hide fun w1 hb => by
      have hlt := unhide HLT
      have e1 := hb.cell (p := ⟨b, 0, none⟩) hlt
      rw [e1, hn]
      exact ⟨c0, (World.grownBy.frozen_far (grown_of_below hb) ⟨b, 0, none⟩ hlt (by simp)).trans z0⟩
    rw [← hn] at hK hr1 HSd c0 HT2
    clear hn HSL HC HB2 hE0 HLT z0
    have hKI : (K : Int) ≤ (n : Int) := by omega
    have hnI : (n : Int) ≤ (cap : Int) := by omega
    have hcapI : (cap : Int) ≤ 9223372036854775807 := by omega
    by_cases hk0 : K = 0
    · subst hk0
      by_cases hkc : cap = 0
      · obtain rfl : n = 0 := by omega
        subst hkc
        go_enter Try.func31, Try.ntmps31
        go_wp2_with fail
        refine (unhide HT2).mono ?_
        rintro e w1 ⟨rfl, b1⟩
        obtain ⟨d0, d1⟩ := unhide HC2 w1 b1
        have F := hide (fun v' => unhide FIN w1 v' b1)
        clear b1 c0 HC2 HT2 hKI hnI hcapI
        go_wp2
        go_ret
        exact unhide F _ (unhide HSd _ _ _ (by omega) (by omega) (.inr rfl))
      · go_enter Try.func31, Try.ntmps31
        go_wp2_with fail
        refine (unhide HT2).mono ?_
        rintro e w1 ⟨rfl, b1⟩
        obtain ⟨d0, d1⟩ := unhide HC2 w1 b1
        have F := hide (fun v' => unhide FIN w1 v' b1)
        clear b1 c0 HC2 HT2 hKI
        go_wp2
        go_ret
        exact unhide F _ (unhide HSd _ _ _ (by omega) (by omega) (.inl (by cases ao <;> simp [Addr.add])))
    · by_cases hkc : cap = K
      · obtain rfl : n = K := by omega
        subst hkc
        go_enter Try.func31, Try.ntmps31
        go_wp2_with fail
        refine (unhide HT2).mono ?_
        rintro e w1 ⟨rfl, b1⟩
        obtain ⟨d0, d1⟩ := unhide HC2 w1 b1
        have F := hide (fun v' => unhide FIN w1 v' b1)
        clear b1 c0 HC2 HT2 hKI hnI
        go_wp2
        go_ret
        exact unhide F _ (unhide HSd _ _ _ (by omega) (by omega) (.inr rfl))
      · go_enter Try.func31, Try.ntmps31
        go_wp2_with fail
        refine (unhide HT2).mono ?_
        rintro e w1 ⟨rfl, b1⟩
        obtain ⟨d0, d1⟩ := unhide HC2 w1 b1
        have F := hide (fun v' => unhide FIN w1 v' b1)
        clear b1 c0 HC2 HT2
        go_wp2
        go_ret
        exact unhide F _ (unhide HSd _ _ _ rfl rfl (.inl rfl))
  · have hd := hE0 he
    subst hd
    have FIN : Hid (∀ w1, Below w.heap.size w w1 → CTextPost w0 w b bad l (.returned (sv [])) (w1.setCell ⟨b, 1, none⟩ (.bool true)) ∧ w1.cell? ⟨b, 1, none⟩ = some (.bool bad) ∧ w1.frozen? ⟨b, 1, none⟩ = false) := hide fun w1 hb => by
      have g1 := grown_of_below hb
      refine ⟨⟨[], l, true, rfl, ((unhide HC).kept g1).setBad, (g1.but _).trans (setCell_grown _ _ _ _), hD, fun t r hl ht => ?_⟩, ((unhide HC).kept g1).flag⟩
      exact absurd (unhide HB2 t r hl ht).1 he
    have hE : ¬ (E : Int) = 0 := by omega
    clear HB2 HC HSL hE0 he
    go_enter Try.func31, Try.ntmps31
    go_wp2_with fail
    refine (unhide HT2).mono ?_
    rintro e w1 ⟨rfl, b1⟩
    obtain ⟨f1, d0, d1⟩ := unhide FIN w1 b1
    have F := hide f1
    clear b1 c0 f1 FIN HT2
    go_wp2
    go_ret
    exact unhide F

def CNumPost (w0 w : World) (b : Nat) (bad : Bool) (l : List UInt8) (most : Nat) (o : Ending) (w' : World) : Prop := ∃ (n : Nat) (l' : List UInt8) (bad' : Bool), o = .returned (.int .i64 (n : Int)) ∧ CuAt w0 w' b bad' l' ∧ w.grownBy w' (some b) ∧ n ≤ most ∧ ∀ m r, l = lay m ++ r → m ≤ most → n = m ∧ l' = r ∧ bad' = bad
set_option maxRecDepth 20000 in
set_option maxHeartbeats 4000000 in
theorem cNumber_any (w0 w : World) (b : Nat) (bad : Bool) (l : List UInt8) (h : CuAt w0 w b bad l) (most : Nat) (hm : most ≤ 1099511627776) :
    Calls Try.prog 32 #[.pointer (some ⟨b, 0, none⟩), .int .u64 (most : Int)] w (CNumPost w0 w b bad l most) := by
  obtain ⟨ao, cap, c0, z0, hr1, hr2, hsl⟩ := h.bytes
  obtain ⟨N, K, E, hr⟩ : ∃ n k e, rd l = (n, k, e) := ⟨_, _, _, rfl⟩
  have HT2 := hide (rUint_at (.slice ao l.length cap) l N K E w (hsl.kept h.grown) hr)
  obtain ⟨f1, f2, f3, f4⟩ := rd_facts l
  have HB2 : Hid (∀ m r, l = lay m ++ r → m ≤ most → N = m ∧ K = (lay m).length ∧ E = 0) := hide fun m r hl hm2 => by
    have q := rd_lay m (by omega) r
    rw [← hl, hr] at q
    simpa using q
  rw [hr] at f1 f2 f3 f4
  simp only at f1 f2 f3 f4
  have HC := hide h
  have HSL := hide hsl
  clear h hsl hr f2
  by_cases hok : E = 0 ∧ N ≤ most
  · obtain ⟨rfl, hN⟩ := hok
    have hK := (f4 rfl).2.1
    have hk0 : ¬ K = 0 := by have := (f4 rfl).1; omega
    have FIN : Hid (∀ w1 v', Below w.heap.size w w1 → Sl w0 v' (l.drop K) → CNumPost w0 w b bad l most (.returned (.int .i64 (N : Int))) (w1.setCell ⟨b, 0, none⟩ v')) := hide fun w1 v' hb hs => by
      have g1 := grown_of_below hb
      refine ⟨N, l.drop K, bad, rfl, ((unhide HC).kept g1).setB _ _ hs, (g1.but _).trans (setCell_grown _ _ _ _), hN, fun m r hl hm2 => ?_⟩
      obtain ⟨q1, q2, q3⟩ := unhide HB2 m r hl hm2
      exact ⟨q1, by rw [q2, hl]; exact List.drop_left, rfl⟩
    have HSd : Hid (∀ (A : Option Addr) (m c2 : Nat), m = l.length - K → c2 = cap - K → (A = ao.map (fun x => x.add K) ∨ c2 = 0) → Sl w0 (.slice A m c2) (l.drop K)) := hide fun A m c2 => (unhide HSL).dropv K hK A m c2
    have HLT := hide (unhide HC).lt
    obtain ⟨n, hn⟩ : ∃ n, n = l.length := ⟨_, rfl⟩
    have HC2 : Hid (∀ w1, Below w.heap.size w w1 → w1.cell? ⟨b, 0, none⟩ = some (.slice ao n cap) ∧ w1.frozen? ⟨b, 0, none⟩ = false) := hide fun w1 hb => by
      have hlt := unhide HLT
      have e1 := hb.cell (p := ⟨b, 0, none⟩) hlt
      rw [e1, hn]
      exact ⟨c0, (World.grownBy.frozen_far (grown_of_below hb) ⟨b, 0, none⟩ hlt (by simp)).trans z0⟩
    rw [← hn] at hK hr1 HSd c0 HT2
    clear hn HSL HC HB2 HLT z0 f1 f3 f4
    have hKI : (K : Int) ≤ (n : Int) := by omega
    have hnI : (n : Int) ≤ (cap : Int) := by omega
    have hcapI : (cap : Int) ≤ 9223372036854775807 := by omega
    have hNI : (N : Int) ≤ (most : Int) := by omega
    have hwr : IntKind.i64.wrap (N : Int) = (N : Int) := by rw [IntKind.wrap_i64]; omega
    by_cases hkc : cap = K
    · obtain rfl : n = K := by omega
      subst hkc
      go_enter Try.func32, Try.ntmps32
      go_wp2_with fail
      refine (unhide HT2).mono ?_
      rintro e w1 ⟨rfl, b1⟩
      obtain ⟨d0, d1⟩ := unhide HC2 w1 b1
      have F := hide (fun v' => unhide FIN w1 v' b1)
      clear b1 c0 HC2 HT2 hKI hnI hk0
      go_wp2
      go_ret
      exact unhide F _ (unhide HSd _ _ _ (by omega) (by omega) (.inr rfl))
    · go_enter Try.func32, Try.ntmps32
      go_wp2_with fail
      refine (unhide HT2).mono ?_
      rintro e w1 ⟨rfl, b1⟩
      obtain ⟨d0, d1⟩ := unhide HC2 w1 b1
      have F := hide (fun v' => unhide FIN w1 v' b1)
      clear b1 c0 HC2 HT2
      go_wp2
      go_ret
      exact unhide F _ (unhide HSd _ _ _ rfl rfl (.inl rfl))
  · have FIN : Hid (∀ w1, Below w.heap.size w w1 → CNumPost w0 w b bad l most (.returned (.int .i64 0)) (w1.setCell ⟨b, 1, none⟩ (.bool true)) ∧ w1.cell? ⟨b, 1, none⟩ = some (.bool bad) ∧ w1.frozen? ⟨b, 1, none⟩ = false) := hide fun w1 hb => by
      have g1 := grown_of_below hb
      refine ⟨⟨0, l, true, rfl, ((unhide HC).kept g1).setBad, (g1.but _).trans (setCell_grown _ _ _ _), Nat.zero_le _, fun m r hl hm2 => ?_⟩, ((unhide HC).kept g1).flag⟩
      obtain ⟨q1, q2, q3⟩ := unhide HB2 m r hl hm2
      exact absurd ⟨q3, by omega⟩ hok
    by_cases hE : E = 0
    · have hN32 : (most : Int) < (N : Int) := by omega
      subst hE
      clear hok HB2 HC HSL f1 f3 f4
      go_enter Try.func32, Try.ntmps32
      go_wp2_with fail
      refine (unhide HT2).mono ?_
      rintro e w1 ⟨rfl, b1⟩
      obtain ⟨p1, d0, d1⟩ := unhide FIN w1 b1
      have F := hide p1
      clear b1 c0 p1 FIN HT2
      go_wp2
      go_ret
      exact unhide F
    · have hE' : ¬ (E : Int) = 0 := by omega
      clear hok HB2 HC HSL f1 f3 f4
      go_enter Try.func32, Try.ntmps32
      go_wp2_with fail
      refine (unhide HT2).mono ?_
      rintro e w1 ⟨rfl, b1⟩
      obtain ⟨p1, d0, d1⟩ := unhide FIN w1 b1
      have F := hide p1
      clear b1 c0 p1 FIN HT2
      go_wp2
      go_ret
      exact unhide F

def CBytePost (w0 w : World) (b : Nat) (bad : Bool) (l : List UInt8) (o : Ending) (w' : World) : Prop := ∃ (c : UInt8) (l' : List UInt8) (bad' : Bool), o = .returned (bv c) ∧ CuAt w0 w' b bad' l' ∧ w.grownBy w' (some b) ∧ ∀ c' r, l = c' :: r → c = c' ∧ l' = r ∧ bad' = bad
set_option maxRecDepth 20000 in
set_option maxHeartbeats 4000000 in
theorem cByte_any (w0 w : World) (b : Nat) (bad : Bool) (l : List UInt8) (h : CuAt w0 w b bad l) :
    Calls Try.prog 33 #[.pointer (some ⟨b, 0, none⟩)] w (CBytePost w0 w b bad l) := by
  obtain ⟨ao, cap, c0, z0, hr1, hr2, hsl⟩ := h.bytes
  obtain ⟨d0, d1⟩ := h.flag
  have HC := hide h
  cases l with
  | nil =>
    have FIN : Hid (CBytePost w0 w b bad [] (.returned (bv 9)) (w.setCell ⟨b, 1, none⟩ (.bool true))) := hide ⟨9, [], true, rfl, (unhide HC).setBad, setCell_grown _ _ _ _, fun c' r hl => by cases hl⟩
    simp only [List.length_nil] at c0
    clear h hsl HC
    go_enter Try.func33, Try.ntmps33
    go_wp2
    go_ret
    exact unhide FIN
  | cons c r =>
    have hcl := hsl.kept h.grown
    obtain ⟨n, hn⟩ : ∃ n, n = (c :: r).length := ⟨_, rfl⟩
    have hn1 : 1 ≤ n := by rw [hn]; simp
    obtain ⟨ao', cap', e, _, _, h4⟩ := hcl
    injection e with e1 e2 e3
    subst e1 e3
    obtain ⟨bb, off, rfl, hb, hcc⟩ := h4 (by omega)
    have cb := hcc 0 (by simp)
    rw [Nat.add_zero] at cb
    have cb' : w.cell? ⟨bb, off, none⟩ = some (bv c) := cb
    have FIN : Hid (∀ v', Sl w0 v' r → CBytePost w0 w b bad (c :: r) (.returned (bv c)) (w.setCell ⟨b, 0, none⟩ v')) := hide fun v' hs => ⟨c, r, bad, rfl, (unhide HC).setB _ _ hs, setCell_grown _ _ _ _, fun c' r' hl => by cases hl; exact ⟨rfl, rfl, rfl⟩⟩
    have HSd : Hid (∀ (A : Option Addr) (m c2 : Nat), m = n - 1 → c2 = cap - 1 → (A = some ⟨bb, off + 1, none⟩ ∨ c2 = 0) → Sl w0 (.slice A m c2) r) := hide fun A m c2 h1 h2 h3 => by
      have := hsl.dropv 1 (by rw [← hn]; exact hn1) A m c2 (by rw [← hn]; exact h1) h2 (by rcases h3 with h3 | h3; exact .inl (by rw [h3]; simp [addr_add]); exact .inr h3)
      exact this
    rw [← hn] at hr1 c0
    have hnI : (1 : Int) ≤ (n : Int) := by omega
    have hncI : (n : Int) ≤ (cap : Int) := by omega
    have hcapI : (cap : Int) ≤ 9223372036854775807 := by omega
    have hn0 : ¬ n = 0 := by omega
    clear h hsl HC h4 hcc cb hn e2 d0 d1
    by_cases hc1 : cap = 1
    · obtain rfl : n = 1 := by omega
      subst hc1
      clear hnI hncI hcapI
      go_enter Try.func33, Try.ntmps33
      go_wp2
      go_ret
      exact unhide FIN _ (unhide HSd _ _ _ (by omega) (by omega) (.inr rfl))
    · go_enter Try.func33, Try.ntmps33
      go_wp2
      go_ret
      exact unhide FIN _ (unhide HSd _ _ _ rfl rfl (.inl (by simp)))
end Go.Proofs.Ytkikfdbjfhgfoaa
