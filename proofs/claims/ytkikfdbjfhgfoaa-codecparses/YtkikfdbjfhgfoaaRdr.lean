/-
  DERIVED. The reader of a batch's parts: take, text, number, integer. What is read is what was laid, where something was.
-/
import Derived.Test.YtkikfdbjfhgfoaaText
import Derived.Test.YtkikfdbjfhgfoaaEvMath
import Derived.Maps.RangeWalk
import Derived.Maps.AppendAt
namespace Go.Proofs.Ytkikfdbjfhgfoaa
open Go.RowKit
set_option linter.unusedVariables false

theorem setCell_grown (w : World) (b k : Nat) (v : Value) : w.grownBy (w.setCell ⟨b, k, none⟩ v) (some b) := ⟨rfl, rfl, rfl, by simp, fun q _ hq => Below.heap_setCell w ⟨b, k, none⟩ v q (fun e => hq (by rw [e]))⟩
theorem grown_of_below {w w' : World} (h : Below w.heap.size w w') : w.grownBy w' none := ⟨h.os, h.tape, h.output, h.size, fun k hk _ => h.block k hk⟩
theorem below_of_grown {w w' : World} (h : w.grownBy w' none) : Below w.heap.size w w' := ⟨h.os, h.tape, h.output, h.size, fun k hk => h.block k hk (by simp)⟩
theorem own_step {w w1 w2 : World} {b : Nat} (h : w.grownBy w1 none) (hb : w.heap.size ≤ b) (k : w1.grownBy w2 (some b)) : w.grownBy w2 none := h.andThen k (fun j e => by cases e; exact .inl hb)
theorem Sl.kept {w w' : World} {v : Value} {l : List UInt8} (h : Sl w v l) (hg : w.grownBy w' none) : Sl w' v l := h.below (below_of_grown hg) (Nat.le_refl _)

theorem pc_lay (t r : List UInt8) (most : Nat) (ht : t.length ≤ most) (hm : most ≤ 9223372036854775807) : pcE (layT t ++ r) most = 0 ∧ pcK (layT t ++ r) most = (layT t).length ∧ pcD (layT t ++ r) most = t := by
  have hr : rd (layT t ++ r) = (t.length, (lay t.length).length, 0) := by
    unfold layT
    rw [List.append_assoc]
    exact rd_lay _ (by omega) _
  have hE : pcE (layT t ++ r) most = 0 := by
    unfold pcE
    rw [hr]
    simp only
    rw [if_neg (by simp), if_neg (by omega), if_neg (by simp only [layT, List.length_append]; omega)]
  refine ⟨hE, ?_, ?_⟩
  · unfold pcK; rw [if_pos hE, hr]; simp [layT]
  · unfold pcD; rw [if_pos hE, hr]; simp [layT]
theorem pc_room (l : List UInt8) (most : Nat) : pcK l most ≤ l.length ∧ (pcD l most).length ≤ most := by
  by_cases h : pcE l most = 0
  · obtain ⟨n, k, h1, h2, h3, h4, h5⟩ := pc_zero h
    rw [h4, h5]
    refine ⟨h3, ?_⟩
    rw [List.length_take]
    omega
  · unfold pcK pcD
    rw [if_neg h, if_neg h]
    exact ⟨Nat.zero_le _, Nat.zero_le _⟩
theorem rdI_range (l : List UInt8) : -9223372036854775808 ≤ rdI l ∧ rdI l ≤ 9223372036854775807 := by
  have h := (rd_facts l).1
  unfold rdI
  split
  · unfold unz
    split <;> omega
  · omega

/-- A reader at block b, over bytes that lay there in w0. -/
structure RrAt (w0 w : World) (b : Nat) (l : List UInt8) : Prop where
  ex : ∃ v, w.heap[b]? = some (.cells #[v] 65 (0, 0)) ∧ Sl w0 v l
  new : w0.heap.size ≤ b
  grown : w0.grownBy w none
theorem RrAt.lt {w0 w : World} {b : Nat} {l : List UInt8} (h : RrAt w0 w b l) : b < w.heap.size := by
  obtain ⟨v, hv, _⟩ := h.ex; exact lt_of_block hv
theorem RrAt.kept {w0 w w' : World} {b : Nat} {l : List UInt8} (h : RrAt w0 w b l) (hg : w.grownBy w' none) : RrAt w0 w' b l := by
  obtain ⟨v, hv, hs⟩ := h.ex
  exact ⟨⟨v, (hg.block b h.lt (by simp)).trans hv, hs⟩, h.new, h.grown.trans hg⟩
/-- Another block of this world's own has turned. -/
theorem RrAt.beside {w0 w w' : World} {b q : Nat} {l : List UInt8} (h : RrAt w0 w b l) (hg : w.grownBy w' (some q)) (hq : w0.heap.size ≤ q) (hne : q ≠ b) : RrAt w0 w' b l := by
  obtain ⟨v, hv, hs⟩ := h.ex
  exact ⟨⟨v, (hg.block b h.lt (fun e => hne (by cases e; rfl))).trans hv, hs⟩, h.new, own_step h.grown hq hg⟩

def TakePost (w0 w : World) (b : Nat) (l : List UInt8) (o : Ending) (w' : World) : Prop := (∃ x, o = .returned x) ∧ RrAt w0 w' b l ∧ w.grownBy w' (some b)
set_option maxRecDepth 20000 in
set_option maxHeartbeats 4000000 in
theorem take_ok (w0 w : World) (b : Nat) (l : List UInt8) (h : RrAt w0 w b l) (K : Nat) (hKl : K ≤ l.length) :
    Calls Try.prog 57 #[.pointer (some ⟨b, 0, none⟩), .int .i64 (K : Int), .int .i64 0] w (TakePost w0 w b (l.drop K)) := by
  have HC := hide h
  obtain ⟨v, hblk, hsl⟩ := h.ex
  have c0 : w.cell? ⟨b, 0, none⟩ = some v := (cell_of_row _ _ _ _ _ _ hblk).trans rfl
  have fz : ∀ i, w.frozen? ⟨b, i, none⟩ = false := fun i => by simp [World.frozen?, hblk]
  have fz0 := fz 0
  have HSL := hide hsl
  obtain ⟨ao, cap, hv, hr1, hr2, hr4⟩ := hsl
  clear hr4
  unfold maxLen at hr2
  have HSd : Hid (∀ (A : Option Addr) (m c2 : Nat), m = l.length - K → c2 = cap - K → (A = ao.map (fun x => x.add K) ∨ c2 = 0) → Sl w0 (.slice A m c2) (l.drop K)) := hide (by
    rintro A m c2 rfl rfl hA
    obtain ⟨ao', cap', e, h1, h2, h4⟩ := unhide HSL
    rw [hv] at e
    injection e with e1 e2 e3
    subst e1 e3
    refine ⟨A, cap - K, by rw [List.length_drop], by rw [List.length_drop]; omega, by omega, fun hne => ?_⟩
    obtain ⟨b', off, rfl, hb, hcc⟩ := h4 (by omega)
    rcases hA with rfl | h0
    · refine ⟨b', off + K, by simp [addr_add], hb, fun i hi => ?_⟩
      rw [List.length_drop] at hi
      rw [List.getElem_drop, Nat.add_assoc]
      exact hcc (K + i) (by omega)
    · omega)
  have FIN : Hid (∀ v', Sl w0 v' (l.drop K) → TakePost w0 w b (l.drop K) (.returned (.tuple #[])) (w.setCell ⟨b, 0, none⟩ v')) := hide fun v' hs => by
    refine ⟨⟨_, rfl⟩, ⟨⟨v', ?_, hs⟩, (unhide HC).new, own_step (unhide HC).grown (unhide HC).new (setCell_grown _ _ _ _)⟩, setCell_grown _ _ _ _⟩
    rw [heap_setCell_same w b 0 _ _ v' hblk]
    rfl
  subst hv
  clear hblk fz h
  obtain ⟨n, hn⟩ : ∃ n, n = l.length := ⟨_, rfl⟩
  rw [← hn] at hKl hr1 HSd c0
  clear hn HSL
  by_cases hk0 : K = 0
  · subst hk0
    by_cases hkc : cap = 0
    · obtain rfl : n = 0 := by omega
      subst hkc
      go_enter Try.func57, Try.ntmps57
      go_wp2
      first | go_end0 | refine bodyPost_ret (results_none rfl _ _ _) rfl ?_
      exact unhide FIN _ (unhide HSd _ _ _ (by omega) (by omega) (.inr rfl))
    · go_enter Try.func57, Try.ntmps57
      go_wp2
      first | go_end0 | refine bodyPost_ret (results_none rfl _ _ _) rfl ?_
      exact unhide FIN _ (unhide HSd _ _ _ (by omega) (by omega) (.inl (by cases ao <;> simp [Addr.add])))
  · have hKI : (K : Int) ≤ (n : Int) := by omega
    have hnI : (n : Int) ≤ (cap : Int) := by omega
    have hcapI : (cap : Int) ≤ 9223372036854775807 := by omega
    by_cases hkc : cap = K
    · obtain rfl : n = K := by omega
      subst hkc
      clear hKI hnI hk0
      go_enter Try.func57, Try.ntmps57
      go_wp2
      first | go_end0 | refine bodyPost_ret (results_none rfl _ _ _) rfl ?_
      exact unhide FIN _ (unhide HSd _ _ _ (by omega) (by omega) (.inr rfl))
    · go_enter Try.func57, Try.ntmps57
      go_wp2
      first | go_end0 | refine bodyPost_ret (results_none rfl _ _ _) rfl ?_
      exact unhide FIN _ (unhide HSd _ _ _ rfl rfl (.inl rfl))
set_option maxHeartbeats 1000000 in
theorem take_no (w0 w : World) (b : Nat) (l : List UInt8) (h : RrAt w0 w b l) (K : Int) (e : Int) (he : e ≠ 0) :
    Calls Try.prog 57 #[.pointer (some ⟨b, 0, none⟩), .int .i64 K, .int .i64 e] w (TakePost w0 w b []) := by
  obtain ⟨v, hblk, hsl⟩ := h.ex
  have c0 : w.cell? ⟨b, 0, none⟩ = some v := (cell_of_row _ _ _ _ _ _ hblk).trans rfl
  have fz0 : w.frozen? ⟨b, 0, none⟩ = false := by simp [World.frozen?, hblk]
  have FIN : Hid (TakePost w0 w b [] (.returned (.tuple #[])) (w.setCell ⟨b, 0, none⟩ (.slice none 0 0))) := hide (by
    refine ⟨⟨_, rfl⟩, ⟨⟨_, ?_, nil_sl w0⟩, h.new, own_step h.grown h.new (setCell_grown _ _ _ _)⟩, setCell_grown _ _ _ _⟩
    rw [heap_setCell_same w b 0 _ _ _ hblk]
    rfl)
  have hne : (e != 0) = true := by rw [bne_iff_ne]; exact he
  clear hblk hsl h he
  go_enter Try.func57, Try.ntmps57
  go_wp2
  first | go_end0 | refine bodyPost_ret (results_none rfl _ _ _) rfl ?_
  exact unhide FIN

def TextPost (w0 w : World) (b : Nat) (l : List UInt8) (most : Nat) (o : Ending) (w' : World) : Prop := ∃ s l', o = .returned (sv s) ∧ RrAt w0 w' b l' ∧ w.grownBy w' (some b) ∧ s.length ≤ most ∧ ∀ t r, l = layT t ++ r → t.length ≤ most → s = t ∧ l' = r
set_option maxHeartbeats 2000000 in
theorem text_any (w0 w : World) (b : Nat) (l : List UInt8) (h : RrAt w0 w b l) (most : Nat) (hm : most ≤ 2000) :
    Calls Try.prog 45 #[.pointer (some ⟨b, 0, none⟩), .int .i64 (most : Int)] w (TextPost w0 w b l most) := by
  have HC := hide h
  obtain ⟨v, hblk, hsl⟩ := h.ex
  have c0 : w.cell? ⟨b, 0, none⟩ = some v := (cell_of_row _ _ _ _ _ _ hblk).trans rfl
  have HT := hide (Text_any v l (most : Int) w (hsl.kept h.grown) (by omega) (by omega))
  have FIN : Hid (∀ (o : Ending) w', o = .returned (sv (pcD l most)) → RrAt w0 w' b (if pcE l most = 0 then l.drop (pcK l most) else []) → w.grownBy w' (some b) → TextPost w0 w b l most o w') := hide fun o w' ho hr hg => by
    refine ⟨pcD l most, _, ho, hr, hg, (pc_room l most).2, fun t r hl ht => ?_⟩
    obtain ⟨q1, q2, q3⟩ := pc_lay t r most ht (by omega)
    rw [hl, q1, q2, q3, if_pos rfl]
    exact ⟨rfl, List.drop_left⟩
  have hK := (pc_room l most).1
  obtain ⟨D, hD⟩ : ∃ D, D = pcD l most := ⟨_, rfl⟩
  obtain ⟨E, hE⟩ : ∃ E, E = pcE l most := ⟨_, rfl⟩
  obtain ⟨K, hKe⟩ : ∃ K, K = pcK l most := ⟨_, rfl⟩
  rw [← hD, ← hE, ← hKe] at HT
  rw [← hD, ← hE, ← hKe] at FIN
  rw [← hKe] at hK
  clear hD hE hKe hblk hsl h
  by_cases he : E = 0
  · subst he
    go_enter Try.func45, Try.ntmps45
    go_wp2_with fail
    refine (unhide HT).mono ?_
    rintro e w1 ⟨rfl, rfl⟩
    go_wp2_with fail
    refine (take_ok w0 w b l (unhide HC) K hK).mono ?_
    rintro e w1 ⟨⟨x, rfl⟩, r1, g1⟩
    have F := hide (unhide FIN (.returned (sv D)) w1 rfl (by simpa using r1) g1)
    clear r1 g1
    go_wp2
    go_ret
    exact unhide F
  · go_enter Try.func45, Try.ntmps45
    go_wp2_with fail
    refine (unhide HT).mono ?_
    rintro e w1 ⟨rfl, rfl⟩
    go_wp2_with fail
    refine (take_no w0 w b l (unhide HC) (K : Int) (E : Int) (by omega)).mono ?_
    rintro e w1 ⟨⟨x, rfl⟩, r1, g1⟩
    have F := hide (unhide FIN (.returned (sv D)) w1 rfl (by rw [if_neg he]; exact r1) g1)
    clear r1 g1
    go_wp2
    go_ret
    exact unhide F

def NumbPost (w0 w : World) (b : Nat) (l : List UInt8) (most : Nat) (o : Ending) (w' : World) : Prop := ∃ (n : Nat) (l' : List UInt8), o = .returned (.int .i64 (n : Int)) ∧ RrAt w0 w' b l' ∧ w.grownBy w' (some b) ∧ n ≤ most ∧ ∀ m r, l = lay m ++ r → m ≤ most → n = m ∧ l' = r
set_option maxHeartbeats 2000000 in
theorem number_any (w0 w : World) (b : Nat) (l : List UInt8) (h : RrAt w0 w b l) (most : Nat) (hm : most ≤ 1099511627776) :
    Calls Try.prog 46 #[.pointer (some ⟨b, 0, none⟩), .int .i64 (most : Int)] w (NumbPost w0 w b l most) := by
  have HC := hide h
  obtain ⟨v, hblk, hsl⟩ := h.ex
  have c0 : w.cell? ⟨b, 0, none⟩ = some v := (cell_of_row _ _ _ _ _ _ hblk).trans rfl
  obtain ⟨N, K, E, hr⟩ : ∃ n k e, rd l = (n, k, e) := ⟨_, _, _, rfl⟩
  have HT := hide (Uint_at v l N K E w (hsl.kept h.grown) hr)
  obtain ⟨f1, f2, f3, f4⟩ := rd_facts l
  have FIN : Hid (∀ (o : Ending) w' (n : Nat), o = .returned (.int .i64 (n : Int)) → RrAt w0 w' b (if E = 0 ∧ N ≤ most then l.drop K else []) → n ≤ most → (E = 0 ∧ N ≤ most → n = N) → w.grownBy w' (some b) → NumbPost w0 w b l most o w') := hide fun o w' n ho hR hn hN hg => by
    refine ⟨n, _, ho, hR, hg, hn, fun m r hl hm2 => ?_⟩
    have q := rd_lay m (by omega) r
    rw [← hl, hr] at q
    simp only [Prod.mk.injEq] at q
    obtain ⟨rfl, rfl, rfl⟩ := q
    rw [if_pos ⟨rfl, hm2⟩]
    exact ⟨hN ⟨rfl, hm2⟩, by rw [hl]; exact List.drop_left⟩
  rw [hr] at f1 f2 f3 f4
  simp only at f1 f2 f3 f4
  clear hblk hsl h hr f2
  by_cases hN : N ≤ most
  · have hNI : ¬ ((most : Int) < (N : Int)) := by omega
    by_cases he : E = 0
    · subst he
      have hK := (f4 rfl).2.1
      have hwr : IntKind.i64.wrap (N : Int) = (N : Int) := by rw [IntKind.wrap_i64]; omega
      have hwm : IntKind.u64.wrap (most : Int) = (most : Int) := by rw [IntKind.wrap_u64]; omega
      clear f1 f3 f4
      go_enter Try.func46, Try.ntmps46
      go_wp2_with fail
      refine (unhide HT).mono ?_
      rintro e w1 ⟨rfl, rfl⟩
      go_wp2_with fail
      refine (take_ok w0 w b l (unhide HC) K hK).mono ?_
      rintro e w1 ⟨⟨x, rfl⟩, r1, g1⟩
      have F := hide (unhide FIN (.returned (.int .i64 (N : Int))) w1 N rfl (by simpa [hN] using r1) hN (fun _ => rfl) g1)
      clear r1 g1
      go_wp2
      go_ret
      exact unhide F
    · obtain ⟨rfl, rfl⟩ := f3 he
      have hwm : IntKind.u64.wrap (most : Int) = (most : Int) := by rw [IntKind.wrap_u64]; omega
      clear f1 f3 f4
      go_enter Try.func46, Try.ntmps46
      go_wp2_with fail
      refine (unhide HT).mono ?_
      rintro e w1 ⟨rfl, rfl⟩
      go_wp2_with fail
      refine (take_no w0 w b l (unhide HC) (0 : Nat) (E : Int) (by omega)).mono ?_
      rintro e w1 ⟨⟨x, rfl⟩, r1, g1⟩
      have F := hide (unhide FIN (.returned (.int .i64 0)) w1 0 rfl (by rw [if_neg (fun h => he h.1)]; exact r1) (Nat.zero_le _) (fun h => absurd h.1 he) g1)
      clear r1 g1
      go_wp2
      go_ret
      exact unhide F
  · have hNI : (most : Int) < (N : Int) := by omega
    have hwm : IntKind.u64.wrap (most : Int) = (most : Int) := by rw [IntKind.wrap_u64]; omega
    clear f1 f3 f4
    go_enter Try.func46, Try.ntmps46
    go_wp2_with fail
    refine (unhide HT).mono ?_
    rintro e w1 ⟨rfl, rfl⟩
    go_wp2_with fail
    refine (take_no w0 w b l (unhide HC) (K : Int) 11 (by omega)).mono ?_
    rintro e w1 ⟨⟨x, rfl⟩, r1, g1⟩
    have F := hide (unhide FIN (.returned (.int .i64 0)) w1 0 rfl (by rw [if_neg (fun h => hN h.2)]; exact r1) (Nat.zero_le _) (fun h => absurd h.2 hN) g1)
    clear r1 g1
    go_wp2
    go_ret
    exact unhide F

def IntPost (w0 w : World) (b : Nat) (l : List UInt8) (o : Ending) (w' : World) : Prop := ∃ (n : Int) (l' : List UInt8), o = .returned (.int .i64 n) ∧ RrAt w0 w' b l' ∧ w.grownBy w' (some b) ∧ (-9223372036854775808 ≤ n ∧ n ≤ 9223372036854775807) ∧ ∀ i r, l = lay (zig i) ++ r → (-9223372036854775808 ≤ i ∧ i ≤ 9223372036854775807) → n = i ∧ l' = r
set_option maxHeartbeats 2000000 in
theorem integer_any (w0 w : World) (b : Nat) (l : List UInt8) (h : RrAt w0 w b l) :
    Calls Try.prog 59 #[.pointer (some ⟨b, 0, none⟩)] w (IntPost w0 w b l) := by
  have HC := hide h
  obtain ⟨v, hblk, hsl⟩ := h.ex
  have c0 : w.cell? ⟨b, 0, none⟩ = some v := (cell_of_row _ _ _ _ _ _ hblk).trans rfl
  have HT := hide (Int_any v l w (hsl.kept h.grown))
  obtain ⟨f1, f2, f3, f4⟩ := rd_facts l
  have FIN : Hid (∀ (o : Ending) w', o = .returned (.int .i64 (rdI l)) → RrAt w0 w' b (if (rd l).2.2 = 0 then l.drop (rd l).2.1 else []) → w.grownBy w' (some b) → IntPost w0 w b l o w') := hide fun o w' ho hR hg => by
    refine ⟨_, _, ho, hR, hg, rdI_range l, fun i r hl hi => ?_⟩
    have q := rd_lay (zig i) (zig_lt i hi.1 hi.2) r
    rw [← hl] at q
    rw [q]
    refine ⟨?_, by rw [if_pos rfl, hl]; exact List.drop_left⟩
    unfold rdI
    rw [q, if_pos rfl]
    exact unz_zig i
  obtain ⟨I, hI⟩ : ∃ I, I = rdI l := ⟨_, rfl⟩
  obtain ⟨K, hK⟩ : ∃ K, K = (rd l).2.1 := ⟨_, rfl⟩
  obtain ⟨E, hE⟩ : ∃ E, E = (rd l).2.2 := ⟨_, rfl⟩
  rw [← hI, ← hK, ← hE] at HT
  rw [← hI, ← hK, ← hE] at FIN
  rw [← hK, ← hE] at f4
  clear hblk hsl h hI hK hE f1 f2 f3
  by_cases he : E = 0
  · subst he
    have hK := (f4 rfl).2.1
    clear f4
    go_enter Try.func59, Try.ntmps59
    go_wp2_with fail
    refine (unhide HT).mono ?_
    rintro e w1 ⟨rfl, rfl⟩
    go_wp2_with fail
    refine (take_ok w0 w b l (unhide HC) K hK).mono ?_
    rintro e w1 ⟨⟨x, rfl⟩, r1, g1⟩
    have F := hide (unhide FIN (.returned (.int .i64 I)) w1 rfl (by simpa using r1) g1)
    clear r1 g1
    go_wp2
    go_ret
    exact unhide F
  · clear f4
    go_enter Try.func59, Try.ntmps59
    go_wp2_with fail
    refine (unhide HT).mono ?_
    rintro e w1 ⟨rfl, rfl⟩
    go_wp2_with fail
    refine (take_no w0 w b l (unhide HC) (K : Int) (E : Int) (by omega)).mono ?_
    rintro e w1 ⟨⟨x, rfl⟩, r1, g1⟩
    have F := hide (unhide FIN (.returned (.int .i64 I)) w1 rfl (by rw [if_neg he]; exact r1) g1)
    clear r1 g1
    go_wp2
    go_ret
    exact unhide F
end Go.Proofs.Ytkikfdbjfhgfoaa
