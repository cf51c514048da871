/-
  DERIVED. Names: the document's are the program's.
-/
import Derived.Test.YtabcmmhmghgliaaSp13
import Derived.Test.YtabcmmhmghgliaaXordM
namespace Go.Proofs.Ytabcmmhmghgliaa
open Go.RowKit Go.Maps
set_option linter.unusedVariables false

theorem less_dec (a b : List UInt8) : Op.bytesLess a b = decide (a < b) := Go.Proofs.bytesLess_eq a b
theorem tail_ge {s : List UInt8} : ∀ {l : List (List UInt8)}, l.Pairwise (· < ·) → ∀ x ∈ l.drop (posD s l), s ≤ x
  | [], _, x, hx => by simp at hx
  | a :: r, hp, x, hx => by
    obtain ⟨h1, h2⟩ := List.pairwise_cons.1 hp
    unfold posD at hx
    rw [List.takeWhile_cons] at hx
    cases hd : Op.bytesLess a s with
    | true =>
      rw [hd] at hx
      simp only [if_true, List.length_cons, List.drop_succ_cons] at hx
      exact tail_ge (s := s) h2 x hx
    | false =>
      rw [hd] at hx
      have hsa : s ≤ a := by
        rw [less_dec] at hd
        have := of_decide_eq_false hd
        exact List.not_lt.1 this
      have hx' : x ∈ a :: r := hx
      rcases List.mem_cons.1 hx' with rfl | hx'
      · exact hsa
      · exact List.le_trans hsa (List.le_of_lt (h1 x hx'))
theorem head_lt {s : List UInt8} {l : List (List UInt8)} : ∀ x ∈ l.take (posD s l), x < s := fun x hx => by
  have e : l.take (posD s l) = l.takeWhile fun x => Op.bytesLess x s := by
    unfold posD
    exact (List.prefix_iff_eq_take.1 (List.takeWhile_prefix _)).symm
  rw [e] at hx
  have hh : ∀ (m : List (List UInt8)) (x : List UInt8), x ∈ m.takeWhile (fun x => Op.bytesLess x s) → Op.bytesLess x s = true := by
    intro m
    induction m with
    | nil => intro x hx; simp at hx
    | cons a r ih =>
      intro x hx
      rw [List.takeWhile_cons] at hx
      cases hd : Op.bytesLess a s with
      | true =>
        rw [hd] at hx
        rcases List.mem_cons.1 hx with rfl | hx
        · exact hd
        · exact ih x hx
      | false => rw [hd] at hx; simp at hx
  have := hh l x hx
  rw [less_dec] at this
  exact of_decide_eq_true this
theorem insD_mem (l : List (List UInt8)) (s x : List UInt8) : x ∈ insD l s ↔ x ∈ l ∨ x = s := by
  unfold insD
  split
  · next h =>
    refine ⟨.inl, fun q => ?_⟩
    rcases q with q | rfl
    · exact q
    · exact List.mem_of_getElem? h
  · simp only [List.mem_append, List.mem_singleton]
    have e := List.take_append_drop (posD s l) l
    constructor
    · rintro ((h | h) | h)
      · exact .inl (List.mem_of_mem_take h)
      · exact .inr h
      · exact .inl (List.mem_of_mem_drop h)
    · rintro (h | h)
      · rw [← e] at h
        rcases List.mem_append.1 h with h | h
        · exact .inl (.inl h)
        · exact .inr h
      · exact .inl (.inr h)
theorem insD_sort {l : List (List UInt8)} (h : l.Pairwise (· < ·)) (s : List UInt8) : (insD l s).Pairwise (· < ·) := by
  unfold insD
  split
  · exact h
  · next hne =>
    have ht := tail_ge (s := s) h
    have hlt : ∀ x ∈ l.drop (posD s l), s < x := fun x hx => by
      refine le_lt (ht x hx) fun e => ?_
      subst e
      cases hd : l.drop (posD s l) with
      | nil => rw [hd] at hx; simp at hx
      | cons a r =>
        have h0 : l[posD s l]? = some a := by
          have := congrArg (·[0]?) hd
          simpa [List.getElem?_drop] using this
        rw [hd] at hx ht
        have hp : (a :: r).Pairwise (· < ·) := by rw [← hd]; exact h.drop
        rcases List.mem_cons.1 hx with e | hx
        · exact hne (by rw [h0, e])
        · have h1 := (List.pairwise_cons.1 hp).1 s hx
          have h2 := ht a (by simp)
          exact absurd h1 (List.not_lt.2 h2)
    refine List.pairwise_append.2 ⟨List.pairwise_append.2 ⟨h.take, by simp, fun x hx y hy => ?_⟩, h.drop, fun x hx y hy => ?_⟩
    · rw [List.mem_singleton.1 hy]; exact head_lt x hx
    · rcases List.mem_append.1 hx with hx | hx
      · exact List.lt_trans (head_lt x hx) (hlt y hy)
      · rw [List.mem_singleton.1 hx]; exact hlt y hy
theorem names_fold : ∀ (Bs : List (List UInt8)) (l : List (List UInt8)), l.Pairwise (· < ·) → (Bs.foldl insD l).Pairwise (· < ·) ∧ ∀ x, x ∈ Bs.foldl insD l ↔ x ∈ l ∨ x ∈ Bs
  | [], l, h => ⟨h, fun x => by simp⟩
  | b :: r, l, h => by
    obtain ⟨h1, h2⟩ := names_fold r (insD l b) (insD_sort h b)
    refine ⟨h1, fun x => ?_⟩
    rw [List.foldl_cons, h2 x, insD_mem, List.mem_cons, or_assoc]
theorem sorted_eq : ∀ {a b : List (List UInt8)}, a.Pairwise (· < ·) → b.Pairwise (· < ·) → (∀ x, x ∈ a ↔ x ∈ b) → a = b
  | [], [], _, _, _ => rfl
  | [], y :: s, _, _, h => by have := (h y).2 (by simp); simp at this
  | x :: r, [], _, _, h => by have := (h x).1 (by simp); simp at this
  | x :: r, y :: s, ha, hb, h => by
    obtain ⟨a1, a2⟩ := List.pairwise_cons.1 ha
    obtain ⟨b1, b2⟩ := List.pairwise_cons.1 hb
    have hxy : x = y := by
      rcases List.mem_cons.1 ((h x).1 (by simp)) with e | e
      · exact e
      · rcases List.mem_cons.1 ((h y).2 (by simp)) with e' | e'
        · exact e'.symm
        · exact absurd (List.lt_trans (b1 x e) (a1 y e')) (List.lt_irrefl _)
    subst hxy
    congr 1
    refine sorted_eq a2 b2 fun z => ?_
    have hz := h z
    constructor
    · intro q
      rcases List.mem_cons.1 (hz.1 (List.mem_cons_of_mem _ q)) with e | e
      · subst e; exact absurd (a1 z q) (List.lt_irrefl _)
      · exact e
    · intro q
      rcases List.mem_cons.1 (hz.2 (List.mem_cons_of_mem _ q)) with e | e
      · subst e; exact absurd (b1 z q) (List.lt_irrefl _)
      · exact e
theorem ents_s (s : List UInt8) : ∀ (f : Nat) (es : List Evn), ∀ x ∈ ents s f es, x.s = s
  | _, [], x, h => by simp [ents] at h
  | f, e :: r, x, h => by
    rcases List.mem_cons.1 (show x ∈ (⟨s, f, e⟩ : Ent) :: ents s (f + 1) r from h) with rfl | h
    · rfl
    · exact ents_s s _ r x h
theorem plc_ne (l : List Ent) (s : List UInt8) : plc l s ≠ [] ↔ ∃ x ∈ l, x.s = s := by
  constructor
  · intro h
    obtain ⟨p, hp⟩ := List.exists_mem_of_ne_nil _ h
    unfold plc at hp
    obtain ⟨⟨x, i⟩, hx, rfl⟩ := List.mem_map.1 hp
    obtain ⟨h1, h2⟩ := List.mem_filter.1 hx
    refine ⟨x, ?_, by simpa using h2⟩
    have := List.mem_zipIdx h1
    obtain ⟨_, _, e⟩ := this
    rw [e]
    exact List.getElem_mem _
  · rintro ⟨x, hx, rfl⟩
    obtain ⟨i, hi, rfl⟩ := List.mem_iff_getElem.1 hx
    have := plc_mem (l := l) (p := i) (e := l[i]) (List.getElem?_eq_getElem hi)
    intro q
    rw [q] at this
    simp at this
/-- Both tell the same names. -/
theorem names_eq {I : Ix} {Bs : List Bat} (h : I.all = entD Bs) (hb : ∀ b ∈ Bs, b.es ≠ []) {ns : List (List UInt8)} (h1 : ns.Pairwise (· < ·)) (h2 : ∀ s, s ∈ ns ↔ plc I.all s ≠ []) : namesD Bs = ns := by
  obtain ⟨f1, f2⟩ := names_fold (Bs.map (·.s)) [] List.Pairwise.nil
  refine sorted_eq f1 h1 fun x => ?_
  rw [h2 x, plc_ne, h]
  show x ∈ (Bs.map (·.s)).foldl insD [] ↔ _
  rw [f2 x]
  constructor
  · rintro (q | q)
    · simp at q
    · obtain ⟨b, hbm, rfl⟩ := List.mem_map.1 q
      have hne := hb b hbm
      cases he : b.es with
      | nil => exact absurd he hne
      | cons e r => exact ⟨⟨b.s, b.f, e⟩, List.mem_flatMap.2 ⟨b, hbm, by rw [he]; exact List.mem_cons_self⟩, rfl⟩
  · rintro ⟨y, hy, rfl⟩
    obtain ⟨b, hbm, hy'⟩ := List.mem_flatMap.1 hy
    exact .inr (List.mem_map.2 ⟨b, hbm, (ents_s b.s b.f b.es y hy').symm⟩)
end Go.Proofs.Ytabcmmhmghgliaa

namespace Go.Proofs.Ytabcmmhmghgliaa
open Go.RowKit Go.Maps
set_option linter.unusedVariables false

/-- Names: each stream's once, rising, in a row that is new. -/
def NmRow (I : Ix) (w : World) (e : Ending) (w' : World) : Prop :=
  ∃ (v : Value) (ns : List (List UInt8)), e = .returned v ∧ ns.Pairwise (· < ·) ∧ (∀ s, s ∈ ns ↔ plc I.all s ≠ []) ∧ StR w' w.heap.size v ns ∧ Below w.heap.size w w'

set_option maxHeartbeats 1000000 in
theorem Names_row {w : World} {F : Nat → Prop} {x N : Nat} {I : Ix} (h : IxAt w F x N I) (hN : N ≤ 100000) :
    Calls Try.prog 28 #[.pointer (some ⟨x, 0, none⟩)] w (NmRow I w) := by
  obtain ⟨st, hx, _, mp, mk, xs, av, pf, D1, D2, hi⟩ := h
  have hz : Maps.size D1 ≤ 100000 := Nat.le_trans hi.mpo.size_le hN
  obtain ⟨a, n, hav⟩ := hi.avs
  subst hav
  refine (callsIn_wide (n := 6)).1 ?_
  have cN : CallsIn Fence.wide 5 Try.prog 25 #[.pointer (some ⟨x, 0, none⟩)] w fun e w' => e = .returned (.agg (stV (.slice a xs.length n) (some mp) (some mk))) ∧ w' = w.alloc (.cells (stV (.slice a xs.length n) (some mp) (some mk)) 68) := callsIn_wide.2 (now_go hx hi.stc ⟨a, _, n, rfl⟩)
  have CN := hide cN
  have hfK : Fence.wide.fn 46 := trivial
  have hfS : Fence.wide.fn 45 := trivial
  have hfN : Fence.wide.fn 25 := trivial
  have f1 := field1 a xs.length n (some mp) (some mk)
  have HB : Hid (∀ w1, w1 = w.alloc (.cells (stV (.slice a xs.length n) (some mp) (some mk)) 68) → Below w.heap.size w w1 ∧ CallsIn Fence.wide 5 Try.prog 45 #[.func (.func 53) #[] #[.pointer (some ⟨w1.heap.size, 0, none⟩)]] (w1.alloc (.cells #[.map (some mp)] 65)) fun e w' => ∃ (v : Value) (ss : List (List UInt8)), e = .returned v ∧ ss.Perm (strKeys D1) ∧ w'.ownsRow 0 9 1 v ss.length ((ss.mergeSort (fun x y => decide (x ≤ y))).map encStr) ∧ (v = .slice none 0 0 ↔ ss = []) ∧ (∀ q, v.ownBlock = some q → w1.heap.size ≤ q) ∧ Below w1.heap.size w1 w') := hide (fun w1 e => by
    have hb : Below w.heap.size w w1 := by rw [e]; exact (Below.refl _ _).alloc (Nat.le_refl _) _
    exact ⟨hb, sorted_own mp N D1 w1 (ownsMap_frame hi.mpo (hb.block mp hi.mpo.lt)) (by unfold maxLen; omega) (by omega)⟩)
  have HKS : Hid (∀ s, s ∈ strKeys D1 ↔ plc I.all s ≠ []) := hide (strKeys_mem hi.mpo hi.mph)
  have HKL : Hid (∀ s ∈ strKeys D1, s.length ≤ maxLen) := hide (strKeys_le hi.mpo Try.underlying9)
  have HKO := hide (strKeys_once hi.mpo)
  clear cN hi hx hz
  refine callsIn_of_wp Try.func28 rfl trivial ?_ rfl
  simp only [Try.ntmps28, List.size_toArray, List.length_cons, List.length_nil, Nat.reduceAdd, Nat.reduceSub, Array.replicate_succ, Array.replicate_zero, List.push_toArray, List.append_toArray, List.nil_append, List.cons_append]
  gi_wp2_with (first
    | (gi_at_call 25; refine (unhide CN).mono ?_; rintro e w1 ⟨rfl, hw1⟩; have B1 := hide (unhide HB w1 hw1); clear hw1)
    | (gi_at_call 46; refine (keys_go _ _).mono ?_; rintro e w' ⟨rfl, rfl⟩)
    | (gi_at_call 45; refine (unhide B1).2.mono ?_; rintro e w2 ⟨v, ss, rfl, hS, hrow, hnil, hq, hb⟩))
  go_ret
  have pm := List.mergeSort_perm ss (fun x y => decide (x ≤ y))
  obtain ⟨ns, hns⟩ : ∃ ns, ns = ss.mergeSort (fun x y => decide (x ≤ y)) := ⟨_, rfl⟩
  have hln : ss.length = ns.length := by rw [hns]; exact pm.length_eq.symm
  have hmem : ∀ s, s ∈ ns ↔ s ∈ strKeys D1 := fun s => by rw [hns, (pm.trans hS).mem_iff]
  have hlt : ns.Pairwise (· < ·) := by
    have sd := List.pairwise_mergeSort (le := fun x y : List UInt8 => decide (x ≤ y)) (fun a b c h1 h2 => by
      simp only [decide_eq_true_eq] at *; exact List.le_trans h1 h2) (fun a b => by
      rcases List.le_total a b with h | h <;> simp [h]) ss
    have nd : (ss.mergeSort (fun x y => decide (x ≤ y))).Pairwise (· ≠ ·) := ((pm.trans hS).pairwise_iff (fun {a b} h => Ne.symm h)).2 (unhide HKO)
    rw [hns]
    exact (sd.and nd).imp (fun {a b} h => le_lt (by simpa using h.1) h.2)
  rw [← hns, hln] at hrow
  have hbel := (unhide B1).1.trans (hb.mono (unhide B1).1.size)
  exact ⟨v, ns, rfl, hlt, fun s => (hmem s).trans (unhide HKS s), ⟨hrow.1, by
    rcases hrow.2 with h | ⟨g, cap, cur, e, _, r⟩
    · exact .inl h
    · have h1 := hq g (by rw [e]; rfl)
      have h2 := (unhide B1).1.size
      exact .inr ⟨g, cap, cur, e, by omega, r⟩⟩, hbel⟩
end Go.Proofs.Ytabcmmhmghgliaa

namespace Go.Proofs.Ytabcmmhmghgliaa
open Go.RowKit Go.Maps
set_option linter.unusedVariables false

set_option maxHeartbeats 2000000 in
theorem PartE_neg (v : Value) (fr mo : Int) (h : fr < 0 ∨ mo < 0) (w : World) : Calls Try.prog 24 #[v, .int .i64 fr, .int .i64 mo] w fun e w' => e = .returned (.tuple #[.slice none 0 0, .int .i64 1]) ∧ w' = w := by
  by_cases h1 : fr < 0
  · have q : decide (fr < 0) = true := decide_eq_true h1
    go_enter Try.func24, Try.ntmps24
    go_wp2
    go_ret2
    exact ⟨rfl, rfl⟩
  · have h2 : mo < 0 := by omega
    have q1 : decide (fr < 0) = false := decide_eq_false h1
    have q2 : decide (mo < 0) = true := decide_eq_true h2
    clear h
    go_enter Try.func24, Try.ntmps24
    go_wp2
    go_ret2
    exact ⟨rfl, rfl⟩
set_option maxHeartbeats 2000000 in
theorem PartI_neg (v : Value) (fr mo : Int) (h : fr < 0 ∨ mo < 0) (w : World) : Calls Try.prog 43 #[v, .int .i64 fr, .int .i64 mo] w fun e w' => e = .returned (.tuple #[.slice none 0 0, .int .i64 1]) ∧ w' = w := by
  by_cases h1 : fr < 0
  · have q : decide (fr < 0) = true := decide_eq_true h1
    go_enter Try.func43, Try.ntmps43
    go_wp2
    go_ret2
    exact ⟨rfl, rfl⟩
  · have h2 : mo < 0 := by omega
    have q1 : decide (fr < 0) = false := decide_eq_false h1
    have q2 : decide (mo < 0) = true := decide_eq_true h2
    clear h
    go_enter Try.func43, Try.ntmps43
    go_wp2
    go_ret2
    exact ⟨rfl, rfl⟩
set_option maxRecDepth 20000 in
set_option maxHeartbeats 4000000 in
theorem All_neg {w : World} {F : Nat → Prop} {x N : Nat} {I : Ix} (h : IxAt w F x N I) (fr mo : Int) (hn : fr < 0 ∨ mo < 0) :
    Calls Try.prog 7 #[.pointer (some ⟨x, 0, none⟩), .int .i64 fr, .int .i64 mo] w fun e w' => e = .returned (.tuple #[.slice none 0 0, .int .i64 1]) ∧ Below w.heap.size w w' := by
  obtain ⟨st, hx, _, mp, mk, xs, av, pf, D1, D2, hi⟩ := h
  obtain ⟨a, c, hav⟩ := hi.avs
  obtain ⟨L, hL⟩ : ∃ L, L = xs.length := ⟨_, rfl⟩
  rw [← hL] at hav
  subst hav
  have CN := hide (now_go hx hi.stc ⟨a, _, c, rfl⟩)
  have f0 := field0 a L c (some mp) (some mk)
  obtain ⟨w1, hw1⟩ : ∃ w1, w1 = w.alloc (.cells (stV (.slice a L c) (some mp) (some mk)) 68) := ⟨_, rfl⟩
  have B1 : Hid (Below w.heap.size w w1) := hide (by rw [hw1]; exact (Below.refl _ _).alloc (Nat.le_refl _) _)
  have CP := hide (PartE_neg (.slice a L c) fr mo hn w1)
  clear hx hi hL hn
  go_enter Try.func7, Try.ntmps7
  go_wp2_with fail
  refine (unhide CN).mono ?_
  rintro e w1' ⟨rfl, rfl⟩
  rw [← hw1]
  clear hw1 CN
  go_wp2_with fail
  refine (unhide CP).mono ?_
  rintro e w1' ⟨rfl, rfl⟩
  clear CP f0
  go_wp2
  go_ret2
  exact ⟨rfl, unhide B1⟩
set_option maxRecDepth 20000 in
set_option maxHeartbeats 4000000 in
theorem Stream_neg {w : World} {F : Nat → Prop} {x N : Nat} {I : Ix} (h : IxAt w F x N I) (s : List UInt8) (hs : s.length ≤ maxLen) (fr mo : Int) (hn : fr < 0 ∨ mo < 0) :
    Calls Try.prog 21 #[.pointer (some ⟨x, 0, none⟩), sv s, .int .i64 fr, .int .i64 mo] w fun e w' => e = .returned (.tuple #[.slice none 0 0, .int .i64 1]) ∧ Below w.heap.size w w' := by
  obtain ⟨st, hx, _, mp, mk, xs, av, pf, D1, D2, hi⟩ := h
  obtain ⟨a, c, hav⟩ := hi.avs
  obtain ⟨L, hL⟩ : ∃ L, L = xs.length := ⟨_, rfl⟩
  rw [← hL] at hav
  subst hav
  have CN := hide (now_go hx hi.stc ⟨a, _, c, rfl⟩)
  obtain ⟨w1, hw1⟩ : ∃ w1, w1 = (w.alloc (.cells (stV (.slice a L c) (some mp) (some mk)) 68)).alloc (.cells (stV (.slice a L c) (some mp) (some mk)) 68) := ⟨_, rfl⟩
  have b1 : Below w.heap.size w w1 := by rw [hw1]; exact ((Below.refl _ _).alloc (Nat.le_refl _) _).alloc (by simp) _
  obtain ⟨sb, hsb⟩ : ∃ sb, sb = w.heap.size + 1 := ⟨_, rfl⟩
  have bx1 : w1.heap[sb]? = some (.cells (stV (.slice a L c) (some mp) (some mk)) 68 (0, 0)) := by rw [hw1, hsb, show w.heap.size + 1 = (w.alloc (.cells (stV (.slice a L c) (some mp) (some mk)) 68)).heap.size by simp]; exact heap_alloc_self _ _
  have s1 : w1.cell? ⟨sb, 1, none⟩ = some (.map (some mp)) := (cell_of_row _ _ _ _ _ _ bx1).trans rfl
  have hlk := hi.look (W := w1) (b1.block mp hi.mpo.lt) s hs
  obtain ⟨pa, pc, hpf⟩ := hi.pfs s
  rw [hpf] at hlk
  have CP := hide (PartI_neg (.slice pa (I.ver s) pc) fr mo hn w1)
  obtain ⟨V, hV⟩ : ∃ V, V = I.ver s := ⟨_, rfl⟩
  rw [← hV] at CP hlk
  have B1 := hide b1
  clear hx hi hL hn b1 bx1 hpf hV
  go_enter Try.func21, Try.ntmps21
  go_wp2_with fail
  refine (unhide CN).mono ?_
  rintro e w1' ⟨rfl, rfl⟩
  clear CN
  go_upto_region 4 with fail
  rw [← hw1]
  rw [← hsb]
  clear hw1 hsb
  go_wp2_with fail
  refine (unhide CP).mono ?_
  rintro e w1' ⟨rfl, rfl⟩
  clear CP hlk s1
  go_wp2
  go_ret2
  exact ⟨rfl, unhide B1⟩
end Go.Proofs.Ytabcmmhmghgliaa
