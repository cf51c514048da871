/-
  DERIVED. Plain words on places and numbers; Names, each once and rising.
-/
import Derived.Test.YtabcmmhmghgliaaXnames2
import Derived.Test.YtabcmmhmghgliaaXtwo
import Derived.Test.YtabcmmhmghgliaaXstr
namespace Go.Proofs.Ytabcmmhmghgliaa
open Go.RowKit Go.Maps Go.Sort Go.Shelf
set_option linter.unusedVariables false

theorem snoc_ind {α : Type} {P : List α → Prop} (h0 : P []) (h1 : ∀ l x, P l → P (l ++ [x])) : ∀ l, P l := by
  intro l
  have : ∀ n, ∀ l : List α, l.length = n → P l := by
    intro n
    induction n with
    | zero => intro l hl; rw [List.length_eq_zero_iff.1 hl]; exact h0
    | succ n ih =>
      intro l hl
      have hne : l ≠ [] := fun e => by rw [e] at hl; simp at hl
      rw [← List.dropLast_concat_getLast hne]
      exact h1 _ _ (ih _ (by simp [hl]))
  exact this _ l rfl

theorem plc_lt {l : List Ent} {s : List UInt8} {p : Nat} (h : p ∈ plc l s) : p < l.length := by
  obtain ⟨e, he, _⟩ := plc_at h
  exact (List.getElem?_eq_some_iff.1 he).1
theorem plc_rise (s : List UInt8) : ∀ l : List Ent, (plc l s).Pairwise (· < ·) := by
  refine snoc_ind List.Pairwise.nil fun l x ih => ?_
  rw [plc_snoc, List.pairwise_append]
  refine ⟨ih, ?_, fun a ha b hb => ?_⟩
  · split <;> simp
  · have := plc_lt ha
    split at hb
    · rw [List.mem_singleton.1 hb]; exact this
    · simp at hb
theorem plc_take (s : List UInt8) : ∀ (l : List Ent) (i p : Nat), (plc l s)[i]? = some p → (plc (l.take p) s).length = i := by
  refine snoc_ind (fun i p h => by simp [plc] at h) fun l x ih i p h => ?_
  rw [plc_snoc] at h
  by_cases hi : i < (plc l s).length
  · rw [List.getElem?_append_left hi] at h
    have hp := plc_lt (List.mem_of_getElem? h)
    rw [List.take_append_of_le_length (Nat.le_of_lt hp)]
    exact ih i p h
  · rw [List.getElem?_append_right (by omega)] at h
    split at h
    · have hj : i - (plc l s).length = 0 := by
        rcases Nat.eq_zero_or_pos (i - (plc l s).length) with h0 | h0
        · exact h0
        · rw [List.getElem?_eq_none (by simp; omega)] at h; cases h
      rw [hj] at h
      have hp : p = l.length := by simpa using h.symm
      rw [hp, List.take_left]
      omega
    · simp at h
theorem plc_mem {l : List Ent} {p : Nat} {e : Ent} (h : l[p]? = some e) : p ∈ plc l e.s := by
  unfold plc
  refine List.mem_map.2 ⟨(e, p), List.mem_filter.2 ⟨List.mem_zipIdx_iff_getElem?.2 (by simpa using h), by simp⟩, rfl⟩

/-- How many places the names have together. -/
def sumP (l : List Ent) (ns : List (List UInt8)) : Nat := (ns.map fun s => (plc l s).length).sum
theorem sum_one {s : List UInt8} : ∀ {ns : List (List UInt8)}, ns.Pairwise (· ≠ ·) → s ∈ ns → (ns.map fun t => if s = t then 1 else 0).sum = 1
  | [], _, h => by simp at h
  | t :: r, hp, h => by
    obtain ⟨h1, h2⟩ := List.pairwise_cons.1 hp
    rw [List.map_cons, List.sum_cons]
    by_cases e : s = t
    · rw [if_pos e]
      have : (r.map fun t => if s = t then 1 else 0).sum = 0 := by
        rw [List.sum_eq_zero_iff_forall_eq_nat]
        intro x hx
        obtain ⟨u, hu, rfl⟩ := List.mem_map.1 hx
        rw [if_neg (fun e2 => h1 u hu (e.symm.trans e2))]
      rw [this]
    · rw [if_neg e]
      rcases List.mem_cons.1 h with h | h
      · exact absurd h e
      · rw [sum_one h2 h]
theorem sum_add (f g : List UInt8 → Nat) : ∀ ns : List (List UInt8), (ns.map fun t => f t + g t).sum = (ns.map f).sum + (ns.map g).sum
  | [] => rfl
  | t :: r => by
    simp only [List.map_cons, List.sum_cons]
    rw [sum_add f g r]
    omega
theorem sum_all {ns : List (List UInt8)} (hn : ns.Pairwise (· ≠ ·)) : ∀ l : List Ent, (∀ x ∈ l, x.s ∈ ns) → sumP l ns = l.length := by
  refine snoc_ind (fun _ => ?_) fun l x ih h => ?_
  · unfold sumP
    rw [List.length_nil, List.sum_eq_zero_iff_forall_eq_nat]
    intro y hy
    obtain ⟨u, _, rfl⟩ := List.mem_map.1 hy
    rfl
  · have e : (fun s => (plc (l ++ [x]) s).length) = fun s => (plc l s).length + (if x.s = s then 1 else 0) := by
      funext s
      rw [plc_snoc, List.length_append]
      split <;> rfl
    unfold sumP
    rw [e, sum_add, sum_one hn (h x (by simp))]
    have := ih (fun y hy => h y (by simp [hy]))
    unfold sumP at this
    rw [this]
    simp
theorem sumP_snoc (l : List Ent) (ns : List (List UInt8)) (s : List UInt8) : sumP l (ns ++ [s]) = sumP l ns + (plc l s).length := by simp [sumP]
theorem sumP_take {l : List Ent} {ns : List (List UInt8)} {k : Nat} {s : List UInt8} (h : ns[k]? = some s) : sumP l (ns.take (k + 1)) = sumP l (ns.take k) + (plc l s).length := by
  rw [List.take_add_one, h]
  exact sumP_snoc l _ s
theorem sumP_mono {l : List Ent} (ns : List (List UInt8)) (k : Nat) : sumP l (ns.take k) ≤ sumP l ns := by
  have e : sumP l ns = sumP l (ns.take k) + sumP l (ns.drop k) := by
    unfold sumP
    rw [← List.sum_append, ← List.map_append, List.take_append_drop]
  omega

/-- Each entry bears its number in its stream. -/
def Numd (l : List Ent) : Prop := ∀ p e, l[p]? = some e → e.num = (plc (l.take p) e.s).length
theorem Numd.nil : Numd [] := fun p e h => by simp at h
theorem Numd.snoc {l : List Ent} (h : Numd l) {x : Ent} (hx : x.num = (plc l x.s).length) : Numd (l ++ [x]) := by
  intro p e he
  rcases Nat.lt_trichotomy p l.length with hp | hp | hp
  · rw [List.getElem?_append_left hp] at he
    rw [List.take_append_of_le_length (Nat.le_of_lt hp)]
    exact h p e he
  · subst hp
    rw [List.getElem?_append_right (Nat.le_refl _)] at he
    simp at he
    subst he
    rw [List.take_left]
    exact hx
  · rw [List.getElem?_eq_none (by simp; omega)] at he; cases he
theorem Numd.ents (s : List UInt8) : ∀ (es : List Evn) {l : List Ent} (fi : Nat), Numd l → fi = (plc l s).length → Numd (l ++ ents s fi es)
  | [], l, fi, h, _ => by
    have : Go.Proofs.Ytabcmmhmghgliaa.ents s fi [] = [] := List.length_eq_zero_iff.1 (ents_len s fi [])
    rw [this, List.append_nil]; exact h
  | e :: r, l, fi, h, hf => by
    show Numd (l ++ (⟨s, fi, e⟩ :: Go.Proofs.Ytabcmmhmghgliaa.ents s (fi + 1) r))
    rw [List.append_cons]
    refine Numd.ents s r (fi + 1) (h.snoc hf) ?_
    rw [plc_snoc, if_pos rfl, List.length_append, ← hf]
    rfl
theorem Numd.added {I : Ix} (h : Numd I.all) (s k : List UInt8) (es : List Evn) : Numd (I.added s k (I.ver s) es).all := by
  rw [added_all]
  exact Numd.ents s es _ h rfl

theorem strKeys_once {w : World} {mp N : Nat} {D : DataW Value} (hown : w.ownsMap Try.prog 9 rawE mp N D) : (strKeys D).Pairwise (· ≠ ·) := by
  obtain ⟨es, e1, hp⟩ := hown.tidy keyedS
  obtain ⟨es', e2, hko⟩ := hown.keysOf
  rw [e1] at e2 ⊢
  cases e2
  show (es.map (fun p => strOf p.1)).Pairwise (· ≠ ·)
  rw [List.pairwise_map]
  refine hp.imp_of_mem ?_
  intro p q hp hq hne e
  obtain ⟨v, hv⟩ := hko p hp
  obtain ⟨y, _, hy, _⟩ := Maps.keyOf_str Try.underlying9 hv
  obtain ⟨v', hv'⟩ := hko q hq
  obtain ⟨y', _, hy', _⟩ := Maps.keyOf_str Try.underlying9 hv'
  rw [hy, hy'] at e
  apply hne
  rw [hy, hy']
  simpa [strOf] using e
theorem le_lt {a b : List UInt8} (h : a ≤ b) (hne : a ≠ b) : a < b := (List.le_iff_lt_or_eq.1 h).resolve_right hne

/-- Names: each stream's once, rising, in a row of its own. -/
def NmPost (I : Ix) (w : World) (e : Ending) (w' : World) : Prop :=
  ∃ (va : Option Addr) (vc : Nat) (ns : List (List UInt8)), e = .returned (.slice va ns.length vc) ∧ ns.Pairwise (· < ·) ∧ (∀ s, s ∈ ns ↔ plc I.all s ≠ []) ∧ (∀ s ∈ ns, s.length ≤ maxLen) ∧ ns.length ≤ vc ∧ vc ≤ 9223372036854775807 ∧ (ns.length ≠ 0 → ∃ g, va = some ⟨g, 0, none⟩ ∧ g < w'.heap.size ∧ ∀ (i : Nat) s, ns[i]? = some s → w'.cell? ⟨g, i, none⟩ = some (sv s)) ∧ Below w.heap.size w w'

set_option maxHeartbeats 1000000 in
theorem Names_once {w : World} {F : Nat → Prop} {x N : Nat} {I : Ix} (h : IxAt w F x N I) (hN : N ≤ 100000) :
    Calls Try.prog 28 #[.pointer (some ⟨x, 0, none⟩)] w (NmPost I w) := by
  obtain ⟨st, hx, _, mp, mk, xs, av, pf, D1, D2, hi⟩ := h
  have hz : Maps.size D1 ≤ 100000 := Nat.le_trans hi.mpo.size_le hN
  obtain ⟨a, n, hav⟩ := hi.avs
  subst hav
  refine (callsIn_wide (n := 6)).1 ?_
  have cN : CallsIn Fence.wide 5 Try.prog 25 #[.pointer (some ⟨x, 0, none⟩)] w fun e w' => e = .returned (.agg (stV (.slice a xs.length n) (some mp) (some mk))) ∧ w' = w.alloc (.cells (stV (.slice a xs.length n) (some mp) (some mk)) 68) := callsIn_wide.2 (now_go hx hi.stc ⟨a, _, n, rfl⟩)
  have CN := hide cN
  have hfK : Fence.wide.fn 46 := trivial
  have hfS : Fence.wide.fn 45 := trivial
  have hfN : Fence.wide.fn 25 := trivial
  have f1 := field1 a xs.length n (some mp) (some mk)
  have HB : Hid (∀ w1, w1 = w.alloc (.cells (stV (.slice a xs.length n) (some mp) (some mk)) 68) → Below w.heap.size w w1 ∧ CallsIn Fence.wide 5 Try.prog 45 #[.func (.func 53) #[] #[.pointer (some ⟨w1.heap.size, 0, none⟩)]] (w1.alloc (.cells #[.map (some mp)] 65)) fun e w' => ∃ (v : Value) (ss : List (List UInt8)), e = .returned v ∧ ss.Perm (strKeys D1) ∧ w'.ownsRow 0 9 1 v ss.length ((ss.mergeSort (fun x y => decide (x ≤ y))).map encStr) ∧ (v = .slice none 0 0 ↔ ss = []) ∧ (∀ q, v.ownBlock = some q → w1.heap.size ≤ q) ∧ Below w1.heap.size w1 w') := hide (fun w1 e => by
    have hb : Below w.heap.size w w1 := by rw [e]; exact (Below.refl _ _).alloc (Nat.le_refl _) _
    exact ⟨hb, sorted_own mp N D1 w1 (ownsMap_frame hi.mpo (hb.block mp hi.mpo.lt)) (by unfold maxLen; omega) (by omega)⟩)
  have HKS : Hid (∀ s, s ∈ strKeys D1 ↔ plc I.all s ≠ []) := hide (strKeys_mem hi.mpo hi.mph)
  have HKL : Hid (∀ s ∈ strKeys D1, s.length ≤ maxLen) := hide (strKeys_le hi.mpo Try.underlying9)
  have HKO := hide (strKeys_once hi.mpo)
  clear cN hi hx hz
  refine callsIn_of_wp Try.func28 rfl trivial ?_ rfl
  simp only [Try.ntmps28, List.size_toArray, List.length_cons, List.length_nil, Nat.reduceAdd, Nat.reduceSub, Array.replicate_succ, Array.replicate_zero, List.push_toArray, List.append_toArray, List.nil_append, List.cons_append]
  gi_wp2_with (first
    | (gi_at_call 25; refine (unhide CN).mono ?_; rintro e w1 ⟨rfl, hw1⟩; have B1 := hide (unhide HB w1 hw1); clear hw1)
    | (gi_at_call 46; refine (keys_go _ _).mono ?_; rintro e w' ⟨rfl, rfl⟩)
    | (gi_at_call 45; refine (unhide B1).2.mono ?_; rintro e w2 ⟨v, ss, rfl, hS, hrow, hnil, hq, hb⟩))
  go_ret
  have pm := List.mergeSort_perm ss (fun x y => decide (x ≤ y))
  obtain ⟨ns, hns⟩ : ∃ ns, ns = ss.mergeSort (fun x y => decide (x ≤ y)) := ⟨_, rfl⟩
  have hln : ss.length = ns.length := by rw [hns]; exact pm.length_eq.symm
  have hmem : ∀ s, s ∈ ns ↔ s ∈ strKeys D1 := fun s => by rw [hns, (pm.trans hS).mem_iff]
  have hlt : ns.Pairwise (· < ·) := by
    have sd := List.pairwise_mergeSort (le := fun x y : List UInt8 => decide (x ≤ y)) (fun a b c h1 h2 => by
      simp only [decide_eq_true_eq] at *; exact List.le_trans h1 h2) (fun a b => by
      rcases List.le_total a b with h | h <;> simp [h]) ss
    have nd : (ss.mergeSort (fun x y => decide (x ≤ y))).Pairwise (· ≠ ·) := ((pm.trans hS).pairwise_iff (fun {a b} h => Ne.symm h)).2 (unhide HKO)
    rw [hns]
    exact (sd.and nd).imp (fun {a b} h => le_lt (by simpa using h.1) h.2)
  rw [← hns, hln] at hrow
  have hbel := (unhide B1).1.trans (hb.mono (unhide B1).1.size)
  rcases hrow.2 with ⟨e, h0⟩ | ⟨g, cap, cur, e, _, hg, h1, h2, _⟩
  · exact ⟨none, 0, ns, by rw [e, h0] <;> rfl, hlt, fun s => (hmem s).trans (unhide HKS s), fun s hs => unhide HKL s ((hmem s).1 hs), by omega, by omega, fun h => absurd h0 h, hbel⟩
  · refine ⟨_, cap, ns, by rw [e] <;> rfl, hlt, fun s => (hmem s).trans (unhide HKS s), fun s hs => unhide HKL s ((hmem s).1 hs), h1, by unfold maxLen at h2; omega, fun _ => ⟨g, rfl, lt_of_block hg, fun i s hs => ?_⟩, hbel⟩
    rw [e] at hrow
    have hi := (List.getElem?_eq_some_iff.1 hs).1
    rw [hrow.cellAt i (by omega), List.getElem?_map, hs]
    rfl

def StrBig (I : Ix) (s : List UInt8) (w : World) (e : Ending) (w' : World) : Prop := ∃ q zs, e = .returned (.tuple #[.slice (some ⟨q, 0, none⟩) (I.ver s) (I.ver s), .int .i64 0]) ∧ PlSt w w' q (I.ver s) (I.ver s) I s 0 zs
theorem Stream_big {w : World} {F : Nat → Prop} {x N : Nat} {I : Ix} (h : IxAt w F x N I) (hN : N ≤ 100000) (s : List UInt8) (hs : s.length ≤ maxLen) : Calls Try.prog 21 #[.pointer (some ⟨x, 0, none⟩), sv s, .int .i64 0, .int .i64 100000] w (StrBig I s w) := by
  have hl : I.all.length ≤ N := by
    obtain ⟨st, _, _, mp, mk, xs, av, pf, D1, D2, hin⟩ := h
    exact hin.len
  have hv := ver_le I s
  have c := Stream_go h hN s hs 0 100000 (by omega) (by omega)
  rw [big_int] at c
  refine c.mono ?_
  rintro e w' ⟨q, zs, he, st⟩
  have e1 : min 100000 (I.ver s - 0) = I.ver s := by omega
  rw [e1] at he st
  exact ⟨q, zs, he, st⟩
end Go.Proofs.Ytabcmmhmghgliaa
