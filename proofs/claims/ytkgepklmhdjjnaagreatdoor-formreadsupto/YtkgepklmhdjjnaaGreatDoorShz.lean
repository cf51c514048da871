/-
  DERIVED. The names of the map, sorted; the walk of Read.
-/
import Derived.Test.YtkgepklmhdjjnaaGreatDoorShi
import Derived.Test.YtkgepklmhdjjnaaGreatDoorLays
namespace Go.Proofs.YtkgepklmhdjjnaaGreatDoor
open Go.RowKit Go.Maps Go.Sort Go.Shelf
set_option linter.unusedVariables false

/-- slices.Sort's two contracts here, at the fence that asks nothing. -/
theorem Tryz.sortsA (m : Nat) : AnyZ.SortsIn Tryz.prog Tryz.sortedA_ren Fence.wide m :=
  ⟨fun blk off cap ss W hH hblk hsz => callsIn_wide.2 (AnyM.slices_Sort_string Tryz.sortA blk off cap ss W hH hblk hsz),
   fun p cap W => callsIn_wide.2 (AnyM.slices_Sort_string_none Tryz.sortA p cap W)⟩

theorem keys_go (q : Option Nat) (W : World) : Calls Tryz.prog 40 #[.map q] W fun e w' => e = .returned (.func (.func 88) #[] #[.pointer (some ⟨W.heap.size, 0, none⟩)]) ∧ w' = W.alloc (.cells #[.map q] 66) := callsIn_wide.1 (AnyZ.keys_in Tryz.keysA Fence.wide 5 trivial rfl q W)

set_option maxHeartbeats 1000000 in
theorem sorted_own (mb nn : Nat) (D0 : DataW Value) (w : World) (hown : w.ownsMap Tryz.prog 9 rawE mb nn D0) (hmax : Maps.size D0 ≤ maxLen) (hbytes : Maps.size D0 * 16 ≤ 140737488355328) :
    CallsIn Fence.wide 5 Tryz.prog 39 #[.func (.func 88) #[] #[.pointer (some ⟨w.heap.size, 0, none⟩)]] (w.alloc (.cells #[.map (some mb)] 66)) fun e w' => ∃ (v : Value) (ss : List (List UInt8)), e = .returned v ∧ ss.Perm (strKeys D0) ∧ w'.ownsRow 0 9 1 v ss.length ((ss.mergeSort (fun x y => decide (x ≤ y))).map encStr) ∧ (∀ q, v.ownBlock = some q → w.heap.size ≤ q) ∧ Below w.heap.size w w' := by
  have hbl := hown.lt
  have hseq : SeqGives Fence.wide 2 Tryz.prog 88 #[.pointer (some ⟨w.heap.size, 0, none⟩)] encStr (fun ss : List (List UInt8) => ss.Perm (strKeys D0)) (Maps.size D0) (w.alloc (.cells #[.map (some mb)] 66)) :=
    AnyZ.keys_gives (ρ := Tryz.keysA_ren) { Tryz.keysA with } Fence.wide _ trivial rfl (by omega) w.heap.size mb nn D0 (R := rawE) _ (by simp) (by simp) (by
      obtain ⟨es, clock, hb, Ft, hs, hD⟩ := hown
      exact ⟨es, clock, (Below.heap_alloc _ _ mb hbl).trans hb, Ft, hs, hD⟩)
  have cS := AnyZ.sorted_in Tryz.sortedA Fence.wide 5 trivial trivial trivial trivial rfl (by omega) (Tryz.sortsA _) (enters_of Tryz.func87 (by kernel_rfl) rfl) 88 #[.pointer (some ⟨w.heap.size, 0, none⟩)] trivial (enters_of Tryz.func88 (by kernel_rfl) rfl) _ _ hmax hbytes _ hseq
  change CallsIn _ _ Tryz.prog 39 _ _ _ at cS
  refine cS.mono ?_
  rintro e w' ⟨v, ss, rfl, hS, hrow, hnil, hb⟩
  have hz : w.heap.size ≤ (w.alloc (.cells #[.map (some mb)] 66)).heap.size := by simp
  refine ⟨v, ss, rfl, hS, ?_, fun q hq => Nat.le_trans hz (hrow.lt q hq).1, ((Below.refl _ w).alloc (Nat.le_refl _) _).trans (hb.mono hz)⟩
  obtain ⟨h1, h2⟩ := hrow
  refine ⟨h1, ?_⟩
  rcases h2 with h2 | ⟨g, cap, cur, e, _, r⟩
  · exact .inl h2
  · exact .inr ⟨g, cap, cur, e, Nat.zero_le _, r⟩

theorem strKeys_mem {S : List Fld} {w : World} {mp N : Nat} {D : DataW Value} (hown : w.ownsMap Tryz.prog 9 rawE mp N D) (h : ∀ kl, Maps.has D kl = true ↔ ∃ f ∈ S, kl = lit f.name) (s : List UInt8) : s ∈ strKeys D ↔ ∃ f ∈ S, f.name = s := by
  obtain ⟨es, rfl, hko⟩ := hown.keysOf
  show s ∈ es.map (fun p => strOf p.1) ↔ _
  constructor
  · intro hs
    obtain ⟨p, hp, rfl⟩ := List.mem_map.1 hs
    obtain ⟨v, hv⟩ := hko p hp
    obtain ⟨y, _, hy, hl⟩ := Maps.keyOf_str Tryz.underlying9 hv
    obtain ⟨f, h1, h2⟩ := (h p.1).1 (by simp only [Maps.has, List.any_eq_true]; exact ⟨p, hp, by rw [hy]; simp [Lit.sameKey]⟩)
    exact ⟨f, h1, by rw [h2]; rfl⟩
  · rintro ⟨f, hf, rfl⟩
    have := (h (lit f.name)).2 ⟨f, hf, rfl⟩
    simp only [Maps.has, List.any_eq_true] at this
    obtain ⟨p, hp, he⟩ := this
    refine List.mem_map.2 ⟨p, hp, ?_⟩
    obtain ⟨v, hv⟩ := hko p hp
    obtain ⟨y, _, hy, hl⟩ := Maps.keyOf_str Tryz.underlying9 hv
    rw [hy] at he ⊢
    simpa [Lit.sameKey, lit, strOf] using he

theorem strKeys_nodup {w : World} {mp N : Nat} {D : DataW Value} (hown : w.ownsMap Tryz.prog 9 rawE mp N D) : (strKeys D).Pairwise (· ≠ ·) := by
  obtain ⟨es, e1, hp⟩ := hown.tidy keyedS
  obtain ⟨es', e2, hko⟩ := hown.keysOf
  rw [e1] at e2 ⊢
  cases e2
  show (es.map (fun p => strOf p.1)).Pairwise (· ≠ ·)
  rw [List.pairwise_map]
  refine hp.imp_of_mem ?_
  intro p q hp hq hne e
  obtain ⟨v, hv⟩ := hko p hp
  obtain ⟨y, _, hy, _⟩ := Maps.keyOf_str Tryz.underlying9 hv
  obtain ⟨v', hv'⟩ := hko q hq
  obtain ⟨y', _, hy', _⟩ := Maps.keyOf_str Tryz.underlying9 hv'
  rw [hy, hy'] at e
  apply hne
  rw [hy, hy']
  simpa [strOf] using e

theorem le_lt {a b : List UInt8} (h : a ≤ b) (hne : a ≠ b) : a < b := (List.le_iff_lt_or_eq.1 h).resolve_right hne

/-- The names, rising. -/
theorem sorted_sn {w : World} {m : Nat} {S : List Fld} (h : SnAt w m S) (hS : S.length ≤ 1000) :
    Calls Tryz.prog 39 #[.func (.func 88) #[] #[.pointer (some ⟨w.heap.size, 0, none⟩)]] (w.alloc (.cells #[.map (some m)] 66)) fun e w' => ∃ (v : Value) (T : List (List UInt8)), e = .returned v ∧ SOwn w' 0 v T ∧ T.Pairwise (· < ·) ∧ (∀ k, k ∈ T ↔ ∃ f ∈ S, f.name = k) ∧ T.length ≤ 1000 ∧ Below w.heap.size w w' := by
  obtain ⟨D, h1, h2, h3, h4⟩ := h
  refine (callsIn_wide.1 (sorted_own m S.length D w h1 (by unfold maxLen; omega) (by omega))).mono ?_
  rintro e w' ⟨v, ss, rfl, hp, hrow, hq, hb⟩
  have pm := List.mergeSort_perm ss (fun x y => decide (x ≤ y))
  have hsz : (strKeys D).length = Maps.size D := by
    obtain ⟨es, e1, _⟩ := h1.keysOf
    rw [e1]; simp [strKeys, Maps.size]
  refine ⟨v, ss.mergeSort (fun x y => decide (x ≤ y)), rfl, ?_, ?_, ?_, ?_, hb⟩
  · unfold SOwn
    rw [pm.length_eq]
    exact hrow
  · have sd := List.pairwise_mergeSort (le := fun x y : List UInt8 => decide (x ≤ y)) (fun a b c h1 h2 => by
      simp only [decide_eq_true_eq] at *; exact List.le_trans h1 h2) (fun a b => by
      rcases List.le_total a b with h | h <;> simp [h]) ss
    have nd : (ss.mergeSort (fun x y => decide (x ≤ y))).Pairwise (· ≠ ·) := ((pm.trans hp).pairwise_iff (fun {a b} h => Ne.symm h)).2 (strKeys_nodup h1)
    exact (sd.and nd).imp (fun {a b} h => le_lt (by simpa using h.1) h.2)
  · intro k
    rw [(pm.trans hp).mem_iff]
    exact strKeys_mem h1 h3 k
  · rw [(pm.trans hp).length_eq, hsz, h4]; omega

/-! ### Names once -/
def Once (S : List Fld) : Prop := S.Pairwise (fun a b => a.name ≠ b.name)
theorem Once.snoc {S : List Fld} {f : Fld} (h : Once S) (hf : S.any (fun g => g.name == f.name) = false) : Once (S ++ [f]) := by
  refine List.pairwise_append.2 ⟨h, List.pairwise_singleton _ _, ?_⟩
  intro a ha b hb
  rw [List.mem_singleton.1 hb]
  have := List.any_eq_false.1 hf a ha
  simpa using this
theorem readStep_once {S S' : List Fld} {p : List UInt8} (h : readStep S p = .ok S') (ho : Once S) : Once S' := by
  unfold readStep at h
  split at h
  · cases h
  · split at h
    · cases h
    · split at h
      · cases h
      · rename_i hn; cases h; exact ho.snoc (by simpa using hn)
theorem foldParts_once : ∀ (ps : List (List UInt8)) {S S' : List Fld}, foldParts S ps = .ok S' → Once S → Once S'
  | [], S, S', h, ho => by cases h; exact ho
  | p :: ps, S, S', h, ho => by
    rw [foldParts] at h
    split at h
    · cases h
    · rename_i S2 hr; exact foldParts_once ps h (readStep_once hr ho)
theorem foldParts_len : ∀ (ps : List (List UInt8)) {S S' : List Fld}, foldParts S ps = .ok S' → S.length ≤ 16 → S'.length ≤ 16
  | [], S, S', h, ho => by cases h; exact ho
  | p :: ps, S, S', h, ho => by
    rw [foldParts] at h
    split at h
    · cases h
    · rename_i S2 hr; exact foldParts_len ps h (readStep_len hr ho)
theorem readAll_once {t : List UInt8} {S : List Fld} (h : readAll t = .ok S) : Once S ∧ S.length ≤ 16 := by
  unfold readAll at h
  split at h
  · cases h; exact ⟨List.Pairwise.nil, by simp⟩
  · exact ⟨foldParts_once _ h List.Pairwise.nil, foldParts_len _ h (by simp)⟩

theorem getF_once {S : List Fld} (ho : Once S) {f : Fld} (hf : f ∈ S) : getF S f.name = some f := by
  unfold getF
  induction S with
  | nil => cases hf
  | cons a r ih =>
    obtain ⟨h1, h2⟩ := List.pairwise_cons.1 ho
    rcases List.mem_cons.1 hf with rfl | hf
    · simp
    · rw [List.find?_cons_of_neg (by simpa using h1 f hf)]
      exact ih h2 hf

theorem isRec_of {S : List Fld} {T : List (List UInt8)} (ho : Once S) (hT : T.Pairwise (· < ·)) (hm : ∀ k, k ∈ T ↔ ∃ f ∈ S, f.name = k) : IsRec S (T.map (fun k => (getF S k).getD fld0)) := by
  have nm : ∀ k ∈ T, ((getF S k).getD fld0).name = k ∧ (getF S k).getD fld0 ∈ S := by
    intro k hk
    obtain ⟨f, hf, rfl⟩ := (hm k).1 hk
    rw [getF_once ho hf]
    exact ⟨rfl, hf⟩
  refine ⟨?_, ?_⟩
  · unfold Rising
    rw [List.pairwise_map]
    exact hT.imp_of_mem (fun {a b} ha hb h => by rw [(nm a ha).1, (nm b hb).1]; exact h)
  · intro f
    rw [List.mem_map]
    constructor
    · rintro ⟨k, hk, rfl⟩; exact (nm k hk).2
    · intro hf
      exact ⟨f.name, (hm _).2 ⟨f, hf, rfl⟩, by rw [getF_once ho hf]; rfl⟩
end Go.Proofs.YtkgepklmhdjjnaaGreatDoor
