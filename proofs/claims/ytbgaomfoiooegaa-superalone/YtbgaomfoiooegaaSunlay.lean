/-
  DERIVED. The walk of unlay.
-/
import Derived.Test.YtbgaomfoiooegaaSmath
import Derived.Test.YtbgaomfoiooegaaDint
import Derived.Test.YtbgaomfoiooegaaDnewest
namespace Go.Proofs.Ytbgaomfoiooegaa
open Go.RowKit
set_option linter.unusedVariables false

abbrev slotC (s : Slot) (dv : Value) : Array Value := #[.bool s.laid, .int .u32 (s.turn : Nat), .int .i64 s.count, dv]
abbrev slot0 : Array Value := #[.bool false, .int .u32 0, .int .i64 0, .slice none 0 0]
theorem one_slot (a : Bool) (b : Int) (c : Int) (x : Option Addr) (n m : Nat) : (#[.bool a, .int .u32 b, .int .i64 c, .slice x n m] : Array Value).all (·.oneCell') = true := by simp [Value.oneCell']
theorem sizeSlot : (Try.prog.info? 61).map (·.size) = some 4 := by kernel_rfl

theorem Int_nm (v : Value) (l : List UInt8) (i : Int) (k e : Nat) (w : World) (hv : Sl w v l) (h1 : rdI l = i) (h2 : (rd l).2.1 = k) (h3 : (rd l).2.2 = e) :
    Calls Try.prog 43 #[v] w fun e' w' => e' = .returned (.tuple #[.int .i64 i, .int .i64 k, .int .i64 e]) ∧ w = w' := by
  rw [← h1, ← h2, ← h3]
  exact Int_any v l w hv
theorem U32_short (v : Value) (l : List UInt8) (w : World) (hv : Sl w v l) (h : l.length < 4) :
    Calls Try.prog 44 #[v] w fun e w' => e = .returned (.tuple #[.int .u32 0, .int .i64 10]) ∧ ∀ B, Below B w w' := by
  have := U32_any v l w hv
  rw [if_pos h, if_pos h] at this
  exact this
theorem Sl.setRow {w : World} {g b off n c : Nat} {l : List UInt8} (cs : Array Value) (h : Sl w (.slice (some ⟨b, off, none⟩) n c) l) (hb : g ≠ b) : Sl (w.setRow g cs) (.slice (some ⟨b, off, none⟩) n c) l := by
  obtain ⟨ao, cap, e, h1, h2, h4⟩ := h
  refine ⟨ao, cap, e, h1, h2, fun hc => ?_⟩
  obtain ⟨b', off', e', h5, h6⟩ := h4 hc
  have hb' : b' = b := by rw [e'] at e; injection e with e1; injection e1 with e2; injection e2 with e3; exact e3.symm
  refine ⟨b', off', e', by simpa [World.setRow] using h5, fun i hi => ?_⟩
  exact (World.cell?_of_block (w := w) (setRow_other w g b' cs (by rw [hb']; exact fun h => hb h.symm))).trans (h6 i hi)
theorem unl_names {L : List UInt8} {at_ : Int} {E : Nat} {kd : UInt8} {d : List UInt8} (hE : frE L = E) (hkd : frKind L = kd) (hd : frD L = d) : unl at_ L =
    if E ≠ 0 ∨ kd ≠ 83 then noSlot
    else if (rd d).2.2 ≠ 0 ∨ rdI d ≠ at_ then noSlot
    else if (d.drop (rd d).2.1).length < 4 then noSlot
    else if (rd ((d.drop (rd d).2.1).drop 4)).2.2 ≠ 0 ∨ rdI ((d.drop (rd d).2.1).drop 4) < 0 ∨ 400 < ((d.drop (rd d).2.1).drop 4).length - (rd ((d.drop (rd d).2.1).drop 4)).2.1 then noSlot
    else ⟨true, rd4 (d.drop (rd d).2.1), rdI ((d.drop (rd d).2.1).drop 4), ((d.drop (rd d).2.1).drop 4).drop (rd ((d.drop (rd d).2.1).drop 4)).2.1⟩ := by
  subst hE hkd hd
  rfl

set_option maxHeartbeats 2000000 in
theorem unlay_any (v : Value) (L : List UInt8) (at_ : Int) (w : World) (hv : Sl w v L) (hat0 : -9223372036854775808 ≤ at_) (hat1 : at_ ≤ 9223372036854775807) :
    Calls Try.prog 36 #[v, .int .i64 at_] w fun e w' => ∃ a n c, e = .returned (.agg (slotC (unl at_ L) (.slice a n c))) ∧ (∀ ad, a = some ad → w.heap.size ≤ ad.block) ∧ Sl w' (.slice a n c) (unl at_ L).data ∧ Below w.heap.size w w' := by
  have HV := hide hv
  clear hv
  obtain ⟨E, hE⟩ : ∃ E, frE L = E := ⟨_, rfl⟩
  obtain ⟨kd, hkd⟩ : ∃ kd, frKind L = kd := ⟨_, rfl⟩
  obtain ⟨d, hd⟩ : ∃ d, frD L = d := ⟨_, rfl⟩
  obtain ⟨K, hK⟩ : ∃ K, frK L = K := ⟨_, rfl⟩
  obtain ⟨U, hU⟩ : ∃ U, unl at_ L = U := ⟨_, rfl⟩
  have HU := (unl_names (at_ := at_) hE hkd hd).symm.trans hU
  rw [hU]
  clear hU
  have HF := hide (And.intro hE (And.intro hkd (And.intro hK hd)))
  clear hE hkd hd hK
  go_enter Try.func36, Try.ntmps36
  go_wp2_with fail
  have HW : Hid (Below w.heap.size w (w.alloc (.cells slot0 61))) := hide ((Below.refl _ _).alloc (Nat.le_refl _) _)
  refine (Frame_any v L _ ((unhide HV).below (unhide HW) (Nat.le_refl _))).mono ?_
  rintro e w1 ⟨a, n, c, rfl, own1, b1⟩
  rw [(unhide HF).2.2.2] at own1
  rw [(unhide HF).1, (unhide HF).2.1, (unhide HF).2.2.1]
  have s1 := b1.size
  simp at s1
  obtain ⟨W, hW⟩ : ∃ W, W = w1.alloc (.cells #[bv kd, .slice a n c] 84) := ⟨_, rfl⟩
  have HS : Hid (W.heap[w.heap.size]? = some (.cells slot0 61 (0, 0))) := hide (by rw [hW, Below.heap_alloc _ _ _ (by omega), b1.block _ (by simp)]; exact heap_alloc_self _ _)
  have HB : Hid (Below w.heap.size w W) := hide (by rw [hW]; exact ((unhide HW).trans (b1.mono (by simp))).alloc (by omega) _)
  have HL : Hid (Sl W (.slice a n c) d) := hide (by rw [hW]; exact own1.sl.alloc _)
  have hWs : w.heap.size < W.heap.size := by rw [hW]; simp; omega
  have q0 : W.cell? ⟨w1.heap.size, 0, none⟩ = some (bv kd) := by rw [hW]; simp
  have q1 : W.cell? ⟨w1.heap.size, 1, none⟩ = some (.slice a n c) := by rw [hW]; simp
  have HN : Hid (∀ b off n' c', Value.slice a n c = .slice (some ⟨b, off, none⟩) n' c' → w.heap.size < b) := hide (fun b' off' n' c' hh => by
    rcases own1.2 with ⟨h, _⟩ | ⟨g, cap, cur, h, hg, _⟩
    · rw [h] at hh; cases hh
    · rw [h] at hh; simp at hg; injection hh with e1; injection e1 with e2; injection e2 with e3; omega)
  clear own1 b1 HV HF
  subst hW
  clear q0 q1
  by_cases h1 : E ≠ 0
  · rw [if_pos (.inl h1)] at HU
    have hne : ((E : Int) != 0) = true := by rw [bne_iff_ne]; omega
    go_wp2_with (first | (refine wpList_store_row rfl 61 (.tmp 4) (.tmp 26) rfl w.heap.size slot0 rfl rfl 61 slot0 (unhide HS) sizeSlot rfl (one_slot _ _ _ _ _ _) ?_))
    (try simp only [Exit.inBlock, Exit.then])
    refine bodyPost_ret (v := .agg slot0) (results_cell_row rfl _ _ w.heap.size 61 slot0 (0, 0) _ rfl (setRow_heap _ _ _ _ _ _ (unhide HS)) Try.underlying61 rfl sizeSlot) rfl ⟨none, 0, 0, by rw [← HU]; rfl, fun _ h => by (cases h), by rw [← HU]; exact nil_sl _, (unhide HB).trans (below_setRowD _ _ _ _ (Nat.le_refl _))⟩
  obtain rfl : E = 0 := by omega
  by_cases h2 : kd ≠ 83
  · rw [if_pos (.inr h2)] at HU
    have hne : ((kd.toNat : Int) != 83) = true := by rw [bne_iff_ne]; intro hh; exact h2 (UInt8.toNat_inj.1 (by simpa using (by omega : kd.toNat = 83)))
    go_wp2_with (first | (refine wpList_store_row rfl 61 (.tmp 4) (.tmp 26) rfl w.heap.size slot0 rfl rfl 61 slot0 (unhide HS) sizeSlot rfl (one_slot _ _ _ _ _ _) ?_))
    (try simp only [Exit.inBlock, Exit.then])
    refine bodyPost_ret (v := .agg slot0) (results_cell_row rfl _ _ w.heap.size 61 slot0 (0, 0) _ rfl (setRow_heap _ _ _ _ _ _ (unhide HS)) Try.underlying61 rfl sizeSlot) rfl ⟨none, 0, 0, by rw [← HU]; rfl, fun _ h => by (cases h), by rw [← HU]; exact nil_sl _, (unhide HB).trans (below_setRowD _ _ _ _ (Nat.le_refl _))⟩
  obtain rfl : kd = 83 := by simpa using h2
  rw [if_neg (by simp)] at HU
  clear h1 h2
  obtain ⟨k, hk⟩ : ∃ k, (rd d).2.1 = k := ⟨_, rfl⟩
  obtain ⟨e1, he1⟩ : ∃ e, (rd d).2.2 = e := ⟨_, rfl⟩
  obtain ⟨i1, hi1⟩ : ∃ i, rdI d = i := ⟨_, rfl⟩
  obtain ⟨-, -, -, r4⟩ := rd_facts d
  rw [hk, he1] at r4
  rw [he1, hi1, hk] at HU
  have HR1 := hide (And.intro hi1 (And.intro hk he1))
  clear hi1 hk he1
  by_cases h3 : e1 ≠ 0
  · rw [if_pos (.inl h3)] at HU
    have hne : ((e1 : Int) != 0) = true := by rw [bne_iff_ne]; omega
    clear r4
    go_wp2_with (first | (go_at_call 43; refine (Int_nm _ d _ _ _ _ (unhide HL) (unhide HR1).1 (unhide HR1).2.1 (unhide HR1).2.2).mono ?_; rintro e w' ⟨rfl, rfl⟩) | (refine wpList_store_row rfl 61 (.tmp 4) (.tmp 42) rfl w.heap.size slot0 rfl rfl 61 slot0 (unhide HS) sizeSlot rfl (one_slot _ _ _ _ _ _) ?_))
    (try simp only [Exit.inBlock, Exit.then])
    refine bodyPost_ret (v := .agg slot0) (results_cell_row rfl _ _ w.heap.size 61 slot0 (0, 0) _ rfl (setRow_heap _ _ _ _ _ _ (unhide HS)) Try.underlying61 rfl sizeSlot) rfl ⟨none, 0, 0, by rw [← HU]; rfl, fun _ h => by (cases h), by rw [← HU]; exact nil_sl _, (unhide HB).trans (below_setRowD _ _ _ _ (Nat.le_refl _))⟩
  obtain rfl : e1 = 0 := by omega
  obtain ⟨r1, r2, r3⟩ := r4 rfl
  by_cases h4 : i1 ≠ at_
  · rw [if_pos (.inr h4)] at HU
    have hne : (i1 != at_) = true := by rw [bne_iff_ne]; exact h4
    go_wp2_with (first | (go_at_call 43; refine (Int_nm _ d _ _ _ _ (unhide HL) (unhide HR1).1 (unhide HR1).2.1 (unhide HR1).2.2).mono ?_; rintro e w' ⟨rfl, rfl⟩) | (refine wpList_store_row rfl 61 (.tmp 4) (.tmp 42) rfl w.heap.size slot0 rfl rfl 61 slot0 (unhide HS) sizeSlot rfl (one_slot _ _ _ _ _ _) ?_))
    (try simp only [Exit.inBlock, Exit.then])
    refine bodyPost_ret (v := .agg slot0) (results_cell_row rfl _ _ w.heap.size 61 slot0 (0, 0) _ rfl (setRow_heap _ _ _ _ _ _ (unhide HS)) Try.underlying61 rfl sizeSlot) rfl ⟨none, 0, 0, by rw [← HU]; rfl, fun _ h => by (cases h), by rw [← HU]; exact nil_sl _, (unhide HB).trans (below_setRowD _ _ _ _ (Nat.le_refl _))⟩
  obtain rfl : i1 = at_ := by simpa using h4
  rw [if_neg (by simp)] at HU
  rcases (unhide HL).cases with ⟨rfl, ao, hz⟩ | ⟨b, off, cap, hz, l1, l2, l3, lc⟩
  · simp at r2; omega
  have hbg := unhide HN _ _ _ _ hz
  clear HN
  obtain ⟨l, hl⟩ : ∃ l, l = d.drop k := ⟨_, rfl⟩
  rw [← hl] at HU
  have hll : l.length = d.length - k := by rw [hl, List.length_drop]
  obtain ⟨rfl, rfl, rfl⟩ : a = some ⟨b, off, none⟩ ∧ n = d.length ∧ cap = c := by simpa [eq_comm] using hz
  clear hz h3 h4 r4
  by_cases h5 : cap = k
  · have hl0 : l = [] := List.eq_nil_of_length_eq_zero (by omega)
    rw [if_pos (by rw [hl0]; simp)] at HU
    subst h5
    have e5 : d.length - cap = 0 := by omega
    have HS5 : Hid (Sl (w1.alloc (.cells #[bv 83, .slice (some ⟨b, off, none⟩) d.length cap] 84)) (.slice (some ⟨b, off, none⟩) 0 0) []) := hide ⟨_, 0, rfl, by simp, by simp [maxLen], fun h => absurd rfl h⟩
    have HLC := hide lc
    clear hl hl0 lc
    go_wp2_with (first | (go_at_call 43; refine (Int_nm _ d _ _ _ _ (unhide HL) (unhide HR1).1 (unhide HR1).2.1 (unhide HR1).2.2).mono ?_; rintro e w' ⟨rfl, rfl⟩) | fail)
    refine (U32_short _ [] _ (unhide HS5) (by decide)).mono ?_
    rintro e w3 ⟨rfl, b3⟩
    have HS3 : Hid (w3.heap[w.heap.size]? = some (.cells slot0 61 (0, 0))) := hide (((b3 (w.heap.size + 1)).block _ (by omega)).trans (unhide HS))
    have HB3 := hide ((unhide HB).trans (b3 _))
    have HB3' := hide b3
    clear b3
    go_wp2_with (first | (refine wpList_store_row rfl 61 (.tmp 4) (.tmp 53) rfl w.heap.size slot0 rfl rfl 61 slot0 (unhide HS3) sizeSlot rfl (one_slot _ _ _ _ _ _) ?_))
    (try simp only [Exit.inBlock, Exit.then])
    refine bodyPost_ret (v := .agg slot0) (results_cell_row rfl _ _ w.heap.size 61 slot0 (0, 0) _ rfl (setRow_heap _ _ _ _ _ _ (unhide HS3)) Try.underlying61 rfl sizeSlot) rfl ⟨none, 0, 0, by rw [← HU]; rfl, fun _ h => by (cases h), by rw [← HU]; exact nil_sl _, (unhide HB3).trans (below_setRowD _ _ _ _ (Nat.le_refl _))⟩
  have HS6 : Hid (Sl (w1.alloc (.cells #[bv 83, .slice (some ⟨b, off, none⟩) d.length cap] 84)) (.slice (some ⟨b, off + k, none⟩) (d.length - k) (cap - k)) l) := hide (by rw [hl]; exact Sl.from b off cap d l3 l1 l2 lc k r2)
  have HG : Hid (∀ j, k + j ≤ d.length → Sl (w1.alloc (.cells #[bv 83, .slice (some ⟨b, off, none⟩) d.length cap] 84)) (.slice (some ⟨b, off + (k + j), none⟩) (d.length - (k + j)) (cap - (k + j))) (l.drop j)) := hide (fun j hj => by rw [hl, List.drop_drop]; exact Sl.from b off cap d l3 l1 l2 lc (k + j) hj)
  clear lc hl
  by_cases h6 : l.length < 4
  · rw [if_pos h6] at HU
    go_wp2_with (first | (go_at_call 43; refine (Int_nm _ d _ _ _ _ (unhide HL) (unhide HR1).1 (unhide HR1).2.1 (unhide HR1).2.2).mono ?_; rintro e w' ⟨rfl, rfl⟩) | fail)
    refine (U32_short _ l _ (unhide HS6) h6).mono ?_
    rintro e w3 ⟨rfl, b3⟩
    have HS3 : Hid (w3.heap[w.heap.size]? = some (.cells slot0 61 (0, 0))) := hide (((b3 (w.heap.size + 1)).block _ (by omega)).trans (unhide HS))
    have HB3 := hide ((unhide HB).trans (b3 _))
    have HB3' := hide b3
    clear b3
    go_wp2_with (first | (refine wpList_store_row rfl 61 (.tmp 4) (.tmp 53) rfl w.heap.size slot0 rfl rfl 61 slot0 (unhide HS3) sizeSlot rfl (one_slot _ _ _ _ _ _) ?_))
    (try simp only [Exit.inBlock, Exit.then])
    refine bodyPost_ret (v := .agg slot0) (results_cell_row rfl _ _ w.heap.size 61 slot0 (0, 0) _ rfl (setRow_heap _ _ _ _ _ _ (unhide HS3)) Try.underlying61 rfl sizeSlot) rfl ⟨none, 0, 0, by rw [← HU]; rfl, fun _ h => by (cases h), by rw [← HU]; exact nil_sl _, (unhide HB3).trans (below_setRowD _ _ _ _ (Nat.le_refl _))⟩
  rw [if_neg h6] at HU
  obtain ⟨t, ht⟩ : ∃ t, rd4 l = t := ⟨_, rfl⟩
  rw [ht] at HU
  have HT := hide ht
  clear ht
  go_wp2_with (first | (go_at_call 43; refine (Int_nm _ d _ _ _ _ (unhide HL) (unhide HR1).1 (unhide HR1).2.1 (unhide HR1).2.2).mono ?_; rintro e w' ⟨rfl, rfl⟩) | fail)
  refine (U32_at _ l _ (unhide HS6) (by omega)).mono ?_
  rintro e w3 ⟨rfl, b3⟩
  have HS3 : Hid (w3.heap[w.heap.size]? = some (.cells slot0 61 (0, 0))) := hide (((b3 (w.heap.size + 1)).block _ (by omega)).trans (unhide HS))
  have HB3 := hide ((unhide HB).trans (b3 _))
  have HB3' := hide b3
  clear b3
  rw [unhide HT]
  have HG3 : Hid (∀ j, k + j ≤ d.length → Sl w3 (.slice (some ⟨b, off + (k + j), none⟩) (d.length - (k + j)) (cap - (k + j))) (l.drop j)) := hide (fun j hj => (unhide HG j hj).below (unhide HB3' _) (Nat.le_refl _))
  have s3 := (unhide HB3' 0).size
  clear HG HS6 HS HB HL HB3' HR1 HT
  obtain ⟨m, hm⟩ : ∃ m, m = l.drop 4 := ⟨_, rfl⟩
  have hml : m.length = d.length - k - 4 := by rw [hm, List.length_drop, hll]
  rw [← hm] at HU
  obtain ⟨k2, hk2⟩ : ∃ k, (rd m).2.1 = k := ⟨_, rfl⟩
  obtain ⟨e2, he2⟩ : ∃ e, (rd m).2.2 = e := ⟨_, rfl⟩
  obtain ⟨i2, hi2⟩ : ∃ i, rdI m = i := ⟨_, rfl⟩
  obtain ⟨-, -, -, r4⟩ := rd_facts m
  rw [hk2, he2] at r4
  rw [he2, hi2, hk2] at HU
  have HR2 := hide (And.intro hi2 (And.intro hk2 he2))
  clear hi2 hk2 he2
  have l4 : 4 ≤ l.length := by omega
  by_cases h7 : cap - k = 4
  · have hm0 : m = [] := List.eq_nil_of_length_eq_zero (by omega)
    have e7 : d.length - k - 4 = 0 := by omega
    have HS7 : Hid (Sl w3 (.slice (some ⟨b, off + k, none⟩) 0 0) m) := hide ⟨_, 0, by rw [hm0]; rfl, by rw [hm0]; simp, by simp [maxLen], fun h => absurd rfl h⟩
    have h8 : e2 ≠ 0 := fun h => by have := (r4 h).2.1; have := (r4 h).1; rw [hm0] at *; simp at *; omega
    rw [if_pos (.inl h8)] at HU
    have hne : ((e2 : Int) != 0) = true := by rw [bne_iff_ne]; omega
    clear r4 hm hm0
    go_wp2_with (first | (go_at_call 43; refine (Int_nm _ m _ _ _ _ (unhide HS7) (unhide HR2).1 (unhide HR2).2.1 (unhide HR2).2.2).mono ?_; rintro e w' ⟨rfl, rfl⟩) | (refine wpList_store_row rfl 61 (.tmp 4) (.tmp 75) rfl w.heap.size slot0 rfl rfl 61 slot0 (unhide HS3) sizeSlot rfl (one_slot _ _ _ _ _ _) ?_))
    (try simp only [Exit.inBlock, Exit.then])
    refine bodyPost_ret (v := .agg slot0) (results_cell_row rfl _ _ w.heap.size 61 slot0 (0, 0) _ rfl (setRow_heap _ _ _ _ _ _ (unhide HS3)) Try.underlying61 rfl sizeSlot) rfl ⟨none, 0, 0, by rw [← HU]; rfl, fun _ h => by (cases h), by rw [← HU]; exact nil_sl _, (unhide HB3).trans (below_setRowD _ _ _ _ (Nat.le_refl _))⟩
  have HS7 : Hid (Sl w3 (.slice (some ⟨b, off + k + 4, none⟩) (d.length - k - 4) (cap - k - 4)) m) := hide (by
    have := unhide HG3 4 (by omega)
    rw [← hm] at this
    rw [Nat.add_assoc, Nat.sub_sub, Nat.sub_sub]
    exact this)
  have HG4 : Hid (k2 ≤ m.length → Sl w3 (.slice (some ⟨b, off + k + 4 + k2, none⟩) (d.length - k - 4 - k2) (cap - k - 4 - k2)) (m.drop k2)) := hide (fun hj => by
    have := unhide HG3 (4 + k2) (by omega)
    rw [← List.drop_drop, ← hm] at this
    rw [Nat.sub_sub, Nat.sub_sub, Nat.sub_sub, Nat.sub_sub, show off + k + 4 + k2 = off + (k + (4 + k2)) by omega, show k + (4 + k2) = k + (4 + k2) from rfl]
    exact this)
  clear HG3 hm
  by_cases h8 : e2 ≠ 0
  · rw [if_pos (.inl h8)] at HU
    have hne : ((e2 : Int) != 0) = true := by rw [bne_iff_ne]; omega
    clear r4
    go_wp2_with (first | (go_at_call 43; refine (Int_nm _ m _ _ _ _ (unhide HS7) (unhide HR2).1 (unhide HR2).2.1 (unhide HR2).2.2).mono ?_; rintro e w' ⟨rfl, rfl⟩) | (refine wpList_store_row rfl 61 (.tmp 4) (.tmp 75) rfl w.heap.size slot0 rfl rfl 61 slot0 (unhide HS3) sizeSlot rfl (one_slot _ _ _ _ _ _) ?_))
    (try simp only [Exit.inBlock, Exit.then])
    refine bodyPost_ret (v := .agg slot0) (results_cell_row rfl _ _ w.heap.size 61 slot0 (0, 0) _ rfl (setRow_heap _ _ _ _ _ _ (unhide HS3)) Try.underlying61 rfl sizeSlot) rfl ⟨none, 0, 0, by rw [← HU]; rfl, fun _ h => by (cases h), by rw [← HU]; exact nil_sl _, (unhide HB3).trans (below_setRowD _ _ _ _ (Nat.le_refl _))⟩
  obtain rfl : e2 = 0 := by omega
  obtain ⟨q1, q2, q3⟩ := r4 rfl
  clear r4
  by_cases h9 : i2 < 0
  · rw [if_pos (.inr (.inl h9))] at HU
    go_wp2_with (first | (go_at_call 43; refine (Int_nm _ m _ _ _ _ (unhide HS7) (unhide HR2).1 (unhide HR2).2.1 (unhide HR2).2.2).mono ?_; rintro e w' ⟨rfl, rfl⟩) | (refine wpList_store_row rfl 61 (.tmp 4) (.tmp 75) rfl w.heap.size slot0 rfl rfl 61 slot0 (unhide HS3) sizeSlot rfl (one_slot _ _ _ _ _ _) ?_))
    (try simp only [Exit.inBlock, Exit.then])
    refine bodyPost_ret (v := .agg slot0) (results_cell_row rfl _ _ w.heap.size 61 slot0 (0, 0) _ rfl (setRow_heap _ _ _ _ _ _ (unhide HS3)) Try.underlying61 rfl sizeSlot) rfl ⟨none, 0, 0, by rw [← HU]; rfl, fun _ h => by (cases h), by rw [← HU]; exact nil_sl _, (unhide HB3).trans (below_setRowD _ _ _ _ (Nat.le_refl _))⟩
  by_cases h10 : 400 < m.length - k2
  · rw [if_pos (.inr (.inr h10))] at HU
    have h11 : (400 : Int) < ((d.length - k - 4 : Nat) : Int) - (k2 : Int) := by omega
    go_wp2_with (first | (go_at_call 43; refine (Int_nm _ m _ _ _ _ (unhide HS7) (unhide HR2).1 (unhide HR2).2.1 (unhide HR2).2.2).mono ?_; rintro e w' ⟨rfl, rfl⟩) | (refine wpList_store_row rfl 61 (.tmp 4) (.tmp 75) rfl w.heap.size slot0 rfl rfl 61 slot0 (unhide HS3) sizeSlot rfl (one_slot _ _ _ _ _ _) ?_))
    (try simp only [Exit.inBlock, Exit.then])
    refine bodyPost_ret (v := .agg slot0) (results_cell_row rfl _ _ w.heap.size 61 slot0 (0, 0) _ rfl (setRow_heap _ _ _ _ _ _ (unhide HS3)) Try.underlying61 rfl sizeSlot) rfl ⟨none, 0, 0, by rw [← HU]; rfl, fun _ h => by (cases h), by rw [← HU]; exact nil_sl _, (unhide HB3).trans (below_setRowD _ _ _ _ (Nat.le_refl _))⟩
  rw [if_neg (by simp; omega)] at HU
  have h11 : ¬ (400 : Int) < ((d.length - k - 4 : Nat) : Int) - (k2 : Int) := by omega
  by_cases h12 : cap - k - 4 = k2
  · have HS8 : Hid (Sl w3 (.slice (some ⟨b, off + k + 4, none⟩) (d.length - k - 4) k2) m) := hide (by have := unhide HS7; rwa [h12] at this)
    have HD : Hid (Sl w3 (.slice (some ⟨b, off + k + 4, none⟩) (d.length - k - 4 - k2) 0) (m.drop k2)) := hide ⟨_, 0, by rw [List.length_drop, hml], by rw [List.length_drop]; omega, by simp [maxLen], fun h => absurd rfl h⟩
    go_wp2_with (first | (go_at_call 43; refine (Int_nm _ m _ _ _ _ (unhide HS8) (unhide HR2).1 (unhide HR2).2.1 (unhide HR2).2.2).mono ?_; rintro e w' ⟨rfl, rfl⟩) | (refine wpList_store_row rfl 61 (.tmp 4) (.tmp 81) rfl w.heap.size _ rfl rfl 61 slot0 (unhide HS3) sizeSlot rfl (one_slot _ _ _ _ _ _) ?_))
    (try simp only [Exit.inBlock, Exit.then])
    refine bodyPost_ret (v := .agg #[.bool true, .int .u32 (t : Nat), .int .i64 i2, .slice (some ⟨b, off + k + 4, none⟩) (d.length - k - 4 - k2) 0]) (results_cell_row rfl _ _ w.heap.size 61 _ (0, 0) _ rfl (setRow_heap _ _ _ _ _ _ (unhide HS3)) Try.underlying61 rfl sizeSlot) rfl ⟨_, _, _, by rw [← HU], fun ad h => by (obtain rfl := Option.some.inj h; exact Nat.le_of_lt hbg), by rw [← HU]; exact (unhide HD).setRow _ (by omega), (unhide HB3).trans (below_setRowD _ _ _ _ (Nat.le_refl _))⟩
  · go_wp2_with (first | (go_at_call 43; refine (Int_nm _ m _ _ _ _ (unhide HS7) (unhide HR2).1 (unhide HR2).2.1 (unhide HR2).2.2).mono ?_; rintro e w' ⟨rfl, rfl⟩) | (refine wpList_store_row rfl 61 (.tmp 4) (.tmp 81) rfl w.heap.size _ rfl rfl 61 slot0 (unhide HS3) sizeSlot rfl (one_slot _ _ _ _ _ _) ?_))
    (try simp only [Exit.inBlock, Exit.then])
    refine bodyPost_ret (v := .agg #[.bool true, .int .u32 (t : Nat), .int .i64 i2, .slice (some ⟨b, off + k + 4 + k2, none⟩) (d.length - k - 4 - k2) (cap - k - 4 - k2)]) (results_cell_row rfl _ _ w.heap.size 61 _ (0, 0) _ rfl (setRow_heap _ _ _ _ _ _ (unhide HS3)) Try.underlying61 rfl sizeSlot) rfl ⟨_, _, _, by rw [← HU], fun ad h => by (obtain rfl := Option.some.inj h; exact Nat.le_of_lt hbg), by rw [← HU]; exact (unhide HG4 q2).setRow _ (by omega), (unhide HB3).trans (below_setRowD _ _ _ _ (Nat.le_refl _))⟩
end Go.Proofs.Ytbgaomfoiooegaa
