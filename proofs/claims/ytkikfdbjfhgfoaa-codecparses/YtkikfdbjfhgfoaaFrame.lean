/-
  DERIVED. The walks of readFrame, Frame, PutFrame.
-/
import Derived.Test.YtkikfdbjfhgfoaaParts
import Derived.Deep.RegionWith
namespace Go.Proofs.Ytkikfdbjfhgfoaa
open Go.RowKit

theorem Try.cellsFrame : Try.prog.cellsOf 44 = 2 := by kernel_rfl

theorem piece_at (v : Value) (l : List UInt8) (most : Int) (e k : Nat) (d : List UInt8) (w : World) (hv : Sl w v l) (hm0 : -9223372036854775808 ≤ most) (hm : most ≤ 9223372036854775807) (he : pcE l most = e) (hk : pcK l most = k) (hd : pcD l most = d) :
    Calls Try.prog 50 #[v, .int .i64 most] w fun o w' => ∃ v', o = .returned (.tuple #[v', .int .i64 k, .int .i64 e]) ∧ Sl w v' d ∧ w = w' := by
  subst he hk hd
  exact piece_any v l most w hv hm0 hm

theorem pc_facts (l : List UInt8) (most : Int) : (pcE l most ≠ 0 → pcK l most = 0 ∧ pcD l most = []) ∧ (pcE l most = 0 → 1 ≤ pcK l most ∧ pcK l most ≤ l.length ∧ (pcD l most).length ≤ l.length ∧ ((pcD l most).length : Int) ≤ most) := by
  have hf := rd_facts l
  constructor
  · intro h
    unfold pcK pcD
    rw [if_neg h, if_neg h]; exact ⟨rfl, rfl⟩
  · intro h
    have h' := h
    unfold pcE at h'
    have e0 : (rd l).2.2 = 0 := by
      by_cases h0 : (rd l).2.2 = 0
      · exact h0
      · rw [if_pos h0] at h'; exact absurd h' h0
    rw [if_neg (by simpa using e0)] at h'
    by_cases h1 : most < 0 ∨ most < (rd l).1
    · rw [if_pos h1] at h'; cases h'
    · rw [if_neg h1] at h'
      by_cases h2 : l.length - (rd l).2.1 < (rd l).1
      · rw [if_pos h2] at h'; cases h'
      · have := hf.2.2.2 e0
        have hl : (pcD l most).length ≤ (rd l).1 := by unfold pcD; rw [if_pos h]; simp; omega
        have hk : pcK l most = (rd l).2.1 + (rd l).1 := by unfold pcK; rw [if_pos h]
        omega

theorem Sl.from {w : World} (b off cap : Nat) (l : List UInt8) (hb : b < w.heap.size) (h1 : l.length ≤ cap) (h2 : cap ≤ 9223372036854775807) (hc : ∀ i, (h : i < l.length) → w.cell? ⟨b, off + i, none⟩ = some (bv l[i])) (k : Nat) (hk : k ≤ l.length) :
    Sl w (.slice (some ⟨b, off + k, none⟩) (l.length - k) (cap - k)) (l.drop k) := by
  have := Sl.cut (w := w) b off cap l hb h1 h2 hc k (l.length - k) (by omega)
  rwa [List.take_of_length_le (by simp)] at this

theorem own_slice {w : World} {base : Nat} {v : Value} {l : List UInt8} (h : Own w base v l) : ∃ a n c, v = .slice a n c := by
  rcases h.2 with ⟨rfl, _⟩ | ⟨g, cap, cur, rfl, _⟩
  · exact ⟨_, _, _, rfl⟩
  · exact ⟨_, _, _, rfl⟩

theorem Clone_sl (v : Value) (l : List UInt8) (w : World) (hv : Sl w v l) (hl : l.length ≤ 140737488355328) :
    Calls Try.prog 52 #[v] w fun e w' => ∃ a n c, e = .returned (.slice a n c) ∧ Own w' w.heap.size (.slice a n c) l ∧ Below w.heap.size w w' := by
  refine (Clone_any v l w hv hl).mono ?_
  rintro e w' ⟨v', rfl, h1, h2⟩
  obtain ⟨a, n, c, rfl⟩ := own_slice h1
  exact ⟨a, n, c, rfl, h1, h2⟩

theorem U32_at (v : Value) (l : List UInt8) (w : World) (hv : Sl w v l) (h : 4 ≤ l.length) :
    Calls Try.prog 51 #[v] w fun e w' => e = .returned (.tuple #[.int .u32 (rd4 l : Nat), .int .i64 0]) ∧ ∀ B, Below B w w' := by
  have := U32_any v l w hv
  rw [if_neg (by omega), if_neg (by omega)] at this
  exact this

set_option maxHeartbeats 1000000 in
theorem readFrame_short (g : Nat) (v : Value) (l : List UInt8) (w : World) (hv : Sl w v l) (h : l.length < 5) :
    Calls Try.prog 38 #[v, .pointer (some ⟨g, 0, none⟩)] w fun e w' => e = .returned (.tuple #[.agg #[.int .u8 0, .slice none 0 0], .int .i64 0, .int .i64 10]) ∧ Below w.heap.size w w' := by
  obtain ⟨ao, cap, rfl, h1, h2, h4⟩ := hv
  clear h4
  go_enter Try.func38, Try.ntmps38
  go_wp2
  exact bodyPost_ret (v := .tuple #[.agg #[.int .u8 0, .slice none 0 0], .int .i64 0, .int .i64 10]) (by simp [results, Try.results38, go_sem]) rfl ⟨rfl, (Below.refl _ _).alloc (Nat.le_refl _) _⟩

set_option maxHeartbeats 2000000 in
theorem readFrame_long (g b off cap : Nat) (l : List UInt8) (w : World) (ht : Tab w g crcTab) (hb : b < w.heap.size) (h1 : l.length ≤ cap) (h2 : cap ≤ 9223372036854775807)
    (hc : ∀ i, (h : i < l.length) → w.cell? ⟨b, off + i, none⟩ = some (bv l[i])) (h : 5 ≤ l.length) :
    Calls Try.prog 38 #[.slice (some ⟨b, off, none⟩) l.length cap, .pointer (some ⟨g, 0, none⟩)] w fun e w' => ∃ v', e = .returned (.tuple #[.agg #[bv (frKind l), v'], .int .i64 (frK l : Nat), .int .i64 (frE l : Nat)]) ∧ Own w' w.heap.size v' (frD l) ∧ Below w.heap.size w w' := by
  have hsl := Sl.mk b off cap l hb h1 h2 hc
  have hpf := pc_facts (l.drop 5) 2000
  obtain ⟨e, he⟩ : ∃ e, pcE (l.drop 5) 2000 = e := ⟨_, rfl⟩
  obtain ⟨k, hk⟩ : ∃ k, pcK (l.drop 5) 2000 = k := ⟨_, rfl⟩
  obtain ⟨d, hd⟩ : ∃ d, pcD (l.drop 5) 2000 = d := ⟨_, rfl⟩
  have hlen : (l.drop 5).length = l.length - 5 := by simp
  have h5 : Sl w (.slice (some (if cap = 5 then ⟨b, off, none⟩ else ⟨b, off + 5, none⟩)) (l.length - 5) (cap - 5)) (l.drop 5) := by
    by_cases h5 : cap = 5
    · rw [if_pos h5]
      have e5 : l.length - 5 = 0 := by omega
      have e6 : l.drop 5 = [] := List.drop_eq_nil_of_le (by omega)
      rw [e5, e6]
      exact Sl.mk b off _ [] hb (by simp) (by omega) (fun i hi => by simp at hi)
    · rw [if_neg h5]; exact Sl.from b off cap l hb h1 h2 hc 5 h
  have H5 : Hid (∀ ob, Sl (w.alloc ob) (.slice (some (if cap = 5 then ⟨b, off, none⟩ else ⟨b, off + 5, none⟩)) (l.length - 5) (cap - 5)) (l.drop 5)) := hide (fun ob => h5.alloc ob)
  rw [he, hk, hd] at hpf
  have HE := hide he
  have HK := hide hk
  have HD := hide hd
  clear he hk hd h5
  by_cases hE : e = 0
  · subst hE
    obtain ⟨k1, k2, d1, d2⟩ := hpf.2 rfl
    rw [hlen] at k2 d1
    have hcap : ¬ cap = 5 := by omega
    have H5' := unhide H5 (.cells #[.int .u8 0, .slice none 0 0] 44)
    rw [if_neg hcap] at H5'
    have hs4 := Sl.cut b off cap l hb h1 h2 hc 4 (1 + k) (by omega)
    rw [show 1 + k = 5 + k - 4 from by omega] at hs4
    have hsl0 := hide hsl
    clear hpf H5 hsl
    have H5'' := hide H5'
    clear H5'
    have hc4 := hc 4 (by omega)
    have HS4 := hide hs4
    clear hs4 hc
    have HT := hide ht
    clear ht
    by_cases hcrc : rd4 l = crc ((l.drop 4).take (5 + k - 4))
    · have hfe : frE l = 0 := by unfold frE; rw [if_neg (by omega), unhide HE, if_neg (by simp), unhide HK, show 1 + k = 5 + k - 4 from by omega, if_neg (by simpa using hcrc)]
      have hfk : frK l = 5 + k := by unfold frK; rw [hfe, unhide HK]; rfl
      have hfd : frD l = d := by unfold frD; rw [hfe, unhide HD]; rfl
      have hfi : frKind l = l[4] := by unfold frKind; rw [hfe, if_pos rfl, List.getD_eq_getElem?_getD, List.getElem?_eq_getElem (by omega)]; rfl
      rw [hfe, hfk, hfd, hfi]
      clear hfe hfk hfd hfi
      obtain ⟨c4, hc4e⟩ : ∃ c, c = l[4] := ⟨_, rfl⟩
      rw [← hc4e] at hc4 ⊢
      have hne : ((rd4 l : Int) != (crc ((l.drop 4).take (5 + k - 4)) : Int)) = false := by rw [hcrc]; simp
      clear hc4e
      have HCR := hide hcrc
      clear hcrc
      go_enter Try.func38, Try.ntmps38
      go_wp2_with (first | (go_at_call 50; refine (piece_at _ _ 2000 0 k d _ (unhide H5'') (by decide) (by decide) (unhide HE) (unhide HK) (unhide HD)).mono ?_; rintro e w' ⟨v', rfl, hsv, rfl⟩; have HSV := hide hsv; clear hsv) | (go_at_call 51; refine (U32_at _ l _ ((unhide hsl0).alloc _) (by omega)).mono ?_; rintro e w2 ⟨rfl, hb2⟩; have HB2 := hide hb2; clear hb2))
      have hb2 := unhide HB2
      have hz0 : w2.cell? ⟨w.heap.size, 0, none⟩ = some (.int .u8 0) := by rw [(hb2 (w.heap.size + 1)).cell (by simp)]; simp
      have hz1 : w2.cell? ⟨w.heap.size, 1, none⟩ = some (.slice none 0 0) := by rw [(hb2 (w.heap.size + 1)).cell (by simp)]; simp
      have hy0 : w2.frozen? ⟨w.heap.size, 0, none⟩ = false := by rw [(hb2 (w.heap.size + 1)).frozen (by simp)]; simp
      have hy1 : w2.frozen? ⟨w.heap.size, 1, none⟩ = false := by rw [(hb2 (w.heap.size + 1)).frozen (by simp)]; simp
      have hz : w.heap.size < w2.heap.size := by have := (hb2 0).size; simp at this; omega
      have hbw : Below w.heap.size w w2 := ((Below.refl _ _).alloc (Nat.le_refl _) _).trans (hb2 _)
      have HS := hide (((unhide HS4).below hbw (Nat.le_refl _)))
      have HT2 := hide ((unhide HT).below hbw (unhide HT).lt)
      have hc42 : w2.cell? ⟨b, off + 4, none⟩ = some (bv c4) := by rw [hbw.cell hb]; exact hc4
      have HSV2 := hide ((unhide HSV).below (hb2 _) (Nat.le_refl _))
      clear hb2 HSV
      refine (sum_any g _ _ _ (unhide HT2) (unhide HS)).mono ?_
      rintro e w3 ⟨rfl, rfl⟩
      go_wp2
      go_region_with (go_at_call 52; refine (Clone_sl v' d _ (unhide HSV2).drew (by omega)).mono ?_; rintro e w3 ⟨a3, n3, c3, rfl, hown3, hb30⟩; have hb3 : Below w2.heap.size w2 w3 := after_drew hb30; have hs3 := hb3.size; have cz0 := (hb3.cell (p := ⟨w.heap.size, 0, none⟩) hz).trans hz0; have cz1 := (hb3.cell (p := ⟨w.heap.size, 1, none⟩) hz).trans hz1; have cy0 := (hb3.frozen (p := ⟨w.heap.size, 0, none⟩) hz).trans hy0; have cy1 := (hb3.frozen (p := ⟨w.heap.size, 1, none⟩) hz).trans hy1; have cc4 := (hb3.cell (p := ⟨b, off + 4, none⟩) (by show b < w2.heap.size; omega)).trans hc42; clear hb30)
      all_goals
        go_wp2
        refine bodyPost_ret (v := .tuple #[.agg #[bv c4, .slice a3 n3 c3], .int .i64 (5 + k : Nat), .int .i64 0]) ?_ rfl ⟨_, rfl, ?_, ?_⟩
        · simp [results, Try.results38, go_sem, cz0, cz1]
        · have o1 : Own w3 w2.heap.size (.slice a3 n3 c3) d := hown3
          exact Own.mono (ownsRow_setCell_below (ownsRow_setCell_below o1 (a := ⟨w.heap.size, 0, none⟩) hz _) (a := ⟨w.heap.size, 1, none⟩) hz _) (Nat.le_of_lt hz)
        · exact ((hbw.trans (hb3.mono (Nat.le_of_lt hz))).setCell (p := ⟨w.heap.size, 0, none⟩) (Nat.le_refl _) _).setCell (p := ⟨w.heap.size, 1, none⟩) (Nat.le_refl _) _
    · have hfe : frE l = 11 := by unfold frE; rw [if_neg (by omega), unhide HE, if_neg (by simp), unhide HK, show 1 + k = 5 + k - 4 from by omega, if_pos hcrc]
      have hfk : frK l = 0 := by unfold frK; rw [hfe]; rfl
      have hfd : frD l = [] := by unfold frD; rw [hfe]; rfl
      have hfi : frKind l = 0 := by unfold frKind; rw [hfe]; rfl
      rw [hfe, hfk, hfd, hfi]
      clear hfe hfk hfd hfi
      have hne : ((rd4 l : Int) != (crc ((l.drop 4).take (5 + k - 4)) : Int)) = true := by rw [bne_iff_ne]; omega
      go_enter Try.func38, Try.ntmps38
      go_wp2_with (first | (go_at_call 50; refine (piece_at _ _ 2000 0 k d _ (unhide H5'') (by decide) (by decide) (unhide HE) (unhide HK) (unhide HD)).mono ?_; rintro e w' ⟨v', rfl, hsv, rfl⟩; have HSV := hide hsv; clear hsv) | (go_at_call 51; refine (U32_at _ l _ ((unhide hsl0).alloc _) (by omega)).mono ?_; rintro e w2 ⟨rfl, hb2⟩; have HB2 := hide hb2; clear hb2))
      have hb2 := unhide HB2
      have hz0 : w2.cell? ⟨w.heap.size, 0, none⟩ = some (.int .u8 0) := by rw [(hb2 (w.heap.size + 1)).cell (by simp)]; simp
      have hz1 : w2.cell? ⟨w.heap.size, 1, none⟩ = some (.slice none 0 0) := by rw [(hb2 (w.heap.size + 1)).cell (by simp)]; simp
      have hy0 : w2.frozen? ⟨w.heap.size, 0, none⟩ = false := by rw [(hb2 (w.heap.size + 1)).frozen (by simp)]; simp
      have hy1 : w2.frozen? ⟨w.heap.size, 1, none⟩ = false := by rw [(hb2 (w.heap.size + 1)).frozen (by simp)]; simp
      have hz : w.heap.size < w2.heap.size := by have := (hb2 0).size; simp at this; omega
      have hbw : Below w.heap.size w w2 := ((Below.refl _ _).alloc (Nat.le_refl _) _).trans (hb2 _)
      have HS := hide (((unhide HS4).below hbw (Nat.le_refl _)))
      have HT2 := hide ((unhide HT).below hbw (unhide HT).lt)
      clear hb2
      refine (sum_any g _ _ _ (unhide HT2) (unhide HS)).mono ?_
      rintro e w3 ⟨rfl, rfl⟩
      go_wp2
      refine bodyPost_ret (v := .tuple #[.agg #[.int .u8 0, .slice none 0 0], .int .i64 0, .int .i64 11]) ?_ rfl ⟨_, rfl, World.ownsRow_nil _ _ _ _, ?_⟩
      · simp [results, Try.results38, go_sem, hz0, hz1]
      · exact (hbw.setCell (p := ⟨w.heap.size, 0, none⟩) (Nat.le_refl _) _).setCell (p := ⟨w.heap.size, 1, none⟩) (Nat.le_refl _) _
  · have hfe : frE l = e := by unfold frE; rw [if_neg (by omega), unhide HE, if_pos hE]
    have hfk : frK l = 0 := by unfold frK; rw [hfe, if_neg hE]
    have hfd : frD l = [] := by unfold frD; rw [hfe, if_neg hE]
    have hfi : frKind l = 0 := by unfold frKind; rw [hfe, if_neg hE]
    rw [hfe, hfk, hfd, hfi]
    have hne : ((e : Int) != 0) = true := by rw [bne_iff_ne]; omega
    clear hfe hfk hfd hfi hc
    by_cases hcap : cap = 5
    all_goals
      have H5' := unhide H5 (.cells #[.int .u8 0, .slice none 0 0] 44)
      first | rw [if_pos hcap] at H5' | rw [if_neg hcap] at H5'
      go_enter Try.func38, Try.ntmps38
      go_wp2_with (go_at_call 50; refine (piece_at _ _ 2000 e k d _ (by simpa [hcap] using H5') (by decide) (by decide) (unhide HE) (unhide HK) (unhide HD)).mono ?_; rintro e w' ⟨v', rfl, hsv, rfl⟩)
      exact bodyPost_ret (v := .tuple #[.agg #[.int .u8 0, .slice none 0 0], .int .i64 0, .int .i64 e]) (by simp [results, Try.results38, go_sem]) rfl ⟨_, rfl, World.ownsRow_nil _ _ _ _, (Below.refl _ _).alloc (Nat.le_refl _) _⟩

theorem readFrame_any (g : Nat) (v : Value) (l : List UInt8) (w : World) (ht : Tab w g crcTab) (hv : Sl w v l) :
    Calls Try.prog 38 #[v, .pointer (some ⟨g, 0, none⟩)] w fun e w' => ∃ a n c, e = .returned (.tuple #[.agg #[bv (frKind l), .slice a n c], .int .i64 (frK l : Nat), .int .i64 (frE l : Nat)]) ∧ Own w' w.heap.size (.slice a n c) (frD l) ∧ Below w.heap.size w w' := by
  by_cases h : l.length < 5
  · have hfe : frE l = 10 := by unfold frE; rw [if_pos h]
    have hfk : frK l = 0 := by unfold frK; rw [hfe]; rfl
    have hfd : frD l = [] := by unfold frD; rw [hfe]; rfl
    have hfi : frKind l = 0 := by unfold frKind; rw [hfe]; rfl
    rw [hfe, hfk, hfd, hfi]
    refine (readFrame_short g v l w hv h).mono ?_
    rintro e w' ⟨rfl, hb⟩
    exact ⟨none, 0, 0, rfl, World.ownsRow_nil _ _ _ _, hb⟩
  · rcases hv.cases with ⟨rfl, ao, rfl⟩ | ⟨b, off, cap, rfl, h1, h2, h3, hc⟩
    · simp at h
    · refine (readFrame_long g b off cap l w ht h3 h1 h2 hc (by omega)).mono ?_
      rintro e w' ⟨v', rfl, h1, h2⟩
      obtain ⟨a, n, c, rfl⟩ := own_slice h1
      exact ⟨a, n, c, rfl, h1, h2⟩

set_option maxHeartbeats 1000000 in
theorem Frame_any (v : Value) (l : List UInt8) (w : World) (hv : Sl w v l) :
    Calls Try.prog 16 #[v] w fun e w' => ∃ a n c, e = .returned (.tuple #[.agg #[bv (frKind l), .slice a n c], .int .i64 (frK l : Nat), .int .i64 (frE l : Nat)]) ∧ Own w' w.heap.size (.slice a n c) (frD l) ∧ Below w.heap.size w w' := by
  go_enter Try.func16, Try.ntmps16
  go_wp2_with fail
  refine (makeSumTable_any _).mono ?_
  rintro e w1 ⟨rfl, hb1⟩
  have ht := zero_tab w1
  have hs := hb1.size
  simp at hs
  have hbw1 : Below w.heap.size w w1 := ((Below.refl _ _).alloc (Nat.le_refl _) _).trans (hb1.mono (by simp))
  have hv1 := hv.below hbw1 (Nat.le_refl _)
  have hb3 : Below w1.heap.size w1 ((w1.alloc (.cells zeroTab 77)).setRow w1.heap.size (tabCells crcTab)) := ((Below.refl _ _).alloc (Nat.le_refl _) _).trans (below_setRow' _ _ _ _ (Nat.le_refl _))
  have hv2 := hv1.below hb3 (Nat.le_refl _)
  have ht2 : Tab ((w1.alloc (.cells zeroTab 77)).setRow w1.heap.size (tabCells crcTab)) w1.heap.size crcTab := ⟨setRow_heap _ _ _ _ _ _ ht.1, tabB_len 255⟩
  have HH := hide (And.intro ht2 hv2)
  have HB3 := hide hb3
  have HB1 := hide hb1
  have HBW := hide hbw1
  clear hb3 ht2 hv1 hv2 hb1 hbw1
  go_wp2_with (first | (refine wpList_alloc_tab rfl rfl ?_) | (refine wpList_store_row rfl 77 (.tmp 5) (.tmp 6) rfl w1.heap.size (tabCells crcTab) rfl rfl 77 (tabCells (tabA 0)) ht.1 (by rw [tab_size]; kernel_rfl) (by rw [tab_size, tab_size]; exact (tabA_len 0).trans (tabB_len 255).symm) (tab_one _) ?_))
  refine (readFrame_any w1.heap.size v l _ (unhide HH).1 (unhide HH).2).mono ?_
  rintro e w2 ⟨a, n, c, rfl, hown, hb2⟩
  have hs2 := hb2.size
  have hsz : w1.heap.size ≤ w2.heap.size := by have := (unhide HB3).size; omega
  have hbs : Below w1.heap.size w1 w2 := (unhide HB3).trans (hb2.mono (unhide HB3).size)
  have z0 : w2.cell? ⟨w.heap.size, 0, none⟩ = some (.int .u8 0) := by
    rw [hbs.cell (by show w.heap.size < w1.heap.size; omega), (unhide HB1).cell (by simp)]; simp
  have z1 : w2.cell? ⟨w.heap.size, 1, none⟩ = some (.slice none 0 0) := by
    rw [hbs.cell (by show w.heap.size < w1.heap.size; omega), (unhide HB1).cell (by simp)]; simp
  have y0 : w2.frozen? ⟨w.heap.size, 0, none⟩ = false := by
    rw [hbs.frozen (by show w.heap.size < w1.heap.size; omega), (unhide HB1).frozen (by simp)]; simp
  have y1 : w2.frozen? ⟨w.heap.size, 1, none⟩ = false := by
    rw [hbs.frozen (by show w.heap.size < w1.heap.size; omega), (unhide HB1).frozen (by simp)]; simp
  have hgt : w.heap.size < ((w1.alloc (.cells zeroTab 77)).setRow w1.heap.size (tabCells crcTab)).heap.size := by have := (unhide HB3).size; omega
  have HO := hide hown
  have HBS := hide hbs
  have HGT := hide hgt
  clear hown hb2 hbs ht hs2 hgt
  go_wp2
  refine bodyPost_ret (v := .tuple #[.agg #[bv (frKind l), .slice a n c], .int .i64 (frK l : Nat), .int .i64 (frE l : Nat)]) ?_ rfl ⟨a, n, c, rfl, ?_, ?_⟩
  · simp [results, Try.results16, go_sem, z0, z1]
  · exact Own.mono (ownsRow_setCell_below (ownsRow_setCell_below (unhide HO) (a := ⟨w.heap.size, 0, none⟩) (unhide HGT) _) (a := ⟨w.heap.size, 1, none⟩) (unhide HGT) _) (Nat.le_of_lt (unhide HGT))
  · exact (((unhide HBW).trans ((unhide HBS).mono (by omega))).setCell (p := ⟨w.heap.size, 0, none⟩) (Nat.le_refl _) _).setCell (p := ⟨w.heap.size, 1, none⟩) (Nat.le_refl _) _
end Go.Proofs.Ytkikfdbjfhgfoaa
