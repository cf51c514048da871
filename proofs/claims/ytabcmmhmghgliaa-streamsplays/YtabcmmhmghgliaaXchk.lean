/-
  DERIVED. The walk of the state's check, by cases.
-/
import Derived.Test.YtabcmmhmghgliaaXtry0
import Derived.Deep.RegionHeld3
namespace Go.Proofs.Ytabcmmhmghgliaa
open Go.RowKit Go.Maps
set_option linter.unusedVariables false

abbrev bt (s k : List UInt8) (f : Int) (a : Option Addr) (n c : Nat) : Array Value := #[sv s, sv k, .int .i64 f, .slice a n c]
open Classical in
/-- What a check of a batch answers: P10.2. -/
noncomputable def chkA (I : Ix) (s k : List UInt8) (fi : Int) (es : List Evn) : Int :=
  if ¬ okNames s k then 100 else if (I.key k).isSome = true then 101 else if ¬ okEvs es then 102 else if fi ≠ (I.ver s : Int) then 103 else 0

set_option maxRecDepth 20000 in
set_option maxHeartbeats 4000000 in
theorem chk_names0 {w : World} {F : Nat → Prop} {st mp mk N : Nat} {I : Ix} {xs : List (Ent × Nat)} {av : Value} {pf : List UInt8 → Value} {D1 D2 : DataW Value} (h : IxIn w F st mp mk N I xs av pf D1 D2) (a : Option Addr) (n c : Nat) (ha : av = .slice a n c) (s : List UInt8) (hs : s.length ≤ maxLen) (fi : Int) (k : List UInt8) (hk : k.length ≤ maxLen) (ea : Option Addr) (en ec : Nat) (es : List Evn) (hv : EvL w (.slice ea en ec) es) (hfit : ∀ e ∈ es, fitE e) (hn : ¬ okNames s k) (hky : I.key k = none) :
    Calls Try.prog 36 #[.agg (stV (.slice a n c) (some mp) (some mk)), .agg (bt s k fi ea en ec)] w fun e w' => e = .returned (.int .i64 100) ∧ Below w.heap.size w w' := by
  have hsl : s.length ≤ 9223372036854775807 := hs
  have hkl : k.length ≤ 9223372036854775807 := hk
  have lmp := h.mpo.lt
  have lmk := h.mko.lt
  obtain ⟨w2, hw2⟩ : ∃ w2, w2 = (w.alloc (.cells (stV (.slice a n c) (some mp) (some mk)) 68)).alloc (.cells (bt s k fi ea en ec) 33) := ⟨_, rfl⟩
  have b2 : Below w.heap.size w w2 := by rw [hw2]; exact ((Below.refl _ _).alloc (Nat.le_refl _) _).alloc (by simp) _
  have z2 : w2.heap.size = w.heap.size + 2 := by rw [hw2]; simp
  have HS2 : w2.heap[w.heap.size]? = some (.cells (stV (.slice a n c) (some mp) (some mk)) 68 (0, 0)) := by rw [hw2, Below.heap_alloc _ _ _ (by simp)]; exact heap_alloc_self _ _
  have HB2 : BBox w2 (w.heap.size + 1) s k fi (.slice ea en ec) := by
    unfold BBox; rw [hw2, show w.heap.size + 1 = (w.alloc (.cells (stV (.slice a n c) (some mp) (some mk)) 68)).heap.size by simp]; exact heap_alloc_self _ _
  have hlk := h.lookK (W := w2) (b2.block mk lmk) k hkl
  have HKEY := hide hky
  rw [unhide HKEY] at hlk
  simp only [kdV, Option.isSome_none] at hlk
  obtain ⟨w3, hw3⟩ : ∃ w3, w3 = w2.alloc (.cells (kdA [] 0 0 0 false) 96) := ⟨_, rfl⟩
  have b3 : Below w2.heap.size w2 w3 := by rw [hw3]; exact (Below.refl _ _).alloc (Nat.le_refl _) _
  have B3 := hide (b2.trans (b3.mono b2.size))
  have z3 : w3.heap.size = w.heap.size + 3 := by rw [hw3]; simp [z2]
  have HS3 := (b3.block w.heap.size (by omega)).trans HS2
  have HB3 := HB2.same (b3.block (w.heap.size + 1) (by omega))
  obtain ⟨q0, q1, q2, q3, q4⟩ := HB2.cells
  obtain ⟨p0, p1, p2, p3, p4⟩ := HB3.cells
  have t3 : w2.cell? ⟨w.heap.size, 2, none⟩ = some (.map (some mk)) := (cell_of_row _ _ _ _ _ _ HS2).trans rfl
  have HI := hide h
  have HV := hide hv
  have HFI := hide hfit
  have HSS := hide HS3
  have HBB := hide HB3
  have Z3 := hide z3
  have NA := hide (namesAllowed_any s k)
  have HNA := hide (ans_false hn)

  clear h b2 b3 z2 z3 HS2 HB2 HS3 HB3 hv hfit hs hk hky
  go_enter Try.func36, Try.ntmps36
  go_upto_region 1 with fail
  rw [← hw2]
  clear hw2
  go_upto_region 2 with fail
  rw [← hw3]
  clear hw3 hlk q0 q1 q2 q3 q4 t3
  go_wp2_with fail
  refine (unhide NA w3 hsl hkl).mono ?_
  rintro e w4 ⟨rfl, rfl⟩
  rw [unhide HNA]
  go_wp2
  go_ret
  exact ⟨rfl, unhide B3⟩

set_option maxRecDepth 20000 in
set_option maxHeartbeats 4000000 in
theorem chk_names1 {w : World} {F : Nat → Prop} {st mp mk N : Nat} {I : Ix} {xs : List (Ent × Nat)} {av : Value} {pf : List UInt8 → Value} {D1 D2 : DataW Value} (h : IxIn w F st mp mk N I xs av pf D1 D2) (a : Option Addr) (n c : Nat) (ha : av = .slice a n c) (s : List UInt8) (hs : s.length ≤ maxLen) (fi : Int) (k : List UInt8) (hk : k.length ≤ maxLen) (ea : Option Addr) (en ec : Nat) (es : List Evn) (hv : EvL w (.slice ea en ec) es) (hfit : ∀ e ∈ es, fitE e) (hn : ¬ okNames s k) (ds : List UInt8) (df dp dc : Nat) (hky : I.key k = some ⟨ds, df, dp, dc⟩) :
    Calls Try.prog 36 #[.agg (stV (.slice a n c) (some mp) (some mk)), .agg (bt s k fi ea en ec)] w fun e w' => e = .returned (.int .i64 100) ∧ Below w.heap.size w w' := by
  have hsl : s.length ≤ 9223372036854775807 := hs
  have hkl : k.length ≤ 9223372036854775807 := hk
  have lmp := h.mpo.lt
  have lmk := h.mko.lt
  obtain ⟨w2, hw2⟩ : ∃ w2, w2 = (w.alloc (.cells (stV (.slice a n c) (some mp) (some mk)) 68)).alloc (.cells (bt s k fi ea en ec) 33) := ⟨_, rfl⟩
  have b2 : Below w.heap.size w w2 := by rw [hw2]; exact ((Below.refl _ _).alloc (Nat.le_refl _) _).alloc (by simp) _
  have z2 : w2.heap.size = w.heap.size + 2 := by rw [hw2]; simp
  have HS2 : w2.heap[w.heap.size]? = some (.cells (stV (.slice a n c) (some mp) (some mk)) 68 (0, 0)) := by rw [hw2, Below.heap_alloc _ _ _ (by simp)]; exact heap_alloc_self _ _
  have HB2 : BBox w2 (w.heap.size + 1) s k fi (.slice ea en ec) := by
    unfold BBox; rw [hw2, show w.heap.size + 1 = (w.alloc (.cells (stV (.slice a n c) (some mp) (some mk)) 68)).heap.size by simp]; exact heap_alloc_self _ _
  have hlk := h.lookK (W := w2) (b2.block mk lmk) k hkl
  have HKEY := hide hky
  rw [unhide HKEY] at hlk
  simp only [kdV, Option.isSome_some] at hlk
  obtain ⟨w3, hw3⟩ : ∃ w3, w3 = w2.alloc (.cells (kdA ds df dp dc false) 96) := ⟨_, rfl⟩
  have b3 : Below w2.heap.size w2 w3 := by rw [hw3]; exact (Below.refl _ _).alloc (Nat.le_refl _) _
  have B3 := hide (b2.trans (b3.mono b2.size))
  have z3 : w3.heap.size = w.heap.size + 3 := by rw [hw3]; simp [z2]
  have HS3 := (b3.block w.heap.size (by omega)).trans HS2
  have HB3 := HB2.same (b3.block (w.heap.size + 1) (by omega))
  obtain ⟨q0, q1, q2, q3, q4⟩ := HB2.cells
  obtain ⟨p0, p1, p2, p3, p4⟩ := HB3.cells
  have t3 : w2.cell? ⟨w.heap.size, 2, none⟩ = some (.map (some mk)) := (cell_of_row _ _ _ _ _ _ HS2).trans rfl
  have HI := hide h
  have HV := hide hv
  have HFI := hide hfit
  have HSS := hide HS3
  have HBB := hide HB3
  have Z3 := hide z3
  have NA := hide (namesAllowed_any s k)
  have HNA := hide (ans_false hn)

  clear h b2 b3 z2 z3 HS2 HB2 HS3 HB3 hv hfit hs hk hky
  go_enter Try.func36, Try.ntmps36
  go_upto_region 1 with fail
  rw [← hw2]
  clear hw2
  go_upto_region 2 with fail
  rw [← hw3]
  clear hw3 hlk q0 q1 q2 q3 q4 t3
  go_wp2_with fail
  refine (unhide NA w3 hsl hkl).mono ?_
  rintro e w4 ⟨rfl, rfl⟩
  rw [unhide HNA]
  go_wp2
  go_ret
  exact ⟨rfl, unhide B3⟩

set_option maxRecDepth 20000 in
set_option maxHeartbeats 4000000 in
theorem chk_key {w : World} {F : Nat → Prop} {st mp mk N : Nat} {I : Ix} {xs : List (Ent × Nat)} {av : Value} {pf : List UInt8 → Value} {D1 D2 : DataW Value} (h : IxIn w F st mp mk N I xs av pf D1 D2) (a : Option Addr) (n c : Nat) (ha : av = .slice a n c) (s : List UInt8) (hs : s.length ≤ maxLen) (fi : Int) (k : List UInt8) (hk : k.length ≤ maxLen) (ea : Option Addr) (en ec : Nat) (es : List Evn) (hv : EvL w (.slice ea en ec) es) (hfit : ∀ e ∈ es, fitE e) (hn : okNames s k) (ds : List UInt8) (df dp dc : Nat) (hky : I.key k = some ⟨ds, df, dp, dc⟩) :
    Calls Try.prog 36 #[.agg (stV (.slice a n c) (some mp) (some mk)), .agg (bt s k fi ea en ec)] w fun e w' => e = .returned (.int .i64 101) ∧ Below w.heap.size w w' := by
  have hsl : s.length ≤ 9223372036854775807 := hs
  have hkl : k.length ≤ 9223372036854775807 := hk
  have lmp := h.mpo.lt
  have lmk := h.mko.lt
  obtain ⟨w2, hw2⟩ : ∃ w2, w2 = (w.alloc (.cells (stV (.slice a n c) (some mp) (some mk)) 68)).alloc (.cells (bt s k fi ea en ec) 33) := ⟨_, rfl⟩
  have b2 : Below w.heap.size w w2 := by rw [hw2]; exact ((Below.refl _ _).alloc (Nat.le_refl _) _).alloc (by simp) _
  have z2 : w2.heap.size = w.heap.size + 2 := by rw [hw2]; simp
  have HS2 : w2.heap[w.heap.size]? = some (.cells (stV (.slice a n c) (some mp) (some mk)) 68 (0, 0)) := by rw [hw2, Below.heap_alloc _ _ _ (by simp)]; exact heap_alloc_self _ _
  have HB2 : BBox w2 (w.heap.size + 1) s k fi (.slice ea en ec) := by
    unfold BBox; rw [hw2, show w.heap.size + 1 = (w.alloc (.cells (stV (.slice a n c) (some mp) (some mk)) 68)).heap.size by simp]; exact heap_alloc_self _ _
  have hlk := h.lookK (W := w2) (b2.block mk lmk) k hkl
  have HKEY := hide hky
  rw [unhide HKEY] at hlk
  simp only [kdV, Option.isSome_some] at hlk
  obtain ⟨w3, hw3⟩ : ∃ w3, w3 = w2.alloc (.cells (kdA ds df dp dc false) 96) := ⟨_, rfl⟩
  have b3 : Below w2.heap.size w2 w3 := by rw [hw3]; exact (Below.refl _ _).alloc (Nat.le_refl _) _
  have B3 := hide (b2.trans (b3.mono b2.size))
  have z3 : w3.heap.size = w.heap.size + 3 := by rw [hw3]; simp [z2]
  have HS3 := (b3.block w.heap.size (by omega)).trans HS2
  have HB3 := HB2.same (b3.block (w.heap.size + 1) (by omega))
  obtain ⟨q0, q1, q2, q3, q4⟩ := HB2.cells
  obtain ⟨p0, p1, p2, p3, p4⟩ := HB3.cells
  have t3 : w2.cell? ⟨w.heap.size, 2, none⟩ = some (.map (some mk)) := (cell_of_row _ _ _ _ _ _ HS2).trans rfl
  have HI := hide h
  have HV := hide hv
  have HFI := hide hfit
  have HSS := hide HS3
  have HBB := hide HB3
  have Z3 := hide z3
  have NA := hide (namesAllowed_any s k)
  have HNA := hide (ans_true hn)

  clear h b2 b3 z2 z3 HS2 HB2 HS3 HB3 hv hfit hs hk hky
  go_enter Try.func36, Try.ntmps36
  go_upto_region 1 with fail
  rw [← hw2]
  clear hw2
  go_upto_region 2 with fail
  rw [← hw3]
  clear hw3 hlk q0 q1 q2 q3 q4 t3
  go_wp2_with fail
  refine (unhide NA w3 hsl hkl).mono ?_
  rintro e w4 ⟨rfl, rfl⟩
  rw [unhide HNA]
  go_wp2
  go_ret
  exact ⟨rfl, unhide B3⟩

set_option maxRecDepth 20000 in
set_option maxHeartbeats 4000000 in
theorem chk_evs {w : World} {F : Nat → Prop} {st mp mk N : Nat} {I : Ix} {xs : List (Ent × Nat)} {av : Value} {pf : List UInt8 → Value} {D1 D2 : DataW Value} (h : IxIn w F st mp mk N I xs av pf D1 D2) (a : Option Addr) (n c : Nat) (ha : av = .slice a n c) (s : List UInt8) (hs : s.length ≤ maxLen) (fi : Int) (k : List UInt8) (hk : k.length ≤ maxLen) (ea : Option Addr) (en ec : Nat) (es : List Evn) (hv : EvL w (.slice ea en ec) es) (hfit : ∀ e ∈ es, fitE e) (hn : okNames s k) (hky : I.key k = none) (hev : ¬ okEvs es) :
    Calls Try.prog 36 #[.agg (stV (.slice a n c) (some mp) (some mk)), .agg (bt s k fi ea en ec)] w fun e w' => e = .returned (.int .i64 102) ∧ Below w.heap.size w w' := by
  have hsl : s.length ≤ 9223372036854775807 := hs
  have hkl : k.length ≤ 9223372036854775807 := hk
  have lmp := h.mpo.lt
  have lmk := h.mko.lt
  obtain ⟨w2, hw2⟩ : ∃ w2, w2 = (w.alloc (.cells (stV (.slice a n c) (some mp) (some mk)) 68)).alloc (.cells (bt s k fi ea en ec) 33) := ⟨_, rfl⟩
  have b2 : Below w.heap.size w w2 := by rw [hw2]; exact ((Below.refl _ _).alloc (Nat.le_refl _) _).alloc (by simp) _
  have z2 : w2.heap.size = w.heap.size + 2 := by rw [hw2]; simp
  have HS2 : w2.heap[w.heap.size]? = some (.cells (stV (.slice a n c) (some mp) (some mk)) 68 (0, 0)) := by rw [hw2, Below.heap_alloc _ _ _ (by simp)]; exact heap_alloc_self _ _
  have HB2 : BBox w2 (w.heap.size + 1) s k fi (.slice ea en ec) := by
    unfold BBox; rw [hw2, show w.heap.size + 1 = (w.alloc (.cells (stV (.slice a n c) (some mp) (some mk)) 68)).heap.size by simp]; exact heap_alloc_self _ _
  have hlk := h.lookK (W := w2) (b2.block mk lmk) k hkl
  have HKEY := hide hky
  rw [unhide HKEY] at hlk
  simp only [kdV, Option.isSome_none] at hlk
  obtain ⟨w3, hw3⟩ : ∃ w3, w3 = w2.alloc (.cells (kdA [] 0 0 0 false) 96) := ⟨_, rfl⟩
  have b3 : Below w2.heap.size w2 w3 := by rw [hw3]; exact (Below.refl _ _).alloc (Nat.le_refl _) _
  have B3 := hide (b2.trans (b3.mono b2.size))
  have z3 : w3.heap.size = w.heap.size + 3 := by rw [hw3]; simp [z2]
  have HS3 := (b3.block w.heap.size (by omega)).trans HS2
  have HB3 := HB2.same (b3.block (w.heap.size + 1) (by omega))
  obtain ⟨q0, q1, q2, q3, q4⟩ := HB2.cells
  obtain ⟨p0, p1, p2, p3, p4⟩ := HB3.cells
  have t3 : w2.cell? ⟨w.heap.size, 2, none⟩ = some (.map (some mk)) := (cell_of_row _ _ _ _ _ _ HS2).trans rfl
  have HI := hide h
  have HV := hide hv
  have HFI := hide hfit
  have HSS := hide HS3
  have HBB := hide HB3
  have Z3 := hide z3
  have NA := hide (namesAllowed_any s k)
  have HNA := hide (ans_true hn)
  have HEV := hide (ans_false hev)
  clear hev

  clear h b2 b3 z2 z3 HS2 HB2 HS3 HB3 hv hfit hs hk hky
  go_enter Try.func36, Try.ntmps36
  go_upto_region 1 with fail
  rw [← hw2]
  clear hw2
  go_upto_region 2 with fail
  rw [← hw3]
  clear hw3 hlk q0 q1 q2 q3 q4 t3
  go_wp2_with fail
  refine (unhide NA w3 hsl hkl).mono ?_
  rintro e w4 ⟨rfl, rfl⟩
  rw [unhide HNA]
  have CE := hide (eventsAllowed_any ea en ec es w3 ((unhide HV).below (unhide B3) (Nat.le_refl _)) (unhide HFI))
  go_wp2_with fail
  refine (unhide CE).mono ?_
  rintro e w5 ⟨rfl, b5⟩
  rw [unhide HEV]
  have B5 := hide ((unhide B3).trans (b5.mono (unhide B3).size))
  clear b5 CE
  go_wp2
  go_ret
  exact ⟨rfl, unhide B5⟩

set_option maxRecDepth 20000 in
set_option maxHeartbeats 4000000 in
theorem chk_ver {w : World} {F : Nat → Prop} {st mp mk N : Nat} {I : Ix} {xs : List (Ent × Nat)} {av : Value} {pf : List UInt8 → Value} {D1 D2 : DataW Value} (h : IxIn w F st mp mk N I xs av pf D1 D2) (a : Option Addr) (n c : Nat) (ha : av = .slice a n c) (s : List UInt8) (hs : s.length ≤ maxLen) (fi : Int) (k : List UInt8) (hk : k.length ≤ maxLen) (ea : Option Addr) (en ec : Nat) (es : List Evn) (hv : EvL w (.slice ea en ec) es) (hfit : ∀ e ∈ es, fitE e) (hn : okNames s k) (hky : I.key k = none) (hev : okEvs es) (hf : fi ≠ (I.ver s : Int)) :
    Calls Try.prog 36 #[.agg (stV (.slice a n c) (some mp) (some mk)), .agg (bt s k fi ea en ec)] w fun e w' => e = .returned (.int .i64 103) ∧ Below w.heap.size w w' := by
  have hsl : s.length ≤ 9223372036854775807 := hs
  have hkl : k.length ≤ 9223372036854775807 := hk
  have lmp := h.mpo.lt
  have lmk := h.mko.lt
  obtain ⟨w2, hw2⟩ : ∃ w2, w2 = (w.alloc (.cells (stV (.slice a n c) (some mp) (some mk)) 68)).alloc (.cells (bt s k fi ea en ec) 33) := ⟨_, rfl⟩
  have b2 : Below w.heap.size w w2 := by rw [hw2]; exact ((Below.refl _ _).alloc (Nat.le_refl _) _).alloc (by simp) _
  have z2 : w2.heap.size = w.heap.size + 2 := by rw [hw2]; simp
  have HS2 : w2.heap[w.heap.size]? = some (.cells (stV (.slice a n c) (some mp) (some mk)) 68 (0, 0)) := by rw [hw2, Below.heap_alloc _ _ _ (by simp)]; exact heap_alloc_self _ _
  have HB2 : BBox w2 (w.heap.size + 1) s k fi (.slice ea en ec) := by
    unfold BBox; rw [hw2, show w.heap.size + 1 = (w.alloc (.cells (stV (.slice a n c) (some mp) (some mk)) 68)).heap.size by simp]; exact heap_alloc_self _ _
  have hlk := h.lookK (W := w2) (b2.block mk lmk) k hkl
  have HKEY := hide hky
  rw [unhide HKEY] at hlk
  simp only [kdV, Option.isSome_none] at hlk
  obtain ⟨w3, hw3⟩ : ∃ w3, w3 = w2.alloc (.cells (kdA [] 0 0 0 false) 96) := ⟨_, rfl⟩
  have b3 : Below w2.heap.size w2 w3 := by rw [hw3]; exact (Below.refl _ _).alloc (Nat.le_refl _) _
  have B3 := hide (b2.trans (b3.mono b2.size))
  have z3 : w3.heap.size = w.heap.size + 3 := by rw [hw3]; simp [z2]
  have HS3 := (b3.block w.heap.size (by omega)).trans HS2
  have HB3 := HB2.same (b3.block (w.heap.size + 1) (by omega))
  obtain ⟨q0, q1, q2, q3, q4⟩ := HB2.cells
  obtain ⟨p0, p1, p2, p3, p4⟩ := HB3.cells
  have t3 : w2.cell? ⟨w.heap.size, 2, none⟩ = some (.map (some mk)) := (cell_of_row _ _ _ _ _ _ HS2).trans rfl
  have HI := hide h
  have HV := hide hv
  have HFI := hide hfit
  have HSS := hide HS3
  have HBB := hide HB3
  have Z3 := hide z3
  have NA := hide (namesAllowed_any s k)
  have HNA := hide (ans_true hn)
  have HEV := hide (ans_true hev)
  have hq2 : (fi != (I.ver s : Int)) = true := bne_iff_ne.2 hf
  clear hev hf

  clear h b2 b3 z2 z3 HS2 HB2 HS3 HB3 hv hfit hs hk hky
  go_enter Try.func36, Try.ntmps36
  go_upto_region 1 with fail
  rw [← hw2]
  clear hw2
  go_upto_region 2 with fail
  rw [← hw3]
  clear hw3 hlk q0 q1 q2 q3 q4 t3
  go_wp2_with fail
  refine (unhide NA w3 hsl hkl).mono ?_
  rintro e w4 ⟨rfl, rfl⟩
  rw [unhide HNA]
  have CE := hide (eventsAllowed_any ea en ec es w3 ((unhide HV).below (unhide B3) (Nat.le_refl _)) (unhide HFI))
  go_wp2_with fail
  refine (unhide CE).mono ?_
  rintro e w5 ⟨rfl, b5⟩
  rw [unhide HEV]
  have B5 := hide ((unhide B3).trans (b5.mono (unhide B3).size))
  have HS5 := (b5.block w.heap.size (by have := unhide Z3; omega)).trans (unhide HSS)
  have HB5 := (unhide HBB).same (b5.block (w.heap.size + 1) (by have := unhide Z3; omega))
  have VC := hide (version_go (unhide HI) a n c ha s hsl w5.drew ((unhide B5).block mp lmp))
  obtain ⟨r0, r1, r2, r3, r4⟩ := HB5.cells
  have v0 : w5.cell? ⟨w.heap.size, 0, none⟩ = some (.slice a n c) := (cell_of_row _ _ _ _ _ _ HS5).trans rfl
  have v1 : w5.cell? ⟨w.heap.size, 1, none⟩ = some (.map (some mp)) := (cell_of_row _ _ _ _ _ _ HS5).trans rfl
  have v2 : w5.cell? ⟨w.heap.size, 2, none⟩ = some (.map (some mk)) := (cell_of_row _ _ _ _ _ _ HS5).trans rfl
  have S0 : Hid (w5.drew.cell? ⟨w.heap.size, 0, none⟩ = some (.slice a n c) ∧ w5.drew.cell? ⟨w.heap.size, 1, none⟩ = some (.map (some mp)) ∧ w5.drew.cell? ⟨w.heap.size, 2, none⟩ = some (.map (some mk)) ∧ w5.drew.cell? ⟨w.heap.size + 1, 0, none⟩ = some (sv s) ∧ w5.drew.cell? ⟨w.heap.size + 1, 2, none⟩ = some (.int .i64 fi)) := hide ⟨v0, v1, v2, r0, r2⟩
  have l5 : w.heap.size + 1 < w5.heap.size := by have := b5.size; have := unhide Z3; omega
  have NX : Hid (∀ w6, Below w5.drew.heap.size w5.drew w6 → (w6.cell? ⟨w.heap.size, 0, none⟩ = some (.slice a n c) ∧ w6.cell? ⟨w.heap.size, 1, none⟩ = some (.map (some mp)) ∧ w6.cell? ⟨w.heap.size, 2, none⟩ = some (.map (some mk)) ∧ w6.cell? ⟨w.heap.size + 1, 0, none⟩ = some (sv s) ∧ w6.cell? ⟨w.heap.size + 1, 2, none⟩ = some (.int .i64 fi))) := hide (fun w6 hb => ⟨(hb.cell (p := ⟨w.heap.size, 0, none⟩) (show w.heap.size < w5.heap.size by omega)).trans (unhide S0).1, (hb.cell (p := ⟨w.heap.size, 1, none⟩) (show w.heap.size < w5.heap.size by omega)).trans (unhide S0).2.1, (hb.cell (p := ⟨w.heap.size, 2, none⟩) (show w.heap.size < w5.heap.size by omega)).trans (unhide S0).2.2.1, (hb.cell (p := ⟨w.heap.size + 1, 0, none⟩) l5).trans (unhide S0).2.2.2.1, (hb.cell (p := ⟨w.heap.size + 1, 2, none⟩) l5).trans (unhide S0).2.2.2.2⟩)
  have BN : Hid (∀ w6, Below w5.drew.heap.size w5.drew w6 → Below w.heap.size w w6) := hide (fun w6 hb => (unhide B5).drew.trans (hb.mono (unhide B5).size))
  clear b5 CE HS5 HB5 p0 p1 p2 p3 p4
  go_upto_region 8 with fail
  clear v0 v1 v2 r0 r1 r2 r3 r4
  go_region_held3 (fun w' => w'.cell? ⟨w.heap.size, 0, none⟩ = some (.slice a n c) ∧ w'.cell? ⟨w.heap.size, 1, none⟩ = some (.map (some mp)) ∧ w'.cell? ⟨w.heap.size, 2, none⟩ = some (.map (some mk)) ∧ w'.cell? ⟨w.heap.size + 1, 0, none⟩ = some (sv s) ∧ w'.cell? ⟨w.heap.size + 1, 2, none⟩ = some (.int .i64 fi))
    (first | exact unhide S0 | exact unhide S2)
    ((go_at_call 47; refine (unhide VC).mono ?_; rintro e w6 ⟨rfl, b6⟩; have S2 := hide (unhide NX w6 b6); have B6 := hide (unhide BN w6 b6); clear b6))
  all_goals
    go_wp2
    go_ret
    exact ⟨rfl, unhide B6⟩

set_option maxRecDepth 20000 in
set_option maxHeartbeats 4000000 in
theorem chk_fine {w : World} {F : Nat → Prop} {st mp mk N : Nat} {I : Ix} {xs : List (Ent × Nat)} {av : Value} {pf : List UInt8 → Value} {D1 D2 : DataW Value} (h : IxIn w F st mp mk N I xs av pf D1 D2) (a : Option Addr) (n c : Nat) (ha : av = .slice a n c) (s : List UInt8) (hs : s.length ≤ maxLen) (fi : Int) (k : List UInt8) (hk : k.length ≤ maxLen) (ea : Option Addr) (en ec : Nat) (es : List Evn) (hv : EvL w (.slice ea en ec) es) (hfit : ∀ e ∈ es, fitE e) (hn : okNames s k) (hky : I.key k = none) (hev : okEvs es) (hf : fi = (I.ver s : Int)) :
    Calls Try.prog 36 #[.agg (stV (.slice a n c) (some mp) (some mk)), .agg (bt s k fi ea en ec)] w fun e w' => e = .returned (.int .i64 0) ∧ Below w.heap.size w w' := by
  have hsl : s.length ≤ 9223372036854775807 := hs
  have hkl : k.length ≤ 9223372036854775807 := hk
  have lmp := h.mpo.lt
  have lmk := h.mko.lt
  obtain ⟨w2, hw2⟩ : ∃ w2, w2 = (w.alloc (.cells (stV (.slice a n c) (some mp) (some mk)) 68)).alloc (.cells (bt s k fi ea en ec) 33) := ⟨_, rfl⟩
  have b2 : Below w.heap.size w w2 := by rw [hw2]; exact ((Below.refl _ _).alloc (Nat.le_refl _) _).alloc (by simp) _
  have z2 : w2.heap.size = w.heap.size + 2 := by rw [hw2]; simp
  have HS2 : w2.heap[w.heap.size]? = some (.cells (stV (.slice a n c) (some mp) (some mk)) 68 (0, 0)) := by rw [hw2, Below.heap_alloc _ _ _ (by simp)]; exact heap_alloc_self _ _
  have HB2 : BBox w2 (w.heap.size + 1) s k fi (.slice ea en ec) := by
    unfold BBox; rw [hw2, show w.heap.size + 1 = (w.alloc (.cells (stV (.slice a n c) (some mp) (some mk)) 68)).heap.size by simp]; exact heap_alloc_self _ _
  have hlk := h.lookK (W := w2) (b2.block mk lmk) k hkl
  have HKEY := hide hky
  rw [unhide HKEY] at hlk
  simp only [kdV, Option.isSome_none] at hlk
  obtain ⟨w3, hw3⟩ : ∃ w3, w3 = w2.alloc (.cells (kdA [] 0 0 0 false) 96) := ⟨_, rfl⟩
  have b3 : Below w2.heap.size w2 w3 := by rw [hw3]; exact (Below.refl _ _).alloc (Nat.le_refl _) _
  have B3 := hide (b2.trans (b3.mono b2.size))
  have z3 : w3.heap.size = w.heap.size + 3 := by rw [hw3]; simp [z2]
  have HS3 := (b3.block w.heap.size (by omega)).trans HS2
  have HB3 := HB2.same (b3.block (w.heap.size + 1) (by omega))
  obtain ⟨q0, q1, q2, q3, q4⟩ := HB2.cells
  obtain ⟨p0, p1, p2, p3, p4⟩ := HB3.cells
  have t3 : w2.cell? ⟨w.heap.size, 2, none⟩ = some (.map (some mk)) := (cell_of_row _ _ _ _ _ _ HS2).trans rfl
  have HI := hide h
  have HV := hide hv
  have HFI := hide hfit
  have HSS := hide HS3
  have HBB := hide HB3
  have Z3 := hide z3
  have NA := hide (namesAllowed_any s k)
  have HNA := hide (ans_true hn)
  have HEV := hide (ans_true hev)
  have hq2 : (fi != (I.ver s : Int)) = false := by rw [hf]; simp
  clear hev hf

  clear h b2 b3 z2 z3 HS2 HB2 HS3 HB3 hv hfit hs hk hky
  go_enter Try.func36, Try.ntmps36
  go_upto_region 1 with fail
  rw [← hw2]
  clear hw2
  go_upto_region 2 with fail
  rw [← hw3]
  clear hw3 hlk q0 q1 q2 q3 q4 t3
  go_wp2_with fail
  refine (unhide NA w3 hsl hkl).mono ?_
  rintro e w4 ⟨rfl, rfl⟩
  rw [unhide HNA]
  have CE := hide (eventsAllowed_any ea en ec es w3 ((unhide HV).below (unhide B3) (Nat.le_refl _)) (unhide HFI))
  go_wp2_with fail
  refine (unhide CE).mono ?_
  rintro e w5 ⟨rfl, b5⟩
  rw [unhide HEV]
  have B5 := hide ((unhide B3).trans (b5.mono (unhide B3).size))
  have HS5 := (b5.block w.heap.size (by have := unhide Z3; omega)).trans (unhide HSS)
  have HB5 := (unhide HBB).same (b5.block (w.heap.size + 1) (by have := unhide Z3; omega))
  have VC := hide (version_go (unhide HI) a n c ha s hsl w5.drew ((unhide B5).block mp lmp))
  obtain ⟨r0, r1, r2, r3, r4⟩ := HB5.cells
  have v0 : w5.cell? ⟨w.heap.size, 0, none⟩ = some (.slice a n c) := (cell_of_row _ _ _ _ _ _ HS5).trans rfl
  have v1 : w5.cell? ⟨w.heap.size, 1, none⟩ = some (.map (some mp)) := (cell_of_row _ _ _ _ _ _ HS5).trans rfl
  have v2 : w5.cell? ⟨w.heap.size, 2, none⟩ = some (.map (some mk)) := (cell_of_row _ _ _ _ _ _ HS5).trans rfl
  have S0 : Hid (w5.drew.cell? ⟨w.heap.size, 0, none⟩ = some (.slice a n c) ∧ w5.drew.cell? ⟨w.heap.size, 1, none⟩ = some (.map (some mp)) ∧ w5.drew.cell? ⟨w.heap.size, 2, none⟩ = some (.map (some mk)) ∧ w5.drew.cell? ⟨w.heap.size + 1, 0, none⟩ = some (sv s) ∧ w5.drew.cell? ⟨w.heap.size + 1, 2, none⟩ = some (.int .i64 fi)) := hide ⟨v0, v1, v2, r0, r2⟩
  have l5 : w.heap.size + 1 < w5.heap.size := by have := b5.size; have := unhide Z3; omega
  have NX : Hid (∀ w6, Below w5.drew.heap.size w5.drew w6 → (w6.cell? ⟨w.heap.size, 0, none⟩ = some (.slice a n c) ∧ w6.cell? ⟨w.heap.size, 1, none⟩ = some (.map (some mp)) ∧ w6.cell? ⟨w.heap.size, 2, none⟩ = some (.map (some mk)) ∧ w6.cell? ⟨w.heap.size + 1, 0, none⟩ = some (sv s) ∧ w6.cell? ⟨w.heap.size + 1, 2, none⟩ = some (.int .i64 fi))) := hide (fun w6 hb => ⟨(hb.cell (p := ⟨w.heap.size, 0, none⟩) (show w.heap.size < w5.heap.size by omega)).trans (unhide S0).1, (hb.cell (p := ⟨w.heap.size, 1, none⟩) (show w.heap.size < w5.heap.size by omega)).trans (unhide S0).2.1, (hb.cell (p := ⟨w.heap.size, 2, none⟩) (show w.heap.size < w5.heap.size by omega)).trans (unhide S0).2.2.1, (hb.cell (p := ⟨w.heap.size + 1, 0, none⟩) l5).trans (unhide S0).2.2.2.1, (hb.cell (p := ⟨w.heap.size + 1, 2, none⟩) l5).trans (unhide S0).2.2.2.2⟩)
  have BN : Hid (∀ w6, Below w5.drew.heap.size w5.drew w6 → Below w.heap.size w w6) := hide (fun w6 hb => (unhide B5).drew.trans (hb.mono (unhide B5).size))
  clear b5 CE HS5 HB5 p0 p1 p2 p3 p4
  go_upto_region 8 with fail
  clear v0 v1 v2 r0 r1 r2 r3 r4
  go_region_held3 (fun w' => w'.cell? ⟨w.heap.size, 0, none⟩ = some (.slice a n c) ∧ w'.cell? ⟨w.heap.size, 1, none⟩ = some (.map (some mp)) ∧ w'.cell? ⟨w.heap.size, 2, none⟩ = some (.map (some mk)) ∧ w'.cell? ⟨w.heap.size + 1, 0, none⟩ = some (sv s) ∧ w'.cell? ⟨w.heap.size + 1, 2, none⟩ = some (.int .i64 fi))
    (first | exact unhide S0 | exact unhide S2)
    ((go_at_call 47; refine (unhide VC).mono ?_; rintro e w6 ⟨rfl, b6⟩; have S2 := hide (unhide NX w6 b6); have B6 := hide (unhide BN w6 b6); clear b6))
  all_goals
    go_wp2
    go_ret
    exact ⟨rfl, unhide B6⟩

theorem check_go {w : World} {F : Nat → Prop} {st mp mk N : Nat} {I : Ix} {xs : List (Ent × Nat)} {av : Value} {pf : List UInt8 → Value} {D1 D2 : DataW Value} (h : IxIn w F st mp mk N I xs av pf D1 D2) (a : Option Addr) (n c : Nat) (ha : av = .slice a n c) (s : List UInt8) (hs : s.length ≤ maxLen) (fi : Int) (k : List UInt8) (hk : k.length ≤ maxLen) (ea : Option Addr) (en ec : Nat) (es : List Evn) (hv : EvL w (.slice ea en ec) es) (hfit : ∀ e ∈ es, fitE e) :
    Calls Try.prog 36 #[.agg (stV (.slice a n c) (some mp) (some mk)), .agg (bt s k fi ea en ec)] w fun e w' => e = .returned (.int .i64 (chkA I s k fi es)) ∧ Below w.heap.size w w' := by
  unfold chkA
  by_cases hn : okNames s k
  · rw [if_neg (fun h' => h' hn)]
    cases hky : I.key k with
    | none =>
      rw [if_neg (by simp)]
      by_cases hev : okEvs es
      · rw [if_neg (fun h' => h' hev)]
        by_cases hf : fi = (I.ver s : Int)
        · rw [if_neg (fun h' => h' hf)]
          exact chk_fine h a n c ha s hs fi k hk ea en ec es hv hfit hn hky hev hf
        · rw [if_pos hf]
          exact chk_ver h a n c ha s hs fi k hk ea en ec es hv hfit hn hky hev hf
      · rw [if_pos hev]
        exact chk_evs h a n c ha s hs fi k hk ea en ec es hv hfit hn hky hev
    | some d =>
      obtain ⟨ds, df, dp, dc⟩ := d
      rw [if_pos (by simp)]
      exact chk_key h a n c ha s hs fi k hk ea en ec es hv hfit hn ds df dp dc hky
  · rw [if_pos hn]
    cases hky : I.key k with
    | none => exact chk_names0 h a n c ha s hs fi k hk ea en ec es hv hfit hn hky
    | some d =>
      obtain ⟨ds, df, dp, dc⟩ := d
      exact chk_names1 h a n c ha s hs fi k hk ea en ec es hv hfit hn ds df dp dc hky
end Go.Proofs.Ytabcmmhmghgliaa
