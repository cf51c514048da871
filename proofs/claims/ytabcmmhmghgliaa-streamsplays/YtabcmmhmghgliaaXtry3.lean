/-
  DERIVED. The walks of the state's try, by cases.
-/
import Derived.Test.YtabcmmhmghgliaaXtry0
import Derived.Test.YtabcmmhmghgliaaXtry
namespace Go.Proofs.Ytabcmmhmghgliaa
open Go.RowKit Go.Maps
set_option linter.unusedVariables false

set_option maxRecDepth 20000 in
set_option maxHeartbeats 4000000 in
theorem try_evs {w : World} {F : Nat → Prop} {st mp mk N : Nat} {I : Ix} {xs : List (Ent × Nat)} {av : Value} {pf : List UInt8 → Value} {D1 D2 : DataW Value} (h : IxIn w F st mp mk N I xs av pf D1 D2) (a : Option Addr) (n c : Nat) (ha : av = .slice a n c) (s : List UInt8) (hs : s.length ≤ maxLen) (x : Int) (k : List UInt8) (hk : k.length ≤ maxLen) (ea : Option Addr) (en ec : Nat) (es : List Evn) (hv : EvL w (.slice ea en ec) es) (hfit : ∀ e ∈ es, fitE e) (hn : okNames s k) (hky : I.key k = none) (hev : ¬ okEvs es) :
    Calls Try.prog 34 #[.agg (stV (.slice a n c) (some mp) (some mk)), sv s, .int .i64 x, sv k, .slice ea en ec] w (TrPost (apV 0 0 0 false, 102) w) := by
  have hsl : s.length ≤ 9223372036854775807 := hs
  have hkl : k.length ≤ 9223372036854775807 := hk
  have lmp := h.mpo.lt
  have lmk := h.mko.lt
  obtain ⟨w1, hw1⟩ : ∃ w1, w1 = (w.alloc (.cells (stV (.slice a n c) (some mp) (some mk)) 68)).alloc (.cells (apV 0 0 0 false) 44) := ⟨_, rfl⟩
  have b1 : Below w.heap.size w w1 := by rw [hw1]; exact ((Below.refl _ _).alloc (Nat.le_refl _) _).alloc (by simp) _
  have z1 : w1.heap.size = w.heap.size + 2 := by rw [hw1]; simp
  have VC := hide (version_go h a n c ha s hs w1 (b1.block mp lmp))
  have HS1 : w1.heap[w.heap.size]? = some (.cells (stV (.slice a n c) (some mp) (some mk)) 68 (0, 0)) := by rw [hw1, Below.heap_alloc _ _ _ (by simp)]; exact heap_alloc_self _ _
  have HA1 : ABox w1 (w.heap.size + 1) 0 0 0 false := by
    unfold ABox; rw [hw1, show w.heap.size + 1 = (w.alloc (.cells (stV (.slice a n c) (some mp) (some mk)) 68)).heap.size by simp]; exact heap_alloc_self _ _
  have Z1 := hide z1
  have HI := hide h
  have hxl : n = xs.length := by obtain ⟨a', c', e⟩ := h.avs; rw [ha] at e; cases e; rfl
  have HXL : Hid ((n : Int) = I.all.length) := hide (by rw [hxl, ← h.all, List.length_map])
  have HEL : Hid ((en : Int) = es.length) := hide (by obtain ⟨_, _, e, _⟩ := hv; cases e; rfl)
  have B1 := hide b1
  have HV := hide hv
  have HFI := hide hfit
  have s1 : w1.cell? ⟨w.heap.size, 0, none⟩ = some (.slice a n c) := (cell_of_row _ _ _ _ _ _ HS1).trans rfl
  have s2 : w1.cell? ⟨w.heap.size, 1, none⟩ = some (.map (some mp)) := (cell_of_row _ _ _ _ _ _ HS1).trans rfl
  have s3 : w1.cell? ⟨w.heap.size, 2, none⟩ = some (.map (some mk)) := (cell_of_row _ _ _ _ _ _ HS1).trans rfl
  have HS := hide HS1
  have HA := hide HA1
  have NA := hide (namesAllowed_any s k)
  have HNA := hide (ans_true hn)
  have HKEY := hide hky
  have HEV := hide (ans_false hev)
  clear hev

  clear h b1 z1 HS1 HA1 hv hfit hxl hs hk
  go_enter Try.func34, Try.ntmps34
  go_upto_region 1 with fail
  rw [← hw1]
  clear hw1
  go_wp2_with fail
  refine (unhide VC).mono ?_
  rintro e w2 ⟨rfl, b2⟩
  have B2 := hide ((unhide B1).trans (b2.mono (by have := unhide Z1; omega)))
  have z2 : w.heap.size + 1 < w2.heap.size := by have := b2.size; have := unhide Z1; omega
  have HS2 := (b2.block w.heap.size (by have := unhide Z1; omega)).trans (unhide HS)
  have HA2 := (unhide HA).same (b2.block (w.heap.size + 1) (by have := unhide Z1; omega))
  obtain ⟨w3, hw3⟩ : ∃ w3, w3 = w2.alloc (.cells (kdA [] 0 0 0 false) 96) := ⟨_, rfl⟩
  have hlk := (unhide HI).lookK (W := w2) ((b2.block mk (by have := unhide Z1; omega)).trans ((unhide B1).block mk lmk)) k hkl
  rw [unhide HKEY] at hlk
  simp only [kdV, Option.isSome_none] at hlk
  have t1 : w2.cell? ⟨w.heap.size, 0, none⟩ = some (.slice a n c) := (cell_of_row _ _ _ _ _ _ HS2).trans rfl
  have t2 : w2.cell? ⟨w.heap.size, 1, none⟩ = some (.map (some mp)) := (cell_of_row _ _ _ _ _ _ HS2).trans rfl
  have t3 : w2.cell? ⟨w.heap.size, 2, none⟩ = some (.map (some mk)) := (cell_of_row _ _ _ _ _ _ HS2).trans rfl
  have b3 : Below w2.heap.size w2 w3 := by rw [hw3]; exact (Below.refl _ _).alloc (Nat.le_refl _) _
  have HA3 := HA2.same (b3.block _ z2)
  have HS3 := (b3.block w.heap.size (by omega)).trans HS2
  have HK3 : w3.heap[w2.heap.size]? = some (.cells (kdA [] 0 0 0 false) 96 (0, 0)) := by rw [hw3]; exact heap_alloc_self _ _
  have u1 : w3.cell? ⟨w.heap.size, 0, none⟩ = some (.slice a n c) := (cell_of_row _ _ _ _ _ _ HS3).trans rfl
  obtain ⟨a0, a1, a2, a3, a4⟩ := HA3.cells
  have B3 := hide ((unhide B2).trans (b3.mono (unhide B2).size))
  have z3 : w.heap.size + 1 < w3.heap.size := by have := b3.size; omega
  have HAA := hide HA3
  have HSS := hide HS3
  have HKK := hide HK3
  clear b2 b3 HS2 HA2 VC HS HA s1 s2 s3 HA3 HS3 HK3
  go_upto_region 3 with fail
  rw [← hw3]
  clear hw3 hlk t1 t2 t3
  obtain ⟨kb, hkb⟩ : ∃ kb, kb = w2.heap.size := ⟨_, rfl⟩
  rw [← hkb] at HKK ⊢
  have hkz : w.heap.size + 1 < kb := by omega
  clear hkb z2
  go_wp2_with fail
  refine (unhide NA w3 hsl hkl).mono ?_
  rintro e w4 ⟨rfl, rfl⟩
  rw [unhide HNA]
  have CE := hide (eventsAllowed_any ea en ec es w3 ((unhide HV).below (unhide B3) (Nat.le_refl _)) (unhide HFI))
  go_wp2_with fail
  refine (unhide CE).mono ?_
  rintro e w5 ⟨rfl, b5⟩
  rw [unhide HEV]
  have HA5 := (unhide HAA).same (b5.block _ z3)
  have HS5 := (b5.block w.heap.size (by omega)).trans (unhide HSS)
  have B5 := (unhide B3).trans (b5.mono (unhide B3).size)
  obtain ⟨e0, e1, e2, e3, e4⟩ := HA5.cells
  have u5 : w5.cell? ⟨w.heap.size, 0, none⟩ = some (.slice a n c) := (cell_of_row _ _ _ _ _ _ HS5).trans rfl
  have HE := hide (HA5.put 0 0 0 false)
  have BE := hide (below_put B5 (Nat.le_succ _) 0 0 0 false)
  clear HA5 B5 HS5 b5 CE a0 a1 a2 a3 a4 u1
  go_wp2
  exact bodyPost_ret (results_ct rfl _ _ (w.heap.size + 1) 44 (apV 0 0 0 false) (0, 0) _ (.int .i64 102) rfl rfl (unhide HE) Try.underlying44 rfl sizeApp) rfl ⟨rfl, unhide BE⟩

set_option maxRecDepth 20000 in
set_option maxHeartbeats 4000000 in
theorem try_arg {w : World} {F : Nat → Prop} {st mp mk N : Nat} {I : Ix} {xs : List (Ent × Nat)} {av : Value} {pf : List UInt8 → Value} {D1 D2 : DataW Value} (h : IxIn w F st mp mk N I xs av pf D1 D2) (a : Option Addr) (n c : Nat) (ha : av = .slice a n c) (s : List UInt8) (hs : s.length ≤ maxLen) (x : Int) (k : List UInt8) (hk : k.length ≤ maxLen) (ea : Option Addr) (en ec : Nat) (es : List Evn) (hv : EvL w (.slice ea en ec) es) (hfit : ∀ e ∈ es, fitE e) (hn : okNames s k) (hky : I.key k = none) (hev : okEvs es) (hx : x < -1) :
    Calls Try.prog 34 #[.agg (stV (.slice a n c) (some mp) (some mk)), sv s, .int .i64 x, sv k, .slice ea en ec] w (TrPost (apV 0 0 0 false, 1) w) := by
  have hsl : s.length ≤ 9223372036854775807 := hs
  have hkl : k.length ≤ 9223372036854775807 := hk
  have lmp := h.mpo.lt
  have lmk := h.mko.lt
  obtain ⟨w1, hw1⟩ : ∃ w1, w1 = (w.alloc (.cells (stV (.slice a n c) (some mp) (some mk)) 68)).alloc (.cells (apV 0 0 0 false) 44) := ⟨_, rfl⟩
  have b1 : Below w.heap.size w w1 := by rw [hw1]; exact ((Below.refl _ _).alloc (Nat.le_refl _) _).alloc (by simp) _
  have z1 : w1.heap.size = w.heap.size + 2 := by rw [hw1]; simp
  have VC := hide (version_go h a n c ha s hs w1 (b1.block mp lmp))
  have HS1 : w1.heap[w.heap.size]? = some (.cells (stV (.slice a n c) (some mp) (some mk)) 68 (0, 0)) := by rw [hw1, Below.heap_alloc _ _ _ (by simp)]; exact heap_alloc_self _ _
  have HA1 : ABox w1 (w.heap.size + 1) 0 0 0 false := by
    unfold ABox; rw [hw1, show w.heap.size + 1 = (w.alloc (.cells (stV (.slice a n c) (some mp) (some mk)) 68)).heap.size by simp]; exact heap_alloc_self _ _
  have Z1 := hide z1
  have HI := hide h
  have hxl : n = xs.length := by obtain ⟨a', c', e⟩ := h.avs; rw [ha] at e; cases e; rfl
  have HXL : Hid ((n : Int) = I.all.length) := hide (by rw [hxl, ← h.all, List.length_map])
  have HEL : Hid ((en : Int) = es.length) := hide (by obtain ⟨_, _, e, _⟩ := hv; cases e; rfl)
  have B1 := hide b1
  have HV := hide hv
  have HFI := hide hfit
  have s1 : w1.cell? ⟨w.heap.size, 0, none⟩ = some (.slice a n c) := (cell_of_row _ _ _ _ _ _ HS1).trans rfl
  have s2 : w1.cell? ⟨w.heap.size, 1, none⟩ = some (.map (some mp)) := (cell_of_row _ _ _ _ _ _ HS1).trans rfl
  have s3 : w1.cell? ⟨w.heap.size, 2, none⟩ = some (.map (some mk)) := (cell_of_row _ _ _ _ _ _ HS1).trans rfl
  have HS := hide HS1
  have HA := hide HA1
  have NA := hide (namesAllowed_any s k)
  have HNA := hide (ans_true hn)
  have HKEY := hide hky
  have HEV := hide (ans_true hev)
  clear hev

  clear h b1 z1 HS1 HA1 hv hfit hxl hs hk
  go_enter Try.func34, Try.ntmps34
  go_upto_region 1 with fail
  rw [← hw1]
  clear hw1
  go_wp2_with fail
  refine (unhide VC).mono ?_
  rintro e w2 ⟨rfl, b2⟩
  have B2 := hide ((unhide B1).trans (b2.mono (by have := unhide Z1; omega)))
  have z2 : w.heap.size + 1 < w2.heap.size := by have := b2.size; have := unhide Z1; omega
  have HS2 := (b2.block w.heap.size (by have := unhide Z1; omega)).trans (unhide HS)
  have HA2 := (unhide HA).same (b2.block (w.heap.size + 1) (by have := unhide Z1; omega))
  obtain ⟨w3, hw3⟩ : ∃ w3, w3 = w2.alloc (.cells (kdA [] 0 0 0 false) 96) := ⟨_, rfl⟩
  have hlk := (unhide HI).lookK (W := w2) ((b2.block mk (by have := unhide Z1; omega)).trans ((unhide B1).block mk lmk)) k hkl
  rw [unhide HKEY] at hlk
  simp only [kdV, Option.isSome_none] at hlk
  have t1 : w2.cell? ⟨w.heap.size, 0, none⟩ = some (.slice a n c) := (cell_of_row _ _ _ _ _ _ HS2).trans rfl
  have t2 : w2.cell? ⟨w.heap.size, 1, none⟩ = some (.map (some mp)) := (cell_of_row _ _ _ _ _ _ HS2).trans rfl
  have t3 : w2.cell? ⟨w.heap.size, 2, none⟩ = some (.map (some mk)) := (cell_of_row _ _ _ _ _ _ HS2).trans rfl
  have b3 : Below w2.heap.size w2 w3 := by rw [hw3]; exact (Below.refl _ _).alloc (Nat.le_refl _) _
  have HA3 := HA2.same (b3.block _ z2)
  have HS3 := (b3.block w.heap.size (by omega)).trans HS2
  have HK3 : w3.heap[w2.heap.size]? = some (.cells (kdA [] 0 0 0 false) 96 (0, 0)) := by rw [hw3]; exact heap_alloc_self _ _
  have u1 : w3.cell? ⟨w.heap.size, 0, none⟩ = some (.slice a n c) := (cell_of_row _ _ _ _ _ _ HS3).trans rfl
  obtain ⟨a0, a1, a2, a3, a4⟩ := HA3.cells
  have B3 := hide ((unhide B2).trans (b3.mono (unhide B2).size))
  have z3 : w.heap.size + 1 < w3.heap.size := by have := b3.size; omega
  have HAA := hide HA3
  have HSS := hide HS3
  have HKK := hide HK3
  clear b2 b3 HS2 HA2 VC HS HA s1 s2 s3 HA3 HS3 HK3
  go_upto_region 3 with fail
  rw [← hw3]
  clear hw3 hlk t1 t2 t3
  obtain ⟨kb, hkb⟩ : ∃ kb, kb = w2.heap.size := ⟨_, rfl⟩
  rw [← hkb] at HKK ⊢
  have hkz : w.heap.size + 1 < kb := by omega
  clear hkb z2
  go_wp2_with fail
  refine (unhide NA w3 hsl hkl).mono ?_
  rintro e w4 ⟨rfl, rfl⟩
  rw [unhide HNA]
  have CE := hide (eventsAllowed_any ea en ec es w3 ((unhide HV).below (unhide B3) (Nat.le_refl _)) (unhide HFI))
  go_wp2_with fail
  refine (unhide CE).mono ?_
  rintro e w5 ⟨rfl, b5⟩
  rw [unhide HEV]
  have HA5 := (unhide HAA).same (b5.block _ z3)
  have HS5 := (b5.block w.heap.size (by omega)).trans (unhide HSS)
  have B5 := (unhide B3).trans (b5.mono (unhide B3).size)
  obtain ⟨e0, e1, e2, e3, e4⟩ := HA5.cells
  have u5 : w5.cell? ⟨w.heap.size, 0, none⟩ = some (.slice a n c) := (cell_of_row _ _ _ _ _ _ HS5).trans rfl
  have HE := hide (HA5.put 0 0 0 false)
  have BE := hide (below_put B5 (Nat.le_succ _) 0 0 0 false)
  clear HA5 B5 HS5 b5 CE a0 a1 a2 a3 a4 u1
  go_wp2
  exact bodyPost_ret (results_ct rfl _ _ (w.heap.size + 1) 44 (apV 0 0 0 false) (0, 0) _ (.int .i64 1) rfl rfl (unhide HE) Try.underlying44 rfl sizeApp) rfl ⟨rfl, unhide BE⟩

end Go.Proofs.Ytabcmmhmghgliaa

namespace Go.Proofs.Ytabcmmhmghgliaa
open Go.RowKit Go.Maps
set_option linter.unusedVariables false

set_option maxRecDepth 20000 in
set_option maxHeartbeats 4000000 in
theorem try_ver {w : World} {F : Nat → Prop} {st mp mk N : Nat} {I : Ix} {xs : List (Ent × Nat)} {av : Value} {pf : List UInt8 → Value} {D1 D2 : DataW Value} (h : IxIn w F st mp mk N I xs av pf D1 D2) (a : Option Addr) (n c : Nat) (ha : av = .slice a n c) (s : List UInt8) (hs : s.length ≤ maxLen) (x : Int) (k : List UInt8) (hk : k.length ≤ maxLen) (ea : Option Addr) (en ec : Nat) (es : List Evn) (hv : EvL w (.slice ea en ec) es) (hfit : ∀ e ∈ es, fitE e) (hn : okNames s k) (hky : I.key k = none) (hev : okEvs es) (hx : ¬ x < -1) (hx1 : x ≠ -1) (hx2 : x ≠ (I.ver s : Int)) :
    Calls Try.prog 34 #[.agg (stV (.slice a n c) (some mp) (some mk)), sv s, .int .i64 x, sv k, .slice ea en ec] w (TrPost (apV 0 0 0 false, 103) w) := by
  have hsl : s.length ≤ 9223372036854775807 := hs
  have hkl : k.length ≤ 9223372036854775807 := hk
  have lmp := h.mpo.lt
  have lmk := h.mko.lt
  obtain ⟨w1, hw1⟩ : ∃ w1, w1 = (w.alloc (.cells (stV (.slice a n c) (some mp) (some mk)) 68)).alloc (.cells (apV 0 0 0 false) 44) := ⟨_, rfl⟩
  have b1 : Below w.heap.size w w1 := by rw [hw1]; exact ((Below.refl _ _).alloc (Nat.le_refl _) _).alloc (by simp) _
  have z1 : w1.heap.size = w.heap.size + 2 := by rw [hw1]; simp
  have VC := hide (version_go h a n c ha s hs w1 (b1.block mp lmp))
  have HS1 : w1.heap[w.heap.size]? = some (.cells (stV (.slice a n c) (some mp) (some mk)) 68 (0, 0)) := by rw [hw1, Below.heap_alloc _ _ _ (by simp)]; exact heap_alloc_self _ _
  have HA1 : ABox w1 (w.heap.size + 1) 0 0 0 false := by
    unfold ABox; rw [hw1, show w.heap.size + 1 = (w.alloc (.cells (stV (.slice a n c) (some mp) (some mk)) 68)).heap.size by simp]; exact heap_alloc_self _ _
  have Z1 := hide z1
  have HI := hide h
  have hxl : n = xs.length := by obtain ⟨a', c', e⟩ := h.avs; rw [ha] at e; cases e; rfl
  have HXL : Hid ((n : Int) = I.all.length) := hide (by rw [hxl, ← h.all, List.length_map])
  have HEL : Hid ((en : Int) = es.length) := hide (by obtain ⟨_, _, e, _⟩ := hv; cases e; rfl)
  have B1 := hide b1
  have HV := hide hv
  have HFI := hide hfit
  have s1 : w1.cell? ⟨w.heap.size, 0, none⟩ = some (.slice a n c) := (cell_of_row _ _ _ _ _ _ HS1).trans rfl
  have s2 : w1.cell? ⟨w.heap.size, 1, none⟩ = some (.map (some mp)) := (cell_of_row _ _ _ _ _ _ HS1).trans rfl
  have s3 : w1.cell? ⟨w.heap.size, 2, none⟩ = some (.map (some mk)) := (cell_of_row _ _ _ _ _ _ HS1).trans rfl
  have HS := hide HS1
  have HA := hide HA1
  have NA := hide (namesAllowed_any s k)
  have HNA := hide (ans_true hn)
  have HKEY := hide hky
  have HEV := hide (ans_true hev)
  have hq1 : (x != -1) = true := bne_iff_ne.2 hx1
  have hq2 : (x != (I.ver s : Int)) = true := bne_iff_ne.2 hx2
  clear hev hx1 hx2

  clear h b1 z1 HS1 HA1 hv hfit hxl hs hk
  go_enter Try.func34, Try.ntmps34
  go_upto_region 1 with fail
  rw [← hw1]
  clear hw1
  go_wp2_with fail
  refine (unhide VC).mono ?_
  rintro e w2 ⟨rfl, b2⟩
  have B2 := hide ((unhide B1).trans (b2.mono (by have := unhide Z1; omega)))
  have z2 : w.heap.size + 1 < w2.heap.size := by have := b2.size; have := unhide Z1; omega
  have HS2 := (b2.block w.heap.size (by have := unhide Z1; omega)).trans (unhide HS)
  have HA2 := (unhide HA).same (b2.block (w.heap.size + 1) (by have := unhide Z1; omega))
  obtain ⟨w3, hw3⟩ : ∃ w3, w3 = w2.alloc (.cells (kdA [] 0 0 0 false) 96) := ⟨_, rfl⟩
  have hlk := (unhide HI).lookK (W := w2) ((b2.block mk (by have := unhide Z1; omega)).trans ((unhide B1).block mk lmk)) k hkl
  rw [unhide HKEY] at hlk
  simp only [kdV, Option.isSome_none] at hlk
  have t1 : w2.cell? ⟨w.heap.size, 0, none⟩ = some (.slice a n c) := (cell_of_row _ _ _ _ _ _ HS2).trans rfl
  have t2 : w2.cell? ⟨w.heap.size, 1, none⟩ = some (.map (some mp)) := (cell_of_row _ _ _ _ _ _ HS2).trans rfl
  have t3 : w2.cell? ⟨w.heap.size, 2, none⟩ = some (.map (some mk)) := (cell_of_row _ _ _ _ _ _ HS2).trans rfl
  have b3 : Below w2.heap.size w2 w3 := by rw [hw3]; exact (Below.refl _ _).alloc (Nat.le_refl _) _
  have HA3 := HA2.same (b3.block _ z2)
  have HS3 := (b3.block w.heap.size (by omega)).trans HS2
  have HK3 : w3.heap[w2.heap.size]? = some (.cells (kdA [] 0 0 0 false) 96 (0, 0)) := by rw [hw3]; exact heap_alloc_self _ _
  have u1 : w3.cell? ⟨w.heap.size, 0, none⟩ = some (.slice a n c) := (cell_of_row _ _ _ _ _ _ HS3).trans rfl
  obtain ⟨a0, a1, a2, a3, a4⟩ := HA3.cells
  have B3 := hide ((unhide B2).trans (b3.mono (unhide B2).size))
  have z3 : w.heap.size + 1 < w3.heap.size := by have := b3.size; omega
  have HAA := hide HA3
  have HSS := hide HS3
  have HKK := hide HK3
  clear b2 b3 HS2 HA2 VC HS HA s1 s2 s3 HA3 HS3 HK3
  go_upto_region 3 with fail
  rw [← hw3]
  clear hw3 hlk t1 t2 t3
  obtain ⟨kb, hkb⟩ : ∃ kb, kb = w2.heap.size := ⟨_, rfl⟩
  rw [← hkb] at HKK ⊢
  have hkz : w.heap.size + 1 < kb := by omega
  clear hkb z2
  go_wp2_with fail
  refine (unhide NA w3 hsl hkl).mono ?_
  rintro e w4 ⟨rfl, rfl⟩
  rw [unhide HNA]
  have CE := hide (eventsAllowed_any ea en ec es w3 ((unhide HV).below (unhide B3) (Nat.le_refl _)) (unhide HFI))
  go_wp2_with fail
  refine (unhide CE).mono ?_
  rintro e w5 ⟨rfl, b5⟩
  rw [unhide HEV]
  have HA5 := (unhide HAA).same (b5.block _ z3)
  have HS5 := (b5.block w.heap.size (by omega)).trans (unhide HSS)
  have B5 := (unhide B3).trans (b5.mono (unhide B3).size)
  obtain ⟨e0, e1, e2, e3, e4⟩ := HA5.cells
  have u5 : w5.cell? ⟨w.heap.size, 0, none⟩ = some (.slice a n c) := (cell_of_row _ _ _ _ _ _ HS5).trans rfl
  have HE := hide (HA5.put 0 0 0 false)
  have BE := hide (below_put B5 (Nat.le_succ _) 0 0 0 false)
  clear HA5 B5 HS5 b5 CE a0 a1 a2 a3 a4 u1
  go_wp2
  exact bodyPost_ret (results_ct rfl _ _ (w.heap.size + 1) 44 (apV 0 0 0 false) (0, 0) _ (.int .i64 103) rfl rfl (unhide HE) Try.underlying44 rfl sizeApp) rfl ⟨rfl, unhide BE⟩

set_option maxRecDepth 20000 in
set_option maxHeartbeats 4000000 in
theorem try_any {w : World} {F : Nat → Prop} {st mp mk N : Nat} {I : Ix} {xs : List (Ent × Nat)} {av : Value} {pf : List UInt8 → Value} {D1 D2 : DataW Value} (h : IxIn w F st mp mk N I xs av pf D1 D2) (a : Option Addr) (n c : Nat) (ha : av = .slice a n c) (s : List UInt8) (hs : s.length ≤ maxLen) (x : Int) (k : List UInt8) (hk : k.length ≤ maxLen) (ea : Option Addr) (en ec : Nat) (es : List Evn) (hv : EvL w (.slice ea en ec) es) (hfit : ∀ e ∈ es, fitE e) (hn : okNames s k) (hky : I.key k = none) (hev : okEvs es) (hx : x = -1) :
    Calls Try.prog 34 #[.agg (stV (.slice a n c) (some mp) (some mk)), sv s, .int .i64 x, sv k, .slice ea en ec] w (TrPost (apV (I.ver s) I.all.length es.length false, 0) w) := by
  have hsl : s.length ≤ 9223372036854775807 := hs
  have hkl : k.length ≤ 9223372036854775807 := hk
  have lmp := h.mpo.lt
  have lmk := h.mko.lt
  obtain ⟨w1, hw1⟩ : ∃ w1, w1 = (w.alloc (.cells (stV (.slice a n c) (some mp) (some mk)) 68)).alloc (.cells (apV 0 0 0 false) 44) := ⟨_, rfl⟩
  have b1 : Below w.heap.size w w1 := by rw [hw1]; exact ((Below.refl _ _).alloc (Nat.le_refl _) _).alloc (by simp) _
  have z1 : w1.heap.size = w.heap.size + 2 := by rw [hw1]; simp
  have VC := hide (version_go h a n c ha s hs w1 (b1.block mp lmp))
  have HS1 : w1.heap[w.heap.size]? = some (.cells (stV (.slice a n c) (some mp) (some mk)) 68 (0, 0)) := by rw [hw1, Below.heap_alloc _ _ _ (by simp)]; exact heap_alloc_self _ _
  have HA1 : ABox w1 (w.heap.size + 1) 0 0 0 false := by
    unfold ABox; rw [hw1, show w.heap.size + 1 = (w.alloc (.cells (stV (.slice a n c) (some mp) (some mk)) 68)).heap.size by simp]; exact heap_alloc_self _ _
  have Z1 := hide z1
  have HI := hide h
  have hxl : n = xs.length := by obtain ⟨a', c', e⟩ := h.avs; rw [ha] at e; cases e; rfl
  have HXL : Hid ((n : Int) = I.all.length) := hide (by rw [hxl, ← h.all, List.length_map])
  have HEL : Hid ((en : Int) = es.length) := hide (by obtain ⟨_, _, e, _⟩ := hv; cases e; rfl)
  have B1 := hide b1
  have HV := hide hv
  have HFI := hide hfit
  have s1 : w1.cell? ⟨w.heap.size, 0, none⟩ = some (.slice a n c) := (cell_of_row _ _ _ _ _ _ HS1).trans rfl
  have s2 : w1.cell? ⟨w.heap.size, 1, none⟩ = some (.map (some mp)) := (cell_of_row _ _ _ _ _ _ HS1).trans rfl
  have s3 : w1.cell? ⟨w.heap.size, 2, none⟩ = some (.map (some mk)) := (cell_of_row _ _ _ _ _ _ HS1).trans rfl
  have HS := hide HS1
  have HA := hide HA1
  have NA := hide (namesAllowed_any s k)
  have HNA := hide (ans_true hn)
  have HKEY := hide hky
  have HEV := hide (ans_true hev)
  subst hx
  clear hev

  clear h b1 z1 HS1 HA1 hv hfit hxl hs hk
  go_enter Try.func34, Try.ntmps34
  go_upto_region 1 with fail
  rw [← hw1]
  clear hw1
  go_wp2_with fail
  refine (unhide VC).mono ?_
  rintro e w2 ⟨rfl, b2⟩
  have B2 := hide ((unhide B1).trans (b2.mono (by have := unhide Z1; omega)))
  have z2 : w.heap.size + 1 < w2.heap.size := by have := b2.size; have := unhide Z1; omega
  have HS2 := (b2.block w.heap.size (by have := unhide Z1; omega)).trans (unhide HS)
  have HA2 := (unhide HA).same (b2.block (w.heap.size + 1) (by have := unhide Z1; omega))
  obtain ⟨w3, hw3⟩ : ∃ w3, w3 = w2.alloc (.cells (kdA [] 0 0 0 false) 96) := ⟨_, rfl⟩
  have hlk := (unhide HI).lookK (W := w2) ((b2.block mk (by have := unhide Z1; omega)).trans ((unhide B1).block mk lmk)) k hkl
  rw [unhide HKEY] at hlk
  simp only [kdV, Option.isSome_none] at hlk
  have t1 : w2.cell? ⟨w.heap.size, 0, none⟩ = some (.slice a n c) := (cell_of_row _ _ _ _ _ _ HS2).trans rfl
  have t2 : w2.cell? ⟨w.heap.size, 1, none⟩ = some (.map (some mp)) := (cell_of_row _ _ _ _ _ _ HS2).trans rfl
  have t3 : w2.cell? ⟨w.heap.size, 2, none⟩ = some (.map (some mk)) := (cell_of_row _ _ _ _ _ _ HS2).trans rfl
  have b3 : Below w2.heap.size w2 w3 := by rw [hw3]; exact (Below.refl _ _).alloc (Nat.le_refl _) _
  have HA3 := HA2.same (b3.block _ z2)
  have HS3 := (b3.block w.heap.size (by omega)).trans HS2
  have HK3 : w3.heap[w2.heap.size]? = some (.cells (kdA [] 0 0 0 false) 96 (0, 0)) := by rw [hw3]; exact heap_alloc_self _ _
  have u1 : w3.cell? ⟨w.heap.size, 0, none⟩ = some (.slice a n c) := (cell_of_row _ _ _ _ _ _ HS3).trans rfl
  obtain ⟨a0, a1, a2, a3, a4⟩ := HA3.cells
  have B3 := hide ((unhide B2).trans (b3.mono (unhide B2).size))
  have z3 : w.heap.size + 1 < w3.heap.size := by have := b3.size; omega
  have HAA := hide HA3
  have HSS := hide HS3
  have HKK := hide HK3
  clear b2 b3 HS2 HA2 VC HS HA s1 s2 s3 HA3 HS3 HK3
  go_upto_region 3 with fail
  rw [← hw3]
  clear hw3 hlk t1 t2 t3
  obtain ⟨kb, hkb⟩ : ∃ kb, kb = w2.heap.size := ⟨_, rfl⟩
  rw [← hkb] at HKK ⊢
  have hkz : w.heap.size + 1 < kb := by omega
  clear hkb z2
  go_wp2_with fail
  refine (unhide NA w3 hsl hkl).mono ?_
  rintro e w4 ⟨rfl, rfl⟩
  rw [unhide HNA]
  have CE := hide (eventsAllowed_any ea en ec es w3 ((unhide HV).below (unhide B3) (Nat.le_refl _)) (unhide HFI))
  go_wp2_with fail
  refine (unhide CE).mono ?_
  rintro e w5 ⟨rfl, b5⟩
  rw [unhide HEV]
  have HA5 := (unhide HAA).same (b5.block _ z3)
  have HS5 := (b5.block w.heap.size (by omega)).trans (unhide HSS)
  have B5 := (unhide B3).trans (b5.mono (unhide B3).size)
  obtain ⟨e0, e1, e2, e3, e4⟩ := HA5.cells
  have u5 : w5.cell? ⟨w.heap.size, 0, none⟩ = some (.slice a n c) := (cell_of_row _ _ _ _ _ _ HS5).trans rfl
  have HE := hide (HA5.put (I.ver s) n en false)
  have BE := hide (below_put B5 (Nat.le_succ _) (I.ver s) n en false)
  clear HA5 B5 HS5 b5 CE a0 a1 a2 a3 a4 u1
  go_wp2
  exact bodyPost_ret (results_ct rfl _ _ (w.heap.size + 1) 44 (apV (I.ver s) n en false) (0, 0) _ (.int .i64 0) rfl rfl (unhide HE) Try.underlying44 rfl sizeApp) rfl (by rw [unhide HXL, unhide HEL] at *; exact ⟨rfl, unhide BE⟩)

set_option maxRecDepth 20000 in
set_option maxHeartbeats 4000000 in
theorem try_at {w : World} {F : Nat → Prop} {st mp mk N : Nat} {I : Ix} {xs : List (Ent × Nat)} {av : Value} {pf : List UInt8 → Value} {D1 D2 : DataW Value} (h : IxIn w F st mp mk N I xs av pf D1 D2) (a : Option Addr) (n c : Nat) (ha : av = .slice a n c) (s : List UInt8) (hs : s.length ≤ maxLen) (x : Int) (k : List UInt8) (hk : k.length ≤ maxLen) (ea : Option Addr) (en ec : Nat) (es : List Evn) (hv : EvL w (.slice ea en ec) es) (hfit : ∀ e ∈ es, fitE e) (hn : okNames s k) (hky : I.key k = none) (hev : okEvs es) (hx : x = (I.ver s : Int)) :
    Calls Try.prog 34 #[.agg (stV (.slice a n c) (some mp) (some mk)), sv s, .int .i64 x, sv k, .slice ea en ec] w (TrPost (apV (I.ver s) I.all.length es.length false, 0) w) := by
  have hsl : s.length ≤ 9223372036854775807 := hs
  have hkl : k.length ≤ 9223372036854775807 := hk
  have lmp := h.mpo.lt
  have lmk := h.mko.lt
  obtain ⟨w1, hw1⟩ : ∃ w1, w1 = (w.alloc (.cells (stV (.slice a n c) (some mp) (some mk)) 68)).alloc (.cells (apV 0 0 0 false) 44) := ⟨_, rfl⟩
  have b1 : Below w.heap.size w w1 := by rw [hw1]; exact ((Below.refl _ _).alloc (Nat.le_refl _) _).alloc (by simp) _
  have z1 : w1.heap.size = w.heap.size + 2 := by rw [hw1]; simp
  have VC := hide (version_go h a n c ha s hs w1 (b1.block mp lmp))
  have HS1 : w1.heap[w.heap.size]? = some (.cells (stV (.slice a n c) (some mp) (some mk)) 68 (0, 0)) := by rw [hw1, Below.heap_alloc _ _ _ (by simp)]; exact heap_alloc_self _ _
  have HA1 : ABox w1 (w.heap.size + 1) 0 0 0 false := by
    unfold ABox; rw [hw1, show w.heap.size + 1 = (w.alloc (.cells (stV (.slice a n c) (some mp) (some mk)) 68)).heap.size by simp]; exact heap_alloc_self _ _
  have Z1 := hide z1
  have HI := hide h
  have hxl : n = xs.length := by obtain ⟨a', c', e⟩ := h.avs; rw [ha] at e; cases e; rfl
  have HXL : Hid ((n : Int) = I.all.length) := hide (by rw [hxl, ← h.all, List.length_map])
  have HEL : Hid ((en : Int) = es.length) := hide (by obtain ⟨_, _, e, _⟩ := hv; cases e; rfl)
  have B1 := hide b1
  have HV := hide hv
  have HFI := hide hfit
  have s1 : w1.cell? ⟨w.heap.size, 0, none⟩ = some (.slice a n c) := (cell_of_row _ _ _ _ _ _ HS1).trans rfl
  have s2 : w1.cell? ⟨w.heap.size, 1, none⟩ = some (.map (some mp)) := (cell_of_row _ _ _ _ _ _ HS1).trans rfl
  have s3 : w1.cell? ⟨w.heap.size, 2, none⟩ = some (.map (some mk)) := (cell_of_row _ _ _ _ _ _ HS1).trans rfl
  have HS := hide HS1
  have HA := hide HA1
  have NA := hide (namesAllowed_any s k)
  have HNA := hide (ans_true hn)
  have HKEY := hide hky
  have HEV := hide (ans_true hev)
  have hx0 : ¬ x < -1 := by omega
  have hq1 : (x == -1) = false := beq_eq_false_iff_ne.2 (by omega)
  subst hx
  have hq3 : ((I.ver s : Int) != -1) = true := bne_iff_ne.2 (by omega)
  clear hev hq1

  clear h b1 z1 HS1 HA1 hv hfit hxl hs hk
  go_enter Try.func34, Try.ntmps34
  go_upto_region 1 with fail
  rw [← hw1]
  clear hw1
  go_wp2_with fail
  refine (unhide VC).mono ?_
  rintro e w2 ⟨rfl, b2⟩
  have B2 := hide ((unhide B1).trans (b2.mono (by have := unhide Z1; omega)))
  have z2 : w.heap.size + 1 < w2.heap.size := by have := b2.size; have := unhide Z1; omega
  have HS2 := (b2.block w.heap.size (by have := unhide Z1; omega)).trans (unhide HS)
  have HA2 := (unhide HA).same (b2.block (w.heap.size + 1) (by have := unhide Z1; omega))
  obtain ⟨w3, hw3⟩ : ∃ w3, w3 = w2.alloc (.cells (kdA [] 0 0 0 false) 96) := ⟨_, rfl⟩
  have hlk := (unhide HI).lookK (W := w2) ((b2.block mk (by have := unhide Z1; omega)).trans ((unhide B1).block mk lmk)) k hkl
  rw [unhide HKEY] at hlk
  simp only [kdV, Option.isSome_none] at hlk
  have t1 : w2.cell? ⟨w.heap.size, 0, none⟩ = some (.slice a n c) := (cell_of_row _ _ _ _ _ _ HS2).trans rfl
  have t2 : w2.cell? ⟨w.heap.size, 1, none⟩ = some (.map (some mp)) := (cell_of_row _ _ _ _ _ _ HS2).trans rfl
  have t3 : w2.cell? ⟨w.heap.size, 2, none⟩ = some (.map (some mk)) := (cell_of_row _ _ _ _ _ _ HS2).trans rfl
  have b3 : Below w2.heap.size w2 w3 := by rw [hw3]; exact (Below.refl _ _).alloc (Nat.le_refl _) _
  have HA3 := HA2.same (b3.block _ z2)
  have HS3 := (b3.block w.heap.size (by omega)).trans HS2
  have HK3 : w3.heap[w2.heap.size]? = some (.cells (kdA [] 0 0 0 false) 96 (0, 0)) := by rw [hw3]; exact heap_alloc_self _ _
  have u1 : w3.cell? ⟨w.heap.size, 0, none⟩ = some (.slice a n c) := (cell_of_row _ _ _ _ _ _ HS3).trans rfl
  obtain ⟨a0, a1, a2, a3, a4⟩ := HA3.cells
  have B3 := hide ((unhide B2).trans (b3.mono (unhide B2).size))
  have z3 : w.heap.size + 1 < w3.heap.size := by have := b3.size; omega
  have HAA := hide HA3
  have HSS := hide HS3
  have HKK := hide HK3
  clear b2 b3 HS2 HA2 VC HS HA s1 s2 s3 HA3 HS3 HK3
  go_upto_region 3 with fail
  rw [← hw3]
  clear hw3 hlk t1 t2 t3
  obtain ⟨kb, hkb⟩ : ∃ kb, kb = w2.heap.size := ⟨_, rfl⟩
  rw [← hkb] at HKK ⊢
  have hkz : w.heap.size + 1 < kb := by omega
  clear hkb z2
  go_wp2_with fail
  refine (unhide NA w3 hsl hkl).mono ?_
  rintro e w4 ⟨rfl, rfl⟩
  rw [unhide HNA]
  have CE := hide (eventsAllowed_any ea en ec es w3 ((unhide HV).below (unhide B3) (Nat.le_refl _)) (unhide HFI))
  go_wp2_with fail
  refine (unhide CE).mono ?_
  rintro e w5 ⟨rfl, b5⟩
  rw [unhide HEV]
  have HA5 := (unhide HAA).same (b5.block _ z3)
  have HS5 := (b5.block w.heap.size (by omega)).trans (unhide HSS)
  have B5 := (unhide B3).trans (b5.mono (unhide B3).size)
  obtain ⟨e0, e1, e2, e3, e4⟩ := HA5.cells
  have u5 : w5.cell? ⟨w.heap.size, 0, none⟩ = some (.slice a n c) := (cell_of_row _ _ _ _ _ _ HS5).trans rfl
  have HE := hide (HA5.put (I.ver s) n en false)
  have BE := hide (below_put B5 (Nat.le_succ _) (I.ver s) n en false)
  clear HA5 B5 HS5 b5 CE a0 a1 a2 a3 a4 u1
  go_wp2
  exact bodyPost_ret (results_ct rfl _ _ (w.heap.size + 1) 44 (apV (I.ver s) n en false) (0, 0) _ (.int .i64 0) rfl rfl (unhide HE) Try.underlying44 rfl sizeApp) rfl (by rw [unhide HXL, unhide HEL] at *; exact ⟨rfl, unhide BE⟩)

end Go.Proofs.Ytabcmmhmghgliaa

namespace Go.Proofs.Ytabcmmhmghgliaa
open Go.RowKit Go.Maps
set_option linter.unusedVariables false

theorem try_go {w : World} {F : Nat → Prop} {st mp mk N : Nat} {I : Ix} {xs : List (Ent × Nat)} {av : Value} {pf : List UInt8 → Value} {D1 D2 : DataW Value} (h : IxIn w F st mp mk N I xs av pf D1 D2) (a : Option Addr) (n c : Nat) (ha : av = .slice a n c) (s : List UInt8) (hs : s.length ≤ maxLen) (x : Int) (k : List UInt8) (hk : k.length ≤ maxLen) (ea : Option Addr) (en ec : Nat) (es : List Evn) (hv : EvL w (.slice ea en ec) es) (hfit : ∀ e ∈ es, fitE e) :
    Calls Try.prog 34 #[.agg (stV (.slice a n c) (some mp) (some mk)), sv s, .int .i64 x, sv k, .slice ea en ec] w (TrPost (tryA I s x k es) w) := by
  unfold tryA
  by_cases hn : okNames s k
  · rw [if_neg (fun h' => h' hn)]
    cases hky : I.key k with
    | none =>
      simp only []
      by_cases hev : okEvs es
      · rw [if_neg (fun h' => h' hev)]
        by_cases hx : x < -1
        · rw [if_pos hx]
          exact try_arg h a n c ha s hs x k hk ea en ec es hv hfit hn hky hev hx
        · rw [if_neg hx]
          by_cases hx1 : x = -1
          · rw [if_neg (fun h' => h'.1 hx1)]
            exact try_any h a n c ha s hs x k hk ea en ec es hv hfit hn hky hev hx1
          · by_cases hx2 : x = (I.ver s : Int)
            · rw [if_neg (fun h' => h'.2 hx2)]
              exact try_at h a n c ha s hs x k hk ea en ec es hv hfit hn hky hev hx2
            · rw [if_pos ⟨hx1, hx2⟩]
              exact try_ver h a n c ha s hs x k hk ea en ec es hv hfit hn hky hev hx hx1 hx2
      · rw [if_pos hev]
        exact try_evs h a n c ha s hs x k hk ea en ec es hv hfit hn hky hev
    | some d =>
      obtain ⟨ds, df, dp, dc⟩ := d
      simp only []
      by_cases hd : ds = s
      · rw [if_neg (fun h' => h' hd)]
        exact try_again h a n c ha s hs x k hk ea en ec es hv hfit hn ds df dp dc hky hd
      · rw [if_pos hd]
        exact try_key h a n c ha s hs x k hk ea en ec es hv hfit hn ds df dp dc hky hd
  · rw [if_pos hn]
    cases hky : I.key k with
    | none => exact try_names0 h a n c ha s hs x k hk ea en ec es hv hfit hn hky
    | some d =>
      obtain ⟨ds, df, dp, dc⟩ := d
      exact try_names1 h a n c ha s hs x k hk ea en ec es hv hfit hn ds df dp dc hky
end Go.Proofs.Ytabcmmhmghgliaa
