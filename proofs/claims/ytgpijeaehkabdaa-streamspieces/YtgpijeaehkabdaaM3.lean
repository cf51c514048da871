/-
  DERIVED. The walks of the state's try, by cases.
-/
import Derived.Test.YtgpijeaehkabdaaM1
import Derived.Test.YtgpijeaehkabdaaM2
import Derived.Test.YtgpijeaehkabdaaRows
import Derived.OpenShut
import Derived.ShutString
import Derived.SizedLaws
import Derived.Deep.Slices
import Derived.Deep.Lists
import Derived.Lib.SmallJoins
namespace Go.Proofs.Ytgpijeaehkabdaa
open Go.RowKit Go.Maps
set_option linter.unusedVariables false

set_option maxRecDepth 20000 in
set_option maxHeartbeats 4000000 in
theorem try_ver {w : World} {F : Nat → Prop} {st mp mk N : Nat} {I : Ix} {xs : List (Ent × Nat)} {av : Value} {pf : List UInt8 → Value} {D1 D2 : DataW Value} (h : IxIn w F st mp mk N I xs av pf D1 D2) (a : Option Addr) (n c : Nat) (ha : av = .slice a n c) (s : List UInt8) (hs : s.length ≤ maxLen) (x : Int) (k : List UInt8) (hk : k.length ≤ maxLen) (ea : Option Addr) (en ec : Nat) (es : List Evn) (hv : EvL w (.slice ea en ec) es) (hfit : ∀ e ∈ es, fitE e) (hn : okNames s k) (hky : I.key k = none) (hev : okEvs es) (hx : ¬ x < -1) (hx1 : x ≠ -1) (hx2 : x ≠ (I.ver s : Int)) :
    Calls Try.prog 24 #[.agg (stV (.slice a n c) (some mp) (some mk)), sv s, .int .i64 x, sv k, .slice ea en ec] w (TrPost (apV 0 0 0 false, 103) w) := by
  have hsl : s.length ≤ 9223372036854775807 := hs
  have hkl : k.length ≤ 9223372036854775807 := hk
  have lmp := h.mpo.lt
  have lmk := h.mko.lt
  obtain ⟨w1, hw1⟩ : ∃ w1, w1 = (w.alloc (.cells (stV (.slice a n c) (some mp) (some mk)) 68)).alloc (.cells (apV 0 0 0 false) 27) := ⟨_, rfl⟩
  have b1 : Below w.heap.size w w1 := by rw [hw1]; exact ((Below.refl _ _).alloc (Nat.le_refl _) _).alloc (by simp) _
  have z1 : w1.heap.size = w.heap.size + 2 := by rw [hw1]; simp
  have VC := hide (version_go h a n c ha s hs w1 (b1.block mp lmp))
  have HS1 : w1.heap[w.heap.size]? = some (.cells (stV (.slice a n c) (some mp) (some mk)) 68 (0, 0)) := by rw [hw1, Below.heap_alloc _ _ _ (by simp)]; exact heap_alloc_self _ _
  have HA1 : ABox w1 (w.heap.size + 1) 0 0 0 false := by
    unfold ABox; rw [hw1, show w.heap.size + 1 = (w.alloc (.cells (stV (.slice a n c) (some mp) (some mk)) 68)).heap.size by simp]; exact heap_alloc_self _ _
  have Z1 := hide z1
  have HI := hide h
  have hxl : n = xs.length := by obtain ⟨a', c', e⟩ := h.avs; rw [ha] at e; cases e; rfl
  have HXL : Hid ((n : Int) = I.all.length) := hide (by rw [hxl, ← h.all, List.length_map])
  have HEL : Hid ((en : Int) = es.length) := hide (by obtain ⟨_, _, e, _⟩ := hv; cases e; rfl)
  have B1 := hide b1
  have HV := hide hv
  have HFI := hide hfit
  have s1 : w1.cell? ⟨w.heap.size, 0, none⟩ = some (.slice a n c) := (cell_of_row _ _ _ _ _ _ HS1).trans rfl
  have s2 : w1.cell? ⟨w.heap.size, 1, none⟩ = some (.map (some mp)) := (cell_of_row _ _ _ _ _ _ HS1).trans rfl
  have s3 : w1.cell? ⟨w.heap.size, 2, none⟩ = some (.map (some mk)) := (cell_of_row _ _ _ _ _ _ HS1).trans rfl
  have HS := hide HS1
  have HA := hide HA1
  have NA := hide (namesAllowed_any s k)
  have HNA := hide (ans_true hn)
  have HKEY := hide hky
  have HEV := hide (ans_true hev)
  have hq1 : (x != -1) = true := bne_iff_ne.2 hx1
  have hq2 : (x != (I.ver s : Int)) = true := bne_iff_ne.2 hx2
  clear hev hx1 hx2

  clear h b1 z1 HS1 HA1 hv hfit hxl hs hk
  go_enter Try.func24, Try.ntmps24
  go_upto_region 1 with fail
  rw [← hw1]
  clear hw1
  go_wp2_with fail
  refine (unhide VC).mono ?_
  rintro e w2 ⟨rfl, b2⟩
  have B2 := hide ((unhide B1).trans (b2.mono (by have := unhide Z1; omega)))
  have z2 : w.heap.size + 1 < w2.heap.size := by have := b2.size; have := unhide Z1; omega
  have HS2 := (b2.block w.heap.size (by have := unhide Z1; omega)).trans (unhide HS)
  have HA2 := (unhide HA).same (b2.block (w.heap.size + 1) (by have := unhide Z1; omega))
  obtain ⟨w3, hw3⟩ : ∃ w3, w3 = w2.alloc (.cells (kdA [] 0 0 0 false) 84) := ⟨_, rfl⟩
  have hlk := (unhide HI).lookK (W := w2) ((b2.block mk (by have := unhide Z1; omega)).trans ((unhide B1).block mk lmk)) k hkl
  rw [unhide HKEY] at hlk
  simp only [kdV, Option.isSome_none] at hlk
  have t1 : w2.cell? ⟨w.heap.size, 0, none⟩ = some (.slice a n c) := (cell_of_row _ _ _ _ _ _ HS2).trans rfl
  have t2 : w2.cell? ⟨w.heap.size, 1, none⟩ = some (.map (some mp)) := (cell_of_row _ _ _ _ _ _ HS2).trans rfl
  have t3 : w2.cell? ⟨w.heap.size, 2, none⟩ = some (.map (some mk)) := (cell_of_row _ _ _ _ _ _ HS2).trans rfl
  have b3 : Below w2.heap.size w2 w3 := by rw [hw3]; exact (Below.refl _ _).alloc (Nat.le_refl _) _
  have HA3 := HA2.same (b3.block _ z2)
  have HS3 := (b3.block w.heap.size (by omega)).trans HS2
  have HK3 : w3.heap[w2.heap.size]? = some (.cells (kdA [] 0 0 0 false) 84 (0, 0)) := by rw [hw3]; exact heap_alloc_self _ _
  have u1 : w3.cell? ⟨w.heap.size, 0, none⟩ = some (.slice a n c) := (cell_of_row _ _ _ _ _ _ HS3).trans rfl
  obtain ⟨a0, a1, a2, a3, a4⟩ := HA3.cells
  have B3 := hide ((unhide B2).trans (b3.mono (unhide B2).size))
  have z3 : w.heap.size + 1 < w3.heap.size := by have := b3.size; omega
  have HAA := hide HA3
  have HSS := hide HS3
  have HKK := hide HK3
  clear b2 b3 HS2 HA2 VC HS HA s1 s2 s3 HA3 HS3 HK3
  go_upto_region 3 with fail
  rw [← hw3]
  clear hw3 hlk t1 t2 t3
  obtain ⟨kb, hkb⟩ : ∃ kb, kb = w2.heap.size := ⟨_, rfl⟩
  rw [← hkb] at HKK ⊢
  have hkz : w.heap.size + 1 < kb := by omega
  clear hkb z2
  go_wp2_with fail
  refine (unhide NA w3 hsl hkl).mono ?_
  rintro e w4 ⟨rfl, rfl⟩
  rw [unhide HNA]
  have CE := hide (eventsAllowed_any ea en ec es w3 ((unhide HV).below (unhide B3) (Nat.le_refl _)) (unhide HFI))
  go_wp2_with fail
  refine (unhide CE).mono ?_
  rintro e w5 ⟨rfl, b5⟩
  rw [unhide HEV]
  have HA5 := (unhide HAA).same (b5.block _ z3)
  have HS5 := (b5.block w.heap.size (by omega)).trans (unhide HSS)
  have B5 := (unhide B3).trans (b5.mono (unhide B3).size)
  obtain ⟨e0, e1, e2, e3, e4⟩ := HA5.cells
  have u5 : w5.cell? ⟨w.heap.size, 0, none⟩ = some (.slice a n c) := (cell_of_row _ _ _ _ _ _ HS5).trans rfl
  have HE := hide (HA5.put 0 0 0 false)
  have BE := hide (below_put B5 (Nat.le_succ _) 0 0 0 false)
  clear HA5 B5 HS5 b5 CE a0 a1 a2 a3 a4 u1
  go_wp2
  exact bodyPost_ret (results_ct rfl _ _ (w.heap.size + 1) 27 (apV 0 0 0 false) (0, 0) _ (.int .i64 103) rfl rfl (unhide HE) Try.underlying27 rfl sizeApp) rfl ⟨rfl, unhide BE⟩

set_option maxRecDepth 20000 in
set_option maxHeartbeats 4000000 in
theorem try_any {w : World} {F : Nat → Prop} {st mp mk N : Nat} {I : Ix} {xs : List (Ent × Nat)} {av : Value} {pf : List UInt8 → Value} {D1 D2 : DataW Value} (h : IxIn w F st mp mk N I xs av pf D1 D2) (a : Option Addr) (n c : Nat) (ha : av = .slice a n c) (s : List UInt8) (hs : s.length ≤ maxLen) (x : Int) (k : List UInt8) (hk : k.length ≤ maxLen) (ea : Option Addr) (en ec : Nat) (es : List Evn) (hv : EvL w (.slice ea en ec) es) (hfit : ∀ e ∈ es, fitE e) (hn : okNames s k) (hky : I.key k = none) (hev : okEvs es) (hx : x = -1) :
    Calls Try.prog 24 #[.agg (stV (.slice a n c) (some mp) (some mk)), sv s, .int .i64 x, sv k, .slice ea en ec] w (TrPost (apV (I.ver s) I.all.length es.length false, 0) w) := by
  have hsl : s.length ≤ 9223372036854775807 := hs
  have hkl : k.length ≤ 9223372036854775807 := hk
  have lmp := h.mpo.lt
  have lmk := h.mko.lt
  obtain ⟨w1, hw1⟩ : ∃ w1, w1 = (w.alloc (.cells (stV (.slice a n c) (some mp) (some mk)) 68)).alloc (.cells (apV 0 0 0 false) 27) := ⟨_, rfl⟩
  have b1 : Below w.heap.size w w1 := by rw [hw1]; exact ((Below.refl _ _).alloc (Nat.le_refl _) _).alloc (by simp) _
  have z1 : w1.heap.size = w.heap.size + 2 := by rw [hw1]; simp
  have VC := hide (version_go h a n c ha s hs w1 (b1.block mp lmp))
  have HS1 : w1.heap[w.heap.size]? = some (.cells (stV (.slice a n c) (some mp) (some mk)) 68 (0, 0)) := by rw [hw1, Below.heap_alloc _ _ _ (by simp)]; exact heap_alloc_self _ _
  have HA1 : ABox w1 (w.heap.size + 1) 0 0 0 false := by
    unfold ABox; rw [hw1, show w.heap.size + 1 = (w.alloc (.cells (stV (.slice a n c) (some mp) (some mk)) 68)).heap.size by simp]; exact heap_alloc_self _ _
  have Z1 := hide z1
  have HI := hide h
  have hxl : n = xs.length := by obtain ⟨a', c', e⟩ := h.avs; rw [ha] at e; cases e; rfl
  have HXL : Hid ((n : Int) = I.all.length) := hide (by rw [hxl, ← h.all, List.length_map])
  have HEL : Hid ((en : Int) = es.length) := hide (by obtain ⟨_, _, e, _⟩ := hv; cases e; rfl)
  have B1 := hide b1
  have HV := hide hv
  have HFI := hide hfit
  have s1 : w1.cell? ⟨w.heap.size, 0, none⟩ = some (.slice a n c) := (cell_of_row _ _ _ _ _ _ HS1).trans rfl
  have s2 : w1.cell? ⟨w.heap.size, 1, none⟩ = some (.map (some mp)) := (cell_of_row _ _ _ _ _ _ HS1).trans rfl
  have s3 : w1.cell? ⟨w.heap.size, 2, none⟩ = some (.map (some mk)) := (cell_of_row _ _ _ _ _ _ HS1).trans rfl
  have HS := hide HS1
  have HA := hide HA1
  have NA := hide (namesAllowed_any s k)
  have HNA := hide (ans_true hn)
  have HKEY := hide hky
  have HEV := hide (ans_true hev)
  subst hx
  clear hev

  clear h b1 z1 HS1 HA1 hv hfit hxl hs hk
  go_enter Try.func24, Try.ntmps24
  go_upto_region 1 with fail
  rw [← hw1]
  clear hw1
  go_wp2_with fail
  refine (unhide VC).mono ?_
  rintro e w2 ⟨rfl, b2⟩
  have B2 := hide ((unhide B1).trans (b2.mono (by have := unhide Z1; omega)))
  have z2 : w.heap.size + 1 < w2.heap.size := by have := b2.size; have := unhide Z1; omega
  have HS2 := (b2.block w.heap.size (by have := unhide Z1; omega)).trans (unhide HS)
  have HA2 := (unhide HA).same (b2.block (w.heap.size + 1) (by have := unhide Z1; omega))
  obtain ⟨w3, hw3⟩ : ∃ w3, w3 = w2.alloc (.cells (kdA [] 0 0 0 false) 84) := ⟨_, rfl⟩
  have hlk := (unhide HI).lookK (W := w2) ((b2.block mk (by have := unhide Z1; omega)).trans ((unhide B1).block mk lmk)) k hkl
  rw [unhide HKEY] at hlk
  simp only [kdV, Option.isSome_none] at hlk
  have t1 : w2.cell? ⟨w.heap.size, 0, none⟩ = some (.slice a n c) := (cell_of_row _ _ _ _ _ _ HS2).trans rfl
  have t2 : w2.cell? ⟨w.heap.size, 1, none⟩ = some (.map (some mp)) := (cell_of_row _ _ _ _ _ _ HS2).trans rfl
  have t3 : w2.cell? ⟨w.heap.size, 2, none⟩ = some (.map (some mk)) := (cell_of_row _ _ _ _ _ _ HS2).trans rfl
  have b3 : Below w2.heap.size w2 w3 := by rw [hw3]; exact (Below.refl _ _).alloc (Nat.le_refl _) _
  have HA3 := HA2.same (b3.block _ z2)
  have HS3 := (b3.block w.heap.size (by omega)).trans HS2
  have HK3 : w3.heap[w2.heap.size]? = some (.cells (kdA [] 0 0 0 false) 84 (0, 0)) := by rw [hw3]; exact heap_alloc_self _ _
  have u1 : w3.cell? ⟨w.heap.size, 0, none⟩ = some (.slice a n c) := (cell_of_row _ _ _ _ _ _ HS3).trans rfl
  obtain ⟨a0, a1, a2, a3, a4⟩ := HA3.cells
  have B3 := hide ((unhide B2).trans (b3.mono (unhide B2).size))
  have z3 : w.heap.size + 1 < w3.heap.size := by have := b3.size; omega
  have HAA := hide HA3
  have HSS := hide HS3
  have HKK := hide HK3
  clear b2 b3 HS2 HA2 VC HS HA s1 s2 s3 HA3 HS3 HK3
  go_upto_region 3 with fail
  rw [← hw3]
  clear hw3 hlk t1 t2 t3
  obtain ⟨kb, hkb⟩ : ∃ kb, kb = w2.heap.size := ⟨_, rfl⟩
  rw [← hkb] at HKK ⊢
  have hkz : w.heap.size + 1 < kb := by omega
  clear hkb z2
  go_wp2_with fail
  refine (unhide NA w3 hsl hkl).mono ?_
  rintro e w4 ⟨rfl, rfl⟩
  rw [unhide HNA]
  have CE := hide (eventsAllowed_any ea en ec es w3 ((unhide HV).below (unhide B3) (Nat.le_refl _)) (unhide HFI))
  go_wp2_with fail
  refine (unhide CE).mono ?_
  rintro e w5 ⟨rfl, b5⟩
  rw [unhide HEV]
  have HA5 := (unhide HAA).same (b5.block _ z3)
  have HS5 := (b5.block w.heap.size (by omega)).trans (unhide HSS)
  have B5 := (unhide B3).trans (b5.mono (unhide B3).size)
  obtain ⟨e0, e1, e2, e3, e4⟩ := HA5.cells
  have u5 : w5.cell? ⟨w.heap.size, 0, none⟩ = some (.slice a n c) := (cell_of_row _ _ _ _ _ _ HS5).trans rfl
  have HE := hide (HA5.put (I.ver s) n en false)
  have BE := hide (below_put B5 (Nat.le_succ _) (I.ver s) n en false)
  clear HA5 B5 HS5 b5 CE a0 a1 a2 a3 a4 u1
  go_wp2
  exact bodyPost_ret (results_ct rfl _ _ (w.heap.size + 1) 27 (apV (I.ver s) n en false) (0, 0) _ (.int .i64 0) rfl rfl (unhide HE) Try.underlying27 rfl sizeApp) rfl (by rw [unhide HXL, unhide HEL] at *; exact ⟨rfl, unhide BE⟩)

set_option maxRecDepth 20000 in
set_option maxHeartbeats 4000000 in
theorem try_at {w : World} {F : Nat → Prop} {st mp mk N : Nat} {I : Ix} {xs : List (Ent × Nat)} {av : Value} {pf : List UInt8 → Value} {D1 D2 : DataW Value} (h : IxIn w F st mp mk N I xs av pf D1 D2) (a : Option Addr) (n c : Nat) (ha : av = .slice a n c) (s : List UInt8) (hs : s.length ≤ maxLen) (x : Int) (k : List UInt8) (hk : k.length ≤ maxLen) (ea : Option Addr) (en ec : Nat) (es : List Evn) (hv : EvL w (.slice ea en ec) es) (hfit : ∀ e ∈ es, fitE e) (hn : okNames s k) (hky : I.key k = none) (hev : okEvs es) (hx : x = (I.ver s : Int)) :
    Calls Try.prog 24 #[.agg (stV (.slice a n c) (some mp) (some mk)), sv s, .int .i64 x, sv k, .slice ea en ec] w (TrPost (apV (I.ver s) I.all.length es.length false, 0) w) := by
  have hsl : s.length ≤ 9223372036854775807 := hs
  have hkl : k.length ≤ 9223372036854775807 := hk
  have lmp := h.mpo.lt
  have lmk := h.mko.lt
  obtain ⟨w1, hw1⟩ : ∃ w1, w1 = (w.alloc (.cells (stV (.slice a n c) (some mp) (some mk)) 68)).alloc (.cells (apV 0 0 0 false) 27) := ⟨_, rfl⟩
  have b1 : Below w.heap.size w w1 := by rw [hw1]; exact ((Below.refl _ _).alloc (Nat.le_refl _) _).alloc (by simp) _
  have z1 : w1.heap.size = w.heap.size + 2 := by rw [hw1]; simp
  have VC := hide (version_go h a n c ha s hs w1 (b1.block mp lmp))
  have HS1 : w1.heap[w.heap.size]? = some (.cells (stV (.slice a n c) (some mp) (some mk)) 68 (0, 0)) := by rw [hw1, Below.heap_alloc _ _ _ (by simp)]; exact heap_alloc_self _ _
  have HA1 : ABox w1 (w.heap.size + 1) 0 0 0 false := by
    unfold ABox; rw [hw1, show w.heap.size + 1 = (w.alloc (.cells (stV (.slice a n c) (some mp) (some mk)) 68)).heap.size by simp]; exact heap_alloc_self _ _
  have Z1 := hide z1
  have HI := hide h
  have hxl : n = xs.length := by obtain ⟨a', c', e⟩ := h.avs; rw [ha] at e; cases e; rfl
  have HXL : Hid ((n : Int) = I.all.length) := hide (by rw [hxl, ← h.all, List.length_map])
  have HEL : Hid ((en : Int) = es.length) := hide (by obtain ⟨_, _, e, _⟩ := hv; cases e; rfl)
  have B1 := hide b1
  have HV := hide hv
  have HFI := hide hfit
  have s1 : w1.cell? ⟨w.heap.size, 0, none⟩ = some (.slice a n c) := (cell_of_row _ _ _ _ _ _ HS1).trans rfl
  have s2 : w1.cell? ⟨w.heap.size, 1, none⟩ = some (.map (some mp)) := (cell_of_row _ _ _ _ _ _ HS1).trans rfl
  have s3 : w1.cell? ⟨w.heap.size, 2, none⟩ = some (.map (some mk)) := (cell_of_row _ _ _ _ _ _ HS1).trans rfl
  have HS := hide HS1
  have HA := hide HA1
  have NA := hide (namesAllowed_any s k)
  have HNA := hide (ans_true hn)
  have HKEY := hide hky
  have HEV := hide (ans_true hev)
  have hx0 : ¬ x < -1 := by omega
  have hq1 : (x == -1) = false := beq_eq_false_iff_ne.2 (by omega)
  subst hx
  have hq3 : ((I.ver s : Int) != -1) = true := bne_iff_ne.2 (by omega)
  clear hev hq1

  clear h b1 z1 HS1 HA1 hv hfit hxl hs hk
  go_enter Try.func24, Try.ntmps24
  go_upto_region 1 with fail
  rw [← hw1]
  clear hw1
  go_wp2_with fail
  refine (unhide VC).mono ?_
  rintro e w2 ⟨rfl, b2⟩
  have B2 := hide ((unhide B1).trans (b2.mono (by have := unhide Z1; omega)))
  have z2 : w.heap.size + 1 < w2.heap.size := by have := b2.size; have := unhide Z1; omega
  have HS2 := (b2.block w.heap.size (by have := unhide Z1; omega)).trans (unhide HS)
  have HA2 := (unhide HA).same (b2.block (w.heap.size + 1) (by have := unhide Z1; omega))
  obtain ⟨w3, hw3⟩ : ∃ w3, w3 = w2.alloc (.cells (kdA [] 0 0 0 false) 84) := ⟨_, rfl⟩
  have hlk := (unhide HI).lookK (W := w2) ((b2.block mk (by have := unhide Z1; omega)).trans ((unhide B1).block mk lmk)) k hkl
  rw [unhide HKEY] at hlk
  simp only [kdV, Option.isSome_none] at hlk
  have t1 : w2.cell? ⟨w.heap.size, 0, none⟩ = some (.slice a n c) := (cell_of_row _ _ _ _ _ _ HS2).trans rfl
  have t2 : w2.cell? ⟨w.heap.size, 1, none⟩ = some (.map (some mp)) := (cell_of_row _ _ _ _ _ _ HS2).trans rfl
  have t3 : w2.cell? ⟨w.heap.size, 2, none⟩ = some (.map (some mk)) := (cell_of_row _ _ _ _ _ _ HS2).trans rfl
  have b3 : Below w2.heap.size w2 w3 := by rw [hw3]; exact (Below.refl _ _).alloc (Nat.le_refl _) _
  have HA3 := HA2.same (b3.block _ z2)
  have HS3 := (b3.block w.heap.size (by omega)).trans HS2
  have HK3 : w3.heap[w2.heap.size]? = some (.cells (kdA [] 0 0 0 false) 84 (0, 0)) := by rw [hw3]; exact heap_alloc_self _ _
  have u1 : w3.cell? ⟨w.heap.size, 0, none⟩ = some (.slice a n c) := (cell_of_row _ _ _ _ _ _ HS3).trans rfl
  obtain ⟨a0, a1, a2, a3, a4⟩ := HA3.cells
  have B3 := hide ((unhide B2).trans (b3.mono (unhide B2).size))
  have z3 : w.heap.size + 1 < w3.heap.size := by have := b3.size; omega
  have HAA := hide HA3
  have HSS := hide HS3
  have HKK := hide HK3
  clear b2 b3 HS2 HA2 VC HS HA s1 s2 s3 HA3 HS3 HK3
  go_upto_region 3 with fail
  rw [← hw3]
  clear hw3 hlk t1 t2 t3
  obtain ⟨kb, hkb⟩ : ∃ kb, kb = w2.heap.size := ⟨_, rfl⟩
  rw [← hkb] at HKK ⊢
  have hkz : w.heap.size + 1 < kb := by omega
  clear hkb z2
  go_wp2_with fail
  refine (unhide NA w3 hsl hkl).mono ?_
  rintro e w4 ⟨rfl, rfl⟩
  rw [unhide HNA]
  have CE := hide (eventsAllowed_any ea en ec es w3 ((unhide HV).below (unhide B3) (Nat.le_refl _)) (unhide HFI))
  go_wp2_with fail
  refine (unhide CE).mono ?_
  rintro e w5 ⟨rfl, b5⟩
  rw [unhide HEV]
  have HA5 := (unhide HAA).same (b5.block _ z3)
  have HS5 := (b5.block w.heap.size (by omega)).trans (unhide HSS)
  have B5 := (unhide B3).trans (b5.mono (unhide B3).size)
  obtain ⟨e0, e1, e2, e3, e4⟩ := HA5.cells
  have u5 : w5.cell? ⟨w.heap.size, 0, none⟩ = some (.slice a n c) := (cell_of_row _ _ _ _ _ _ HS5).trans rfl
  have HE := hide (HA5.put (I.ver s) n en false)
  have BE := hide (below_put B5 (Nat.le_succ _) (I.ver s) n en false)
  clear HA5 B5 HS5 b5 CE a0 a1 a2 a3 a4 u1
  go_wp2
  exact bodyPost_ret (results_ct rfl _ _ (w.heap.size + 1) 27 (apV (I.ver s) n en false) (0, 0) _ (.int .i64 0) rfl rfl (unhide HE) Try.underlying27 rfl sizeApp) rfl (by rw [unhide HXL, unhide HEL] at *; exact ⟨rfl, unhide BE⟩)

end Go.Proofs.Ytgpijeaehkabdaa

/-
  DERIVED. The state's try, all cases.
-/
namespace Go.Proofs.Ytgpijeaehkabdaa
open Go.RowKit Go.Maps
set_option linter.unusedVariables false

theorem try_go {w : World} {F : Nat → Prop} {st mp mk N : Nat} {I : Ix} {xs : List (Ent × Nat)} {av : Value} {pf : List UInt8 → Value} {D1 D2 : DataW Value} (h : IxIn w F st mp mk N I xs av pf D1 D2) (a : Option Addr) (n c : Nat) (ha : av = .slice a n c) (s : List UInt8) (hs : s.length ≤ maxLen) (x : Int) (k : List UInt8) (hk : k.length ≤ maxLen) (ea : Option Addr) (en ec : Nat) (es : List Evn) (hv : EvL w (.slice ea en ec) es) (hfit : ∀ e ∈ es, fitE e) :
    Calls Try.prog 24 #[.agg (stV (.slice a n c) (some mp) (some mk)), sv s, .int .i64 x, sv k, .slice ea en ec] w (TrPost (tryA I s x k es) w) := by
  unfold tryA
  by_cases hn : okNames s k
  · rw [if_neg (fun h' => h' hn)]
    cases hky : I.key k with
    | none =>
      simp only []
      by_cases hev : okEvs es
      · rw [if_neg (fun h' => h' hev)]
        by_cases hx : x < -1
        · rw [if_pos hx]
          exact try_arg h a n c ha s hs x k hk ea en ec es hv hfit hn hky hev hx
        · rw [if_neg hx]
          by_cases hx1 : x = -1
          · rw [if_neg (fun h' => h'.1 hx1)]
            exact try_any h a n c ha s hs x k hk ea en ec es hv hfit hn hky hev hx1
          · by_cases hx2 : x = (I.ver s : Int)
            · rw [if_neg (fun h' => h'.2 hx2)]
              exact try_at h a n c ha s hs x k hk ea en ec es hv hfit hn hky hev hx2
            · rw [if_pos ⟨hx1, hx2⟩]
              exact try_ver h a n c ha s hs x k hk ea en ec es hv hfit hn hky hev hx hx1 hx2
      · rw [if_pos hev]
        exact try_evs h a n c ha s hs x k hk ea en ec es hv hfit hn hky hev
    | some d =>
      obtain ⟨ds, df, dp, dc⟩ := d
      simp only []
      by_cases hd : ds = s
      · rw [if_neg (fun h' => h' hd)]
        exact try_again h a n c ha s hs x k hk ea en ec es hv hfit hn ds df dp dc hky hd
      · rw [if_pos hd]
        exact try_key h a n c ha s hs x k hk ea en ec es hv hfit hn ds df dp dc hky hd
  · rw [if_pos hn]
    cases hky : I.key k with
    | none => exact try_names0 h a n c ha s hs x k hk ea en ec es hv hfit hn hky
    | some d =>
      obtain ⟨ds, df, dp, dc⟩ := d
      exact try_names1 h a n c ha s hs x k hk ea en ec es hv hfit hn ds df dp dc hky
end Go.Proofs.Ytgpijeaehkabdaa

/-
  DERIVED. What is told where there is no index (R1).
-/
namespace Go.Proofs.Ytgpijeaehkabdaa
open Go.RowKit Go.Maps
set_option linter.unusedVariables false

theorem results_cct {P : Program} {fn : Func} {p p' u : Tmp} {ty ty' : TypeId} (h : fn.results = #[.cell p ty, .cell p' ty', .tmp u]) (tmps : Array Value) (w : World) (g : Nat) (t : TypeId) (cs : Array Value) (fr : Nat × Nat) (d : TypeDesc) (g' : Nat) (t' : TypeId) (cs' : Array Value) (fr' : Nat × Nat) (d' : TypeDesc) (x : Value)
    (hp : tmps.getD p undef = .pointer (some ⟨g, 0, none⟩)) (hp' : tmps.getD p' undef = .pointer (some ⟨g', 0, none⟩)) (hx : tmps.getD u undef = x) (hg : w.heap[g]? = some (.cells cs t fr)) (hg' : w.heap[g']? = some (.cells cs' t' fr'))
    (hu : P.underlying ty = some d) (hd : (match d with | .struct _ | .array _ _ => true | _ => false) = true) (hi : (P.info? ty).map (·.size) = some cs.size)
    (hu' : P.underlying ty' = some d') (hd' : (match d' with | .struct _ | .array _ _ => true | _ => false) = true) (hi' : (P.info? ty').map (·.size) = some cs'.size) :
    (results fn tmps).run P w = .ok (.tuple #[.agg cs, .agg cs', x]) w := by
  have hp1 : tmps[p]?.getD undef = .pointer (some ⟨g, 0, none⟩) := by simpa using hp
  have hp2 : tmps[p']?.getD undef = .pointer (some ⟨g', 0, none⟩) := by simpa using hp'
  have hp3 : tmps[u]?.getD undef = x := by simpa using hx
  simp [results, h, hp1, hp2, hp3, asAddr, run_loadVar_row w g t ty cs fr d hg hu hd hi, run_loadVar_row w g' t' ty' cs' fr' d' hg' hu' hd' hi']
theorem results_tct {P : Program} {fn : Func} {p u v : Tmp} {ty : TypeId} (h : fn.results = #[.tmp u, .cell p ty, .tmp v]) (tmps : Array Value) (w : World) (g : Nat) (t : TypeId) (cs : Array Value) (fr : Nat × Nat) (d : TypeDesc) (x y : Value)
    (hp : tmps.getD p undef = .pointer (some ⟨g, 0, none⟩)) (hx : tmps.getD u undef = x) (hy : tmps.getD v undef = y) (hg : w.heap[g]? = some (.cells cs t fr))
    (hu : P.underlying ty = some d) (hd : (match d with | .struct _ | .array _ _ => true | _ => false) = true) (hi : (P.info? ty).map (·.size) = some cs.size) :
    (results fn tmps).run P w = .ok (.tuple #[x, .agg cs, y]) w := by
  have hp1 : tmps[p]?.getD undef = .pointer (some ⟨g, 0, none⟩) := by simpa using hp
  have hp2 : tmps[u]?.getD undef = x := by simpa using hx
  have hp3 : tmps[v]?.getD undef = y := by simpa using hy
  simp [results, h, hp1, hp2, hp3, asAddr, run_loadVar_row w g t ty cs fr d hg hu hd hi]

set_option maxHeartbeats 1000000 in
theorem Try_nil (w : World) (s k : List UInt8) (x : Int) (a : Option Addr) (n c : Nat) : Calls Try.prog 11 #[.pointer none, sv s, .int .i64 x, sv k, .slice a n c] w fun e w' => e = .returned (.tuple #[.agg (apV 0 0 0 false), .agg (bt [] [] 0 none 0 0), .int .i64 1]) ∧ Below w.heap.size w w' := by
  have HB := hide (((Below.refl w.heap.size w).alloc (Nat.le_refl _) (.cells (apV 0 0 0 false) 27)).alloc (by simp) (.cells (bt [] [] 0 none 0 0) 30))
  have h1 : ((w.alloc (.cells (apV 0 0 0 false) 27)).alloc (.cells (bt [] [] 0 none 0 0) 30)).heap[w.heap.size]? = some (.cells (apV 0 0 0 false) 27 (0, 0)) := by rw [Below.heap_alloc _ _ _ (by simp)]; exact heap_alloc_self _ _
  have h2 : ((w.alloc (.cells (apV 0 0 0 false) 27)).alloc (.cells (bt [] [] 0 none 0 0) 30)).heap[w.heap.size + 1]? = some (.cells (bt [] [] 0 none 0 0) 30 (0, 0)) := by
    rw [show w.heap.size + 1 = (w.alloc (.cells (apV 0 0 0 false) 27)).heap.size by simp]; exact heap_alloc_self _ _
  have H1 := hide h1
  have H2 := hide h2
  clear h1 h2
  go_enter Try.func11, Try.ntmps11
  go_wp2
  exact bodyPost_ret (results_cct rfl _ _ w.heap.size 27 (apV 0 0 0 false) (0, 0) _ (w.heap.size + 1) 30 (bt [] [] 0 none 0 0) (0, 0) _ (.int .i64 1) rfl rfl rfl (unhide H1) (unhide H2) Try.underlying27 rfl sizeApp Try.underlying30 rfl sizeBatch) rfl ⟨rfl, unhide HB⟩

theorem Stream_nil (w : World) (s : List UInt8) (x y : Int) : Calls Try.prog 16 #[.pointer none, sv s, .int .i64 x, .int .i64 y] w fun e w' => e = .returned (.tuple #[nilS, .int .i64 1]) ∧ w' = w := by
  go_enter Try.func16, Try.ntmps16
  go_wp2
  go_ret2
  exact ⟨rfl, rfl⟩
theorem All_nil (w : World) (x y : Int) : Calls Try.prog 13 #[.pointer none, .int .i64 x, .int .i64 y] w fun e w' => e = .returned (.tuple #[nilS, .int .i64 1]) ∧ w' = w := by
  go_enter Try.func13, Try.ntmps13
  go_wp2
  go_ret2
  exact ⟨rfl, rfl⟩
theorem Add_nil (w : World) (s k : List UInt8) (fi : Int) (a : Option Addr) (n c : Nat) : Calls Try.prog 12 #[.pointer none, .agg (bt s k fi a n c)] w fun e w' => e = .returned (.int .i64 1) ∧ Below w.heap.size w w' := by
  have HB := hide ((Below.refl w.heap.size w).alloc (Nat.le_refl _) (.cells (bt s k fi a n c) 30))
  go_enter Try.func12, Try.ntmps12
  go_wp2
  go_ret
  exact ⟨rfl, unhide HB⟩
theorem field0 (a : Option Addr) (n c : Nat) (m k : Option Nat) (w : World) : (Instr.field 68 (.agg (stV (.slice a n c) m k)) 0).run Try.prog w = .ok (.slice a n c) w := by kernel_rfl
theorem field1 (a : Option Addr) (n c : Nat) (m k : Option Nat) (w : World) : (Instr.field 68 (.agg (stV (.slice a n c) m k)) 1).run Try.prog w = .ok (.map m) w := by kernel_rfl
theorem field2 (a : Option Addr) (n c : Nat) (m k : Option Nat) (w : World) : (Instr.field 68 (.agg (stV (.slice a n c) m k)) 2).run Try.prog w = .ok (.map k) w := by kernel_rfl
set_option maxRecDepth 20000 in
theorem Len_nil (w : World) : Calls Try.prog 14 #[.pointer none] w fun e w' => e = .returned (.int .i64 0) ∧ Below w.heap.size w w' := by
  have HB := hide ((Below.refl w.heap.size w).alloc (Nat.le_refl _) (.cells (stV nilS none none) 68))
  go_enter Try.func14, Try.ntmps14
  go_wp2_with fail
  refine (now_nil w).mono ?_
  rintro e w1 ⟨rfl, rfl⟩
  have f0 := field0 none 0 0 none none
  go_wp2
  go_ret
  exact ⟨rfl, unhide HB⟩

theorem zeroK2 (w : World) : (zeroValue 84).run Try.prog w = .ok (kdV none) w := zeroKeyed w
theorem find_none (w : World) (s : List UInt8) (hs : s.length ≤ maxLen) : (Instr.findKey 9 (sv s) []).run Try.prog w = .ok none w := by
  rcases keyedS.find w (lit_key hs) [] (by simp) with h | ⟨j, e, _, h, _⟩
  · exact h.1
  · simp at h
theorem look_none (w : World) (s : List UInt8) (hs : s.length ≤ maxLen) : (Instr.lookup 65 (.map none) (sv s) false).run Try.prog w = .ok nilS w := by
  simp [Instr.lookup, keyedS.check w true (lit_key hs), find_none w s hs, zeroInts w]
theorem lookK_none (w : World) (s : List UInt8) (hs : s.length ≤ maxLen) : (Instr.lookup 66 (.map none) (sv s) true).run Try.prog w = .ok (.tuple #[kdV none, .bool false]) w := by
  simp [Instr.lookup, keyedS.check w true (lit_key hs), find_none w s hs, zeroKeyed w]

theorem version_nil (w : World) (s : List UInt8) (hs : s.length ≤ maxLen) : Calls Try.prog 33 #[.agg (stV nilS none none), sv s] w fun e w' => e = .returned (.int .i64 0) ∧ Below w.heap.size w w' := by
  have hl := look_none (w.alloc (.cells (stV nilS none none) 68)) s hs
  have HB := hide ((Below.refl w.heap.size w).alloc (Nat.le_refl _) (.cells (stV nilS none none) 68))
  go_enter Try.func33, Try.ntmps33
  go_wp2
  go_ret
  exact ⟨rfl, unhide HB⟩
set_option maxRecDepth 20000 in
theorem Version_nil (w : World) (s : List UInt8) (hs : s.length ≤ maxLen) : Calls Try.prog 17 #[.pointer none, sv s] w fun e w' => e = .returned (.int .i64 0) ∧ Below w.heap.size w w' := by
  have hb1 := (Below.refl w.heap.size w).alloc (Nat.le_refl _) (.cells (stV nilS none none) 68)
  have HB := hide hb1
  have VN := hide (version_nil (w.alloc (.cells (stV nilS none none) 68)) s hs)
  clear hb1
  go_enter Try.func17, Try.ntmps17
  go_wp2_with fail
  refine (now_nil w).mono ?_
  rintro e w1 ⟨rfl, rfl⟩
  go_wp2_with fail
  refine (unhide VN).mono ?_
  rintro e w2 ⟨rfl, b2⟩
  have HB2 := hide ((unhide HB).trans (b2.mono (by simp)))
  clear b2
  go_wp2
  go_ret
  exact ⟨rfl, unhide HB2⟩
set_option maxRecDepth 20000 in
theorem Keyed_nil (w : World) (s : List UInt8) (hs : s.length ≤ maxLen) : Calls Try.prog 19 #[.pointer none, sv s] w fun e w' => e = .returned (.tuple #[sv [], .agg (apV 0 0 0 false), .bool false]) ∧ Below w.heap.size w w' := by
  have f2 := field2 none 0 0 none none
  obtain ⟨w2, hw2⟩ : ∃ w2, w2 = (w.alloc (.cells (apV 0 0 0 false) 27)).alloc (.cells (stV nilS none none) 68) := ⟨_, rfl⟩
  have b2 : Below w.heap.size w w2 := by rw [hw2]; exact ((Below.refl _ _).alloc (Nat.le_refl _) _).alloc (by simp) _
  have z2 : w2.heap.size = w.heap.size + 2 := by rw [hw2]; simp
  have HA : ABox w2 w.heap.size 0 0 0 false := by unfold ABox; rw [hw2, Below.heap_alloc _ _ _ (by simp)]; exact heap_alloc_self _ _
  have hl := lookK_none w2 s hs
  simp only [kdV] at hl
  have HP := hide ((HA.same (Below.heap_alloc w2 (.cells (kdA [] 0 0 0 false) 84) w.heap.size (by omega))).put 0 0 0 false)
  have HB := hide (below_put (b2.alloc b2.size (.cells (kdA [] 0 0 0 false) 84)) (Nat.le_refl w.heap.size) 0 0 0 false)
  obtain ⟨w3, hw3⟩ : ∃ w3, w3 = w2.alloc (.cells (kdA [] 0 0 0 false) 84) := ⟨_, rfl⟩
  rw [← hw3] at HP HB
  have HK : w3.heap[w2.heap.size]? = some (.cells (kdA [] 0 0 0 false) 84 (0, 0)) := by rw [hw3]; exact heap_alloc_self _ _
  have HA3 : ABox w3 w.heap.size 0 0 0 false := by rw [hw3]; exact HA.same (Below.heap_alloc _ _ _ (by omega))
  obtain ⟨a0, a1, a2, a3, a4⟩ := HA3.cells
  have k0 : w3.cell? ⟨w2.heap.size, 0, none⟩ = some (sv []) := (cell_of_row _ _ _ _ _ _ HK).trans rfl
  have k1 : w3.cell? ⟨w2.heap.size, 1, none⟩ = some (.int .i64 0) := (cell_of_row _ _ _ _ _ _ HK).trans rfl
  have k2 : w3.cell? ⟨w2.heap.size, 2, none⟩ = some (.int .i64 0) := (cell_of_row _ _ _ _ _ _ HK).trans rfl
  have k3 : w3.cell? ⟨w2.heap.size, 3, none⟩ = some (.int .i64 0) := (cell_of_row _ _ _ _ _ _ HK).trans rfl
  have k4 : w3.cell? ⟨w2.heap.size, 4, none⟩ = some (.bool false) := (cell_of_row _ _ _ _ _ _ HK).trans rfl
  have Z2 := hide z2
  clear b2 HA HA3 HK z2
  go_enter Try.func19, Try.ntmps19
  go_wp2_with fail
  refine (now_nil _).mono ?_
  rintro e w1 ⟨rfl, rfl⟩
  rw [← hw2]
  clear hw2
  go_upto_region 2 with fail
  rw [← hw3]
  clear hw3 hl
  obtain ⟨kb, hkb⟩ : ∃ kb, kb = w2.heap.size := ⟨_, rfl⟩
  rw [← hkb] at k0 k1 k2 k3 k4 ⊢
  have hne : ¬ kb = w.heap.size := by have := unhide Z2; omega
  clear hkb
  go_region
  all_goals
    go_wp2
    exact bodyPost_ret (results_tct rfl _ _ w.heap.size 27 (apV 0 0 0 false) (0, 0) _ (sv []) (.bool false) rfl rfl rfl (unhide HP) Try.underlying27 rfl sizeApp) rfl ⟨rfl, (unhide HB).drew⟩
end Go.Proofs.Ytgpijeaehkabdaa

/-
  DERIVED. The walk of Index.Try.
-/
namespace Go.Proofs.Ytgpijeaehkabdaa
open Go.RowKit Go.Maps
set_option linter.unusedVariables false

theorem BBox.put {w : World} {q : Nat} {s k : List UInt8} {fi : Int} {v : Value} (h : BBox w q s k fi v) (s' k' : List UInt8) (f' : Int) (v' : Value) : BBox ((((w.setCell ⟨q, 0, none⟩ (sv s')).setCell ⟨q, 1, none⟩ (sv k')).setCell ⟨q, 2, none⟩ (.int .i64 f')).setCell ⟨q, 3, none⟩ v') q s' k' f' v' :=
  (((h.set0 s').set1 k').set2 f').set3 v'
theorem below_putB {B : Nat} {a w : World} (h : Below B a w) {q : Nat} (hq : B ≤ q) (s' k' : List UInt8) (f' : Int) (v' : Value) : Below B a ((((w.setCell ⟨q, 0, none⟩ (sv s')).setCell ⟨q, 1, none⟩ (sv k')).setCell ⟨q, 2, none⟩ (.int .i64 f')).setCell ⟨q, 3, none⟩ v') :=
  (((h.setCell (p := ⟨q, 0, none⟩) hq _).setCell (p := ⟨q, 1, none⟩) hq _).setCell (p := ⟨q, 2, none⟩) hq _).setCell (p := ⟨q, 3, none⟩) hq _
theorem ABox.other {w : World} {q b : Nat} {f p c : Int} {t : Bool} (h : ABox w b f p c t) (hne : b ≠ q) (s' k' : List UInt8) (f' : Int) (v' : Value) : ABox ((((w.setCell ⟨q, 0, none⟩ (sv s')).setCell ⟨q, 1, none⟩ (sv k')).setCell ⟨q, 2, none⟩ (.int .i64 f')).setCell ⟨q, 3, none⟩ v') b f p c t :=
  (((h.same (heap_setCell_other _ ⟨q, 0, none⟩ _ _ hne)).same (heap_setCell_other _ ⟨q, 1, none⟩ _ _ hne)).same (heap_setCell_other _ ⟨q, 2, none⟩ _ _ hne)).same (heap_setCell_other _ ⟨q, 3, none⟩ _ _ hne)
theorem BBox.other {w : World} {q b : Nat} {s k : List UInt8} {fi : Int} {v : Value} (h : BBox w b s k fi v) (hne : b ≠ q) (f' p' c' : Int) (b' : Bool) : BBox ((((w.setCell ⟨q, 0, none⟩ (.int .i64 f')).setCell ⟨q, 1, none⟩ (.int .i64 p')).setCell ⟨q, 2, none⟩ (.int .i64 c')).setCell ⟨q, 3, none⟩ (.bool b')) b s k fi v :=
  (((h.same (heap_setCell_other _ ⟨q, 0, none⟩ _ _ hne)).same (heap_setCell_other _ ⟨q, 1, none⟩ _ _ hne)).same (heap_setCell_other _ ⟨q, 2, none⟩ _ _ hne)).same (heap_setCell_other _ ⟨q, 3, none⟩ _ _ hne)

/-- Where Try stands behind the state's own try. -/
structure TrSt (w W : World) (f p c : Int) (b : Bool) : Prop where
  a0 : ABox W w.heap.size 0 0 0 false
  b0 : BBox W (w.heap.size + 1) [] [] 0 (.slice none 0 0)
  bel : Below w.heap.size w W
  siz : w.heap.size + 2 ≤ W.heap.size

set_option maxRecDepth 20000 in
set_option maxHeartbeats 4000000 in
theorem Try_bad {w : World} {F : Nat → Prop} {x N : Nat} {I : Ix} (h : IxAt w F x N I) (s : List UInt8) (hs : s.length ≤ maxLen) (ex : Int) (k : List UInt8) (hk : k.length ≤ maxLen) (ea : Option Addr) (en ec : Nat) (es : List Evn) (hv : EvL w (.slice ea en ec) es) (hfit : ∀ e ∈ es, fitE e)
    (f p c : Int) (b : Bool) (err : Int) (hA : tryA I s ex k es = (apV f p c b, err)) (hbad : err ≠ 0 ∨ b = true) :
    Calls Try.prog 11 #[.pointer (some ⟨x, 0, none⟩), sv s, .int .i64 ex, sv k, .slice ea en ec] w fun e w' => e = .returned (.tuple #[.agg (apV f p c b), .agg (bt [] [] 0 none 0 0), .int .i64 err]) ∧ Below w.heap.size w w' := by
  obtain ⟨wa, hwa⟩ : ∃ wa, wa = (w.alloc (.cells (apV 0 0 0 false) 27)).alloc (.cells (bt [] [] 0 none 0 0) 30) := ⟨_, rfl⟩
  have za : wa.heap.size = w.heap.size + 2 := by rw [hwa]; simp
  have ba : Below w.heap.size w wa := by rw [hwa]; exact ((Below.refl _ _).alloc (Nat.le_refl _) _).alloc (by simp) _
  have a1 : ABox wa w.heap.size 0 0 0 false := by unfold ABox; rw [hwa, Below.heap_alloc _ _ _ (by simp)]; exact heap_alloc_self _ _
  have b1 : BBox wa (w.heap.size + 1) [] [] 0 (.slice none 0 0) := by unfold BBox; rw [hwa, show w.heap.size + 1 = (w.alloc (.cells (apV 0 0 0 false) 27)).heap.size by simp]; exact heap_alloc_self _ _
  obtain ⟨st, hx, _, mp, mk, xs, av, pf, D1, D2, hi⟩ := h.frame (w' := wa) fun q _ hl => ba.block q hl
  obtain ⟨a, n, hav⟩ := hi.avs
  subst hav
  have CN := hide (now_go hx hi.stc ⟨a, _, n, rfl⟩)
  have bw := (Below.refl wa.heap.size wa).alloc (Nat.le_refl _) (.cells (stV (.slice a xs.length n) (some mp) (some mk)) 68)
  have CT := hide (try_go (hi.frame (w' := wa.alloc (.cells (stV (.slice a xs.length n) (some mp) (some mk)) 68)) fun q _ hl => bw.block q hl) a xs.length n rfl s hs ex k hk ea en ec es ((hv.below ba (Nat.le_refl _)).below bw (Nat.le_refl _)) hfit)
  rw [hA] at CT
  have HS : Hid (∀ W, Below (wa.alloc (.cells (stV (.slice a xs.length n) (some mp) (some mk)) 68)).heap.size (wa.alloc (.cells (stV (.slice a xs.length n) (some mp) (some mk)) 68)) W → TrSt w W f p c b) := hide (fun W hW => by
    have hz : (wa.alloc (.cells (stV (.slice a xs.length n) (some mp) (some mk)) 68)).heap.size = wa.heap.size + 1 := by simp
    have h2 := bw.trans (hW.mono (by omega))
    exact ⟨a1.same (h2.block _ (by omega)), b1.same (h2.block _ (by omega)), ba.trans (h2.mono (by omega)), by have := hW.size; omega⟩)
  clear hx hi bw h hv hA a1 b1 ba za
  go_enter Try.func11, Try.ntmps11
  go_wp2_with fail
  rw [← hwa]
  refine (unhide CN).mono ?_
  rintro e w1 ⟨rfl, rfl⟩
  clear CN hwa
  go_wp2_with fail
  refine (unhide CT).mono ?_
  rintro e w2 ⟨rfl, hb2⟩
  have st2 := unhide HS w2 hb2
  clear HS CT hb2
  dsimp only
  obtain ⟨B0, hB0⟩ : ∃ B0, B0 = w.heap.size := ⟨_, rfl⟩
  have a3 : ABox (w2.alloc (.cells (apV f p c b) 27)) B0 0 0 0 false := by rw [hB0]; exact st2.a0.same (Below.heap_alloc _ _ _ (by have := st2.siz; omega))
  have b3 : BBox (w2.alloc (.cells (apV f p c b) 27)) (B0 + 1) [] [] 0 (.slice none 0 0) := by rw [hB0]; exact st2.b0.same (Below.heap_alloc _ _ _ (by have := st2.siz; omega))
  have x3 : ABox (w2.alloc (.cells (apV f p c b) 27)) w2.heap.size f p c b := heap_alloc_self _ _
  have bl3 : Below w.heap.size w (w2.alloc (.cells (apV f p c b) 27)) := st2.bel.alloc (by have := st2.siz; omega) _
  have a4 := a3.put f p c b
  have b4 := b3.other (q := B0) (by omega) f p c b
  have a5 := a4.other (q := B0 + 1) (by omega) [] [] 0 (.slice none 0 0)
  have b5 := b4.put [] [] 0 (.slice none 0 0)
  have bl5 := below_putB (below_put bl3 (q := B0) (by omega) f p c b) (q := B0 + 1) (by omega) [] [] 0 (.slice none 0 0)
  obtain ⟨q0, q1, q2, q3, q4⟩ := x3.cells
  obtain ⟨r0, r1, r2, r3, r4⟩ := a3.cells
  obtain ⟨t0, t1, t2, t3, t4⟩ := b4.cells
  have A5 := hide a5
  have B5 := hide b5
  have L5 := hide bl5
  clear a3 b3 x3 bl3 a4 b4 a5 b5 bl5 st2
  rw [← hB0]
  clear hB0
  rcases hbad with hbad | hbad
  · have hne : (err != 0) = true := by simpa [bne] using hbad
    clear hbad
    go_wp2
    exact bodyPost_ret (results_cct rfl _ _ B0 27 (apV f p c b) (0, 0) _ (B0 + 1) 30 (bt [] [] 0 none 0 0) (0, 0) _ (.int .i64 err) rfl rfl rfl (unhide A5) (unhide B5) Try.underlying27 rfl sizeApp Try.underlying30 rfl sizeBatch) rfl ⟨rfl, unhide L5⟩
  · by_cases he : err = 0
    · subst he hbad
      go_wp2
      exact bodyPost_ret (results_cct rfl _ _ B0 27 (apV f p c true) (0, 0) _ (B0 + 1) 30 (bt [] [] 0 none 0 0) (0, 0) _ (.int .i64 0) rfl rfl rfl (unhide A5) (unhide B5) Try.underlying27 rfl sizeApp Try.underlying30 rfl sizeBatch) rfl ⟨rfl, unhide L5⟩
    · have hne : (err != 0) = true := by simpa [bne] using he
      clear hbad he
      go_wp2
      exact bodyPost_ret (results_cct rfl _ _ B0 27 (apV f p c b) (0, 0) _ (B0 + 1) 30 (bt [] [] 0 none 0 0) (0, 0) _ (.int .i64 err) rfl rfl rfl (unhide A5) (unhide B5) Try.underlying27 rfl sizeApp Try.underlying30 rfl sizeBatch) rfl ⟨rfl, unhide L5⟩

theorem ABox.otherA {w : World} {q b : Nat} {f p c : Int} {t : Bool} (h : ABox w b f p c t) (hne : b ≠ q) (f' p' c' : Int) (b' : Bool) : ABox ((((w.setCell ⟨q, 0, none⟩ (.int .i64 f')).setCell ⟨q, 1, none⟩ (.int .i64 p')).setCell ⟨q, 2, none⟩ (.int .i64 c')).setCell ⟨q, 3, none⟩ (.bool b')) b f p c t :=
  (((h.same (heap_setCell_other _ ⟨q, 0, none⟩ _ _ hne)).same (heap_setCell_other _ ⟨q, 1, none⟩ _ _ hne)).same (heap_setCell_other _ ⟨q, 2, none⟩ _ _ hne)).same (heap_setCell_other _ ⟨q, 3, none⟩ _ _ hne)
theorem ABox.four {w : World} {q : Nat} {f p c : Int} {b : Bool} (h : ABox w q f p c b) : w.cell? ⟨q, 0, none⟩ = some (.int .i64 f) ∧ w.cell? ⟨q, 1, none⟩ = some (.int .i64 p) ∧ w.cell? ⟨q, 2, none⟩ = some (.int .i64 c) ∧ w.cell? ⟨q, 3, none⟩ = some (.bool b) := ⟨h.cells.1, h.cells.2.1, h.cells.2.2.1, h.cells.2.2.2.1⟩

/-- Names, key and events with which a try goes well: P10.1. -/
def tryOk (I : Ix) (s : List UInt8) (ex : Int) (k : List UInt8) (es : List Evn) : Prop := okNames s k ∧ I.key k = none ∧ okEvs es ∧ ¬ ex < -1 ∧ (ex = -1 ∨ ex = (I.ver s : Int))
theorem tryA_ok {I : Ix} {s : List UInt8} {ex : Int} {k : List UInt8} {es : List Evn} (h : tryOk I s ex k es) : tryA I s ex k es = (apV (I.ver s) I.all.length es.length false, 0) := by
  obtain ⟨h1, h2, h3, h4, h5⟩ := h
  unfold tryA
  rw [if_neg (fun h' => h' h1), h2]
  simp only []
  rw [if_neg (fun h' => h' h3), if_neg h4, if_neg (fun h' => by rcases h5 with h5 | h5; exact h'.1 h5; exact h'.2 h5)]
theorem tryA_bad {I : Ix} {s : List UInt8} {ex : Int} {k : List UInt8} {es : List Evn} (h : ¬ tryOk I s ex k es) : ∃ (f p c : Int) (b : Bool) (err : Int), tryA I s ex k es = (apV f p c b, err) ∧ (err ≠ 0 ∨ b = true) := by
  unfold tryA
  by_cases h1 : okNames s k
  · rw [if_neg (fun h' => h' h1)]
    cases h2 : I.key k with
    | some d =>
      simp only []
      by_cases hd : d.s = s
      · rw [if_neg (fun h' => h' hd)]; exact ⟨_, _, _, _, _, rfl, .inr rfl⟩
      · rw [if_pos hd]; exact ⟨_, _, _, _, _, rfl, .inl (by decide)⟩
    | none =>
      simp only []
      by_cases h3 : okEvs es
      · rw [if_neg (fun h' => h' h3)]
        by_cases h4 : ex < -1
        · rw [if_pos h4]; exact ⟨_, _, _, _, _, rfl, .inl (by decide)⟩
        · rw [if_neg h4]
          by_cases h5 : ex ≠ -1 ∧ ex ≠ (I.ver s : Int)
          · rw [if_pos h5]; exact ⟨_, _, _, _, _, rfl, .inl (by decide)⟩
          · exact absurd ⟨h1, h2, h3, h4, by
              by_cases h6 : ex = -1
              · exact .inl h6
              · by_cases h7 : ex = (I.ver s : Int)
                · exact .inr h7
                · exact absurd ⟨h6, h7⟩ h5⟩ h
      · rw [if_pos h3]; exact ⟨_, _, _, _, _, rfl, .inl (by decide)⟩
  · rw [if_pos h1]; exact ⟨_, _, _, _, _, rfl, .inl (by decide)⟩

theorem far8 {w : World} {b q : Nat} (h0 : b ≠ q) (h1 : b ≠ q + 1) (f p c : Int) (t : Bool) (s' k' : List UInt8) (f' : Int) (v' : Value) : ((((((((w.setCell ⟨q, 0, none⟩ (.int .i64 f)).setCell ⟨q, 1, none⟩ (.int .i64 p)).setCell ⟨q, 2, none⟩ (.int .i64 c)).setCell ⟨q, 3, none⟩ (.bool t)).setCell ⟨q + 1, 0, none⟩ (sv s')).setCell ⟨q + 1, 1, none⟩ (sv k')).setCell ⟨q + 1, 2, none⟩ (.int .i64 f')).setCell ⟨q + 1, 3, none⟩ v').heap[b]? = w.heap[b]? := by
  rw [heap_setCell_other _ ⟨q + 1, 3, none⟩ _ _ h1, heap_setCell_other _ ⟨q + 1, 2, none⟩ _ _ h1, heap_setCell_other _ ⟨q + 1, 1, none⟩ _ _ h1, heap_setCell_other _ ⟨q + 1, 0, none⟩ _ _ h1, heap_setCell_other _ ⟨q, 3, none⟩ _ _ h0, heap_setCell_other _ ⟨q, 2, none⟩ _ _ h0, heap_setCell_other _ ⟨q, 1, none⟩ _ _ h0, heap_setCell_other _ ⟨q, 0, none⟩ _ _ h0]

/-- A batch that goes out: its events in memory of their own. -/
structure Got (w w' : World) (q : Nat) (es : List Evn) (ys : List (Evn × Nat)) : Prop where
  blk : EvBlk w' q es.length ys
  evs : ys.map (·.1) = es
  new : ∀ y ∈ ys, w.heap.size ≤ y.2
  hq : w.heap.size ≤ q

set_option maxRecDepth 20000 in
set_option maxHeartbeats 4000000 in
theorem Try_ok {w : World} {F : Nat → Prop} {x N : Nat} {I : Ix} (h : IxAt w F x N I) (s : List UInt8) (hs : s.length ≤ maxLen) (ex : Int) (k : List UInt8) (hk : k.length ≤ maxLen) (ea : Option Addr) (en ec : Nat) (es : List Evn) (hv : EvL w (.slice ea en ec) es) (hfit : ∀ e ∈ es, fitE e) (hf16 : ∀ e ∈ es, e.fields.length ≤ 16)
    (hok : tryOk I s ex k es) :
    Calls Try.prog 11 #[.pointer (some ⟨x, 0, none⟩), sv s, .int .i64 ex, sv k, .slice ea en ec] w fun e w' => ∃ q ys, e = .returned (.tuple #[.agg (apV (I.ver s) I.all.length es.length false), .agg (bt s k (I.ver s) (some ⟨q, 0, none⟩) es.length es.length), .int .i64 0]) ∧ Below w.heap.size w w' ∧ Got w w' q es ys := by
  obtain ⟨wa, hwa⟩ : ∃ wa, wa = (w.alloc (.cells (apV 0 0 0 false) 27)).alloc (.cells (bt [] [] 0 none 0 0) 30) := ⟨_, rfl⟩
  have za : wa.heap.size = w.heap.size + 2 := by rw [hwa]; simp
  have ba : Below w.heap.size w wa := by rw [hwa]; exact ((Below.refl _ _).alloc (Nat.le_refl _) _).alloc (by simp) _
  have a1 : ABox wa w.heap.size 0 0 0 false := by unfold ABox; rw [hwa, Below.heap_alloc _ _ _ (by simp)]; exact heap_alloc_self _ _
  have b1 : BBox wa (w.heap.size + 1) [] [] 0 (.slice none 0 0) := by unfold BBox; rw [hwa, show w.heap.size + 1 = (w.alloc (.cells (apV 0 0 0 false) 27)).heap.size by simp]; exact heap_alloc_self _ _
  obtain ⟨st, hx, _, mp, mk, xs, av, pf, D1, D2, hi⟩ := h.frame (w' := wa) fun q _ hl => ba.block q hl
  obtain ⟨a, n, hav⟩ := hi.avs
  subst hav
  have CN := hide (now_go hx hi.stc ⟨a, _, n, rfl⟩)
  have bw := (Below.refl wa.heap.size wa).alloc (Nat.le_refl _) (.cells (stV (.slice a xs.length n) (some mp) (some mk)) 68)
  have CT := hide (try_go (hi.frame (w' := wa.alloc (.cells (stV (.slice a xs.length n) (some mp) (some mk)) 68)) fun q _ hl => bw.block q hl) a xs.length n rfl s hs ex k hk ea en ec es ((hv.below ba (Nat.le_refl _)).below bw (Nat.le_refl _)) hfit)
  rw [tryA_ok hok] at CT
  obtain ⟨f, hf⟩ : ∃ f : Int, f = (I.ver s : Int) := ⟨_, rfl⟩
  obtain ⟨p, hp⟩ : ∃ p : Int, p = (I.all.length : Int) := ⟨_, rfl⟩
  obtain ⟨c, hc⟩ : ∃ c : Int, c = (es.length : Int) := ⟨_, rfl⟩
  rw [← hf, ← hp, ← hc] at CT
  rw [← hf, ← hp, ← hc]
  have HS : Hid (∀ W, Below (wa.alloc (.cells (stV (.slice a xs.length n) (some mp) (some mk)) 68)).heap.size (wa.alloc (.cells (stV (.slice a xs.length n) (some mp) (some mk)) 68)) W → TrSt w W f p c false) := hide (fun W hW => by
    have hz : (wa.alloc (.cells (stV (.slice a xs.length n) (some mp) (some mk)) 68)).heap.size = wa.heap.size + 1 := by simp
    have h2 := bw.trans (hW.mono (by omega))
    exact ⟨a1.same (h2.block _ (by omega)), b1.same (h2.block _ (by omega)), ba.trans (h2.mono (by omega)), by have := hW.size; omega⟩)
  have HV := hide hv
  have HF := hide hf16
  have H16 := hide hok.2.2.1.2.1
  obtain ⟨EN, hEN⟩ : ∃ EN, EN = es.length := ⟨_, rfl⟩
  have HEN := hide hEN
  rw [← hEN]
  clear hx hi bw h hv a1 b1 ba za hf hp hc hok hf16 hfit hEN
  go_enter Try.func11, Try.ntmps11
  go_wp2_with fail
  rw [← hwa]
  refine (unhide CN).mono ?_
  rintro e w1 ⟨rfl, rfl⟩
  clear CN hwa
  go_wp2_with fail
  refine (unhide CT).mono ?_
  rintro e w2 ⟨rfl, hb2⟩
  have st2 := unhide HS w2 hb2
  clear HS CT hb2
  dsimp only
  obtain ⟨B0, hB0⟩ : ∃ B0, B0 = w.heap.size := ⟨_, rfl⟩
  obtain ⟨w3, hw3⟩ : ∃ w3, w3 = w2.alloc (.cells (apV f p c false) 27) := ⟨_, rfl⟩
  obtain ⟨bx, hbx⟩ : ∃ bx, bx = w2.heap.size := ⟨_, rfl⟩
  have z3 : w3.heap.size = w2.heap.size + 1 := by rw [hw3]; simp
  have a3 : ABox w3 B0 0 0 0 false := by rw [hB0, hw3]; exact st2.a0.same (Below.heap_alloc _ _ _ (by have := st2.siz; omega))
  have b3 : BBox w3 (B0 + 1) [] [] 0 (.slice none 0 0) := by rw [hB0, hw3]; exact st2.b0.same (Below.heap_alloc _ _ _ (by have := st2.siz; omega))
  have x3 : ABox w3 bx f p c false := by rw [hw3, hbx]; exact heap_alloc_self _ _
  have bl3 : Below w.heap.size w w3 := by rw [hw3]; exact st2.bel.alloc (by have := st2.siz; omega) _
  have hz2 := st2.siz
  have CE := hide (eventsApart_go ea en ec es w3.drew (((unhide HV).below bl3 (Nat.le_refl _)).below (Below.refl _ w3).drew (Nat.le_refl _)) (unhide H16) (unhide HF))
  have HW : Hid (∀ W4 q ys, ApSt w3.drew W4 q es.length es.length es ys → ABox W4 B0 0 0 0 false ∧ BBox W4 (B0 + 1) [] [] 0 (.slice none 0 0) ∧ ABox W4 bx f p c false ∧ Below w.heap.size w W4 ∧ EvBlk W4 q es.length ys ∧ ys.map (·.1) = es ∧ (∀ y ∈ ys, w3.heap.size ≤ y.2) ∧ w3.heap.size ≤ q) := hide (fun W4 q ys ha => by
    have hb := ha.bel
    have e3 : w3.drew.heap.size = w3.heap.size := rfl
    refine ⟨a3.same (hb.block _ (by omega)), b3.same (hb.block _ (by omega)), x3.same (hb.block _ (by omega)), bl3.drew.trans (hb.mono (by have := bl3.size; omega)), ha.blk, by have := ha.evs; rwa [List.take_length] at this, ha.new, ha.hq⟩)
  have X3d : Hid (w3.drew.cell? ⟨bx, 0, none⟩ = some (.int .i64 f) ∧ w3.drew.cell? ⟨bx, 1, none⟩ = some (.int .i64 p) ∧ w3.drew.cell? ⟨bx, 2, none⟩ = some (.int .i64 c) ∧ w3.drew.cell? ⟨bx, 3, none⟩ = some (.bool false)) := hide x3.four
  have hne0 : bx ≠ B0 := by omega
  have hne1 : bx ≠ B0 + 1 := by omega
  have hbw : w.heap.size ≤ B0 := by omega
  have HB0 := hide hB0
  have HZ : Hid (w.heap.size ≤ w3.heap.size ∧ B0 + 1 < w3.heap.size) := hide ⟨by omega, by omega⟩
  obtain ⟨q0, q1, q2, q3, q4⟩ := x3.cells
  obtain ⟨r0, r1, r2, r3, r4⟩ := a3.cells
  clear st2 a3 b3 x3 bl3 z3 hz2
  go_upto_region 6 with fail
  rw [← hw3, ← hbx, ← hB0]
  clear hw3 hbx hB0
  go_region_held3 (fun w' => w'.cell? ⟨bx, 0, none⟩ = some (.int .i64 f) ∧ w'.cell? ⟨bx, 1, none⟩ = some (.int .i64 p) ∧ w'.cell? ⟨bx, 2, none⟩ = some (.int .i64 c) ∧ w'.cell? ⟨bx, 3, none⟩ = some (.bool false))
    (first | with_reducible exact unhide X3d | with_reducible exact (unhide X4).four | with_reducible exact (((unhide X4).otherA hne0 _ _ _ _)).four | with_reducible exact (((unhide X4).otherA hne0 _ _ _ _).other hne1 _ _ _ _).four)
    ((go_at_call 25; refine (unhide CE).mono ?_; rintro e w4 ⟨q, ys, rfl, hap⟩; have H4 := hide (unhide HW w4 q ys hap); obtain ⟨m0, m1, m2, m3, m4⟩ := (unhide H4).1.cells; obtain ⟨o0, o1, o2, o3, o4⟩ := ((unhide H4).2.1.other (q := B0) (by omega) f p c false).cells; have X4 := hide (unhide H4).2.2.1; clear hap))
  have h4 := unhide H4
  have A5 := hide ((h4.1.put f p c false).other (q := B0 + 1) (by omega) s k f (.slice (some ⟨q, 0, none⟩) es.length es.length))
  have B5 := hide ((h4.2.1.other (q := B0) (by omega) f p c false).put s k f (.slice (some ⟨q, 0, none⟩) es.length es.length))
  have L5 := hide (below_putB (below_put h4.2.2.2.1 (q := B0) hbw f p c false) (q := B0 + 1) (by omega) s k f (.slice (some ⟨q, 0, none⟩) es.length es.length))
  have G5 : Hid (Got w _ q es ys) := hide ⟨h4.2.2.2.2.1.same (far8 (b := q) (q := B0) (by have := unhide HZ; have := h4.2.2.2.2.2.2.2; omega) (by have := unhide HZ; have := h4.2.2.2.2.2.2.2; omega) f p c false s k f (.slice (some ⟨q, 0, none⟩) es.length es.length)) (fun y hy => far8 (b := y.2) (q := B0) (by have := unhide HZ; have := h4.2.2.2.2.2.2.1 y hy; omega) (by have := unhide HZ; have := h4.2.2.2.2.2.2.1 y hy; omega) f p c false s k f (.slice (some ⟨q, 0, none⟩) es.length es.length)), h4.2.2.2.2.2.1, fun y hy => by have := unhide HZ; have := h4.2.2.2.2.2.2.1 y hy; omega, by have := unhide HZ; have := h4.2.2.2.2.2.2.2; omega⟩
  clear h4
  go_wp2
  exact bodyPost_ret (results_cct rfl _ _ B0 27 (apV f p c false) (0, 0) _ (B0 + 1) 30 (bt s k f (some ⟨q, 0, none⟩) es.length es.length) (0, 0) _ (.int .i64 0) rfl rfl rfl (unhide A5) (unhide B5) Try.underlying27 rfl sizeApp Try.underlying30 rfl sizeBatch) rfl ⟨q, ys, by rw [unhide HEN], unhide L5, unhide G5⟩
end Go.Proofs.Ytgpijeaehkabdaa

/-
  DERIVED. The walk of Index.Add.
-/
namespace Go.Proofs.Ytgpijeaehkabdaa
open Go.RowKit Go.Maps
set_option linter.unusedVariables false

/-- The index's memory told otherwise. -/
theorem IxIn.wide {w : World} {F G : Nat → Prop} {st mp mk N : Nat} {I : Ix} {xs : List (Ent × Nat)} {av : Value} {pf : List UInt8 → Value} {D1 D2 : DataW Value} (h : IxIn w F st mp mk N I xs av pf D1 D2) (hFG : ∀ q, F q → q < w.heap.size → G q) : IxIn w G st mp mk N I xs av pf D1 D2 :=
  { h with
    fds := fun x hx => ⟨(h.fds x hx).1, (h.fds x hx).2.1, hFG _ (h.fds x hx).2.2 (h.fds x hx).1.lt⟩
    fst := hFG _ h.fst (lt_of_block h.stc)
    fmp := hFG _ h.fmp h.mpo.lt
    fmk := hFG _ h.fmk h.mko.lt
    fav := fun q hq => hFG _ (h.fav q hq) (by obtain ⟨cur, hc⟩ := ownsRow_mark h.row hq; exact lt_of_block hc)
    fpf := fun s q hq => hFG _ (h.fpf s q hq) (by obtain ⟨cur, hc⟩ := ownsRow_mark (h.rows s) hq; exact lt_of_block hc) }
theorem IxIn.without {w : World} {F : Nat → Prop} {st mp mk N x : Nat} {I : Ix} {xs : List (Ent × Nat)} {av : Value} {pf : List UInt8 → Value} {D1 D2 : DataW Value} {cs : Array Value} (h : IxIn w F st mp mk N I xs av pf D1 D2) (hx : w.heap[x]? = some (.cells cs 63 (0, 0))) : IxIn w (fun q => F q ∧ q ≠ x) st mp mk N I xs av pf D1 D2 :=
  { h with
    fds := fun y hy => ⟨(h.fds y hy).1, (h.fds y hy).2.1, (h.fds y hy).2.2, (h.fds y hy).1.kind hx (by decide)⟩
    fst := ⟨h.fst, mark_ne hx h.stc (by decide)⟩
    fmp := ⟨h.fmp, fun e => map_ne h.mpo hx e.symm⟩
    fmk := ⟨h.fmk, fun e => map_ne h.mko hx e.symm⟩
    fav := fun q hq => ⟨h.fav q hq, by obtain ⟨cur, hc⟩ := ownsRow_mark h.row hq; exact mark_ne hx hc (by decide)⟩
    fpf := fun s q hq => ⟨h.fpf s q hq, by obtain ⟨cur, hc⟩ := ownsRow_mark (h.rows s) hq; exact mark_ne hx hc (by decide)⟩ }

/-- Events that stay while nothing but the index's memory turns. -/
def EvFar (F : Nat → Prop) (w : World) (ea : Option Addr) (en ec : Nat) (es : List Evn) : Prop :=
  (∀ A : World, w.heap.size ≤ A.heap.size → (∀ k, k < w.heap.size → ¬ F k → A.heap[k]? = w.heap[k]?) → EvL A (.slice ea en ec) es) ∧ ∀ b off, ea = some ⟨b, off, none⟩ → en ≠ 0 → b < w.heap.size ∧ ¬ F b
theorem EvFar.evl {F : Nat → Prop} {w : World} {ea : Option Addr} {en ec : Nat} {es : List Evn} (h : EvFar F w ea en ec es) : EvL w (.slice ea en ec) es := h.1 w (Nat.le_refl _) fun _ _ _ => rfl

set_option maxRecDepth 20000 in
set_option maxHeartbeats 4000000 in
theorem Add_bad {w : World} {F : Nat → Prop} {x N : Nat} {I : Ix} (h : IxAt w F x N I) (s : List UInt8) (hs : s.length ≤ maxLen) (fi : Int) (k : List UInt8) (hk : k.length ≤ maxLen) (ea : Option Addr) (en ec : Nat) (es : List Evn) (hv : EvL w (.slice ea en ec) es) (hfit : ∀ e ∈ es, fitE e) (err : Int) (hA : chkA I s k fi es = err) (hbad : err ≠ 0) :
    Calls Try.prog 12 #[.pointer (some ⟨x, 0, none⟩), .agg (bt s k fi ea en ec)] w fun e w' => e = .returned (.int .i64 err) ∧ Below w.heap.size w w' := by
  obtain ⟨w1, hw1⟩ : ∃ w1, w1 = w.alloc (.cells (bt s k fi ea en ec) 30) := ⟨_, rfl⟩
  have z1 : w1.heap.size = w.heap.size + 1 := by rw [hw1]; simp
  have b1 : Below w.heap.size w w1 := by rw [hw1]; exact (Below.refl _ _).alloc (Nat.le_refl _) _
  have x1 : BBox w1 w.heap.size s k fi (.slice ea en ec) := by unfold BBox; rw [hw1]; exact heap_alloc_self _ _
  have bd := b1.drew
  obtain ⟨st, hx, _, mp, mk, xs, av, pf, D1, D2, hi⟩ := h.frame (w' := w1.drew) fun q _ hl => bd.block q hl
  obtain ⟨a, n, hav⟩ := hi.avs
  subst hav
  have CN := hide (now_go hx hi.stc ⟨a, _, n, rfl⟩)
  have bw := (Below.refl w1.drew.heap.size w1.drew).alloc (Nat.le_refl _) (.cells (stV (.slice a xs.length n) (some mp) (some mk)) 68)
  have CK := hide (check_go (hi.frame (w' := w1.drew.alloc (.cells (stV (.slice a xs.length n) (some mp) (some mk)) 68)) fun q _ hl => bw.block q hl) a xs.length n rfl s hs fi k hk ea en ec es ((hv.below bd (Nat.le_refl _)).below bw (Nat.le_refl _)) hfit)
  rw [hA] at CK
  obtain ⟨B, hB⟩ : ∃ B, B = w.heap.size := ⟨_, rfl⟩
  rw [← hB] at x1
  have hd : w1.drew.heap.size = w1.heap.size := rfl
  have c0 : Hid (w1.drew.cell? ⟨B, 0, none⟩ = some (sv s) ∧ w1.drew.cell? ⟨B, 1, none⟩ = some (sv k) ∧ w1.drew.cell? ⟨B, 2, none⟩ = some (.int .i64 fi) ∧ w1.drew.cell? ⟨B, 3, none⟩ = some (.slice ea en ec)) := hide ⟨x1.cells.1, x1.cells.2.1, x1.cells.2.2.1, x1.cells.2.2.2.1⟩
  have HC : Hid (∀ A, Below w1.drew.heap.size w1.drew A → A.cell? ⟨B, 0, none⟩ = some (sv s) ∧ A.cell? ⟨B, 1, none⟩ = some (sv k) ∧ A.cell? ⟨B, 2, none⟩ = some (.int .i64 fi) ∧ A.cell? ⟨B, 3, none⟩ = some (.slice ea en ec)) := hide (fun A hA => by
    have y := x1.same (w' := A) (hA.block B (by omega))
    exact ⟨y.cells.1, y.cells.2.1, y.cells.2.2.1, y.cells.2.2.2.1⟩)
  have c1 : Hid (∀ W, W = w1.drew.alloc (.cells (stV (.slice a xs.length n) (some mp) (some mk)) 68) → W.cell? ⟨B, 0, none⟩ = some (sv s) ∧ W.cell? ⟨B, 1, none⟩ = some (sv k) ∧ W.cell? ⟨B, 2, none⟩ = some (.int .i64 fi) ∧ W.cell? ⟨B, 3, none⟩ = some (.slice ea en ec)) := hide (fun W hW => by rw [hW]; exact unhide HC _ bw)
  have CK2 : Hid (∀ W, W = w1.drew.alloc (.cells (stV (.slice a xs.length n) (some mp) (some mk)) 68) → Calls Try.prog 26 #[.agg (stV (.slice a xs.length n) (some mp) (some mk)), .agg (bt s k fi ea en ec)] W fun e w' => e = .returned (.int .i64 err) ∧ Below (w1.drew.alloc (.cells (stV (.slice a xs.length n) (some mp) (some mk)) 68)).heap.size (w1.drew.alloc (.cells (stV (.slice a xs.length n) (some mp) (some mk)) 68)) w') := hide (fun W hW => by rw [hW]; exact unhide CK)
  clear CK
  have c2 : Hid (∀ A, Below (w1.drew.alloc (.cells (stV (.slice a xs.length n) (some mp) (some mk)) 68)).heap.size (w1.drew.alloc (.cells (stV (.slice a xs.length n) (some mp) (some mk)) 68)) A → (A.cell? ⟨B, 0, none⟩ = some (sv s) ∧ A.cell? ⟨B, 1, none⟩ = some (sv k) ∧ A.cell? ⟨B, 2, none⟩ = some (.int .i64 fi) ∧ A.cell? ⟨B, 3, none⟩ = some (.slice ea en ec)) ∧ Below w.heap.size w A) := hide (fun A hA => by
    have h2 := bw.trans (hA.mono bw.size)
    exact ⟨unhide HC A h2, bd.trans (h2.mono (by omega))⟩)
  have hne : (err != 0) = true := by simpa [bne] using hbad
  clear hx hi bw bd b1 z1 h hv hA hbad hfit x1 hd
  go_enter Try.func12, Try.ntmps12
  go_upto_region 3 with fail
  rw [← hw1, ← hB]
  clear hw1 hB
  go_region_held3 (fun w' => w'.cell? ⟨B, 0, none⟩ = some (sv s) ∧ w'.cell? ⟨B, 1, none⟩ = some (sv k) ∧ w'.cell? ⟨B, 2, none⟩ = some (.int .i64 fi) ∧ w'.cell? ⟨B, 3, none⟩ = some (.slice ea en ec))
    (first | with_reducible exact unhide c0 | with_reducible exact unhide c11 | with_reducible exact (unhide c3).1)
    ((first
      | (go_at_call 23; refine (unhide CN).mono ?_; rintro e w2 ⟨rfl, hw2⟩; have HW2 := hide hw2; have c11 := hide (unhide c1 w2 hw2); clear hw2)
      | (go_at_call 26; refine (unhide CK2 w2 (unhide HW2)).mono ?_; rintro e w3 ⟨rfl, hb3⟩; have c3 := hide (unhide c2 w3 hb3); clear hb3)))
  all_goals
    have HL := hide (unhide c3).2
    clear c3 c2 c1 c0 c11 HC CN CK2 HW2
    go_wp2
    go_ret
    exact ⟨rfl, unhide HL⟩

set_option maxRecDepth 20000 in
set_option maxHeartbeats 4000000 in
theorem Add_ok {w : World} {F : Nat → Prop} {x N : Nat} {I : Ix} (h : IxAt w F x N I) (hFl : ∀ q, F q → q < w.heap.size) (hN : N < 1000000) (s : List UInt8) (hs : s.length ≤ maxLen) (fi : Nat) (hfi : (fi : Int) < 4611686018427387904) (k : List UInt8) (hk : k.length ≤ maxLen) (ea : Option Addr) (en ec : Nat) (es : List Evn) (hv : EvFar F w ea en ec es) (hfit : ∀ e ∈ es, fitE e) (hf16 : ∀ e ∈ es, e.fields.length ≤ 16) (hA : chkA I s k fi es = 0) (h16 : es.length ≤ 16) (h1 : 1 ≤ es.length) :
    Calls Try.prog 12 #[.pointer (some ⟨x, 0, none⟩), .agg (bt s k fi ea en ec)] w fun e w' => e = .returned (.int .i64 0) ∧ Kept F w w' ∧ IxAt w' (fun q => (F q ∨ w.heap.size ≤ q) ∧ q < w'.heap.size) x (N + 1 + es.length) (I.added s k fi es) := by
  obtain ⟨w1, hw1⟩ : ∃ w1, w1 = w.alloc (.cells (bt s k fi ea en ec) 30) := ⟨_, rfl⟩
  have z1 : w1.heap.size = w.heap.size + 1 := by rw [hw1]; simp
  have b1 : Below w.heap.size w w1 := by rw [hw1]; exact (Below.refl _ _).alloc (Nat.le_refl _) _
  have x1 : BBox w1 w.heap.size s k fi (.slice ea en ec) := by unfold BBox; rw [hw1]; exact heap_alloc_self _ _
  have bd := b1.drew
  obtain ⟨st, hx, _, mp, mk, xs, av, pf, D1, D2, hi⟩ := h.frame (w' := w1.drew) fun q _ hl => bd.block q hl
  obtain ⟨a, n, hav⟩ := hi.avs
  subst hav
  have CN := hide (now_go hx hi.stc ⟨a, _, n, rfl⟩)
  have bw := (Below.refl w1.drew.heap.size w1.drew).alloc (Nat.le_refl _) (.cells (stV (.slice a xs.length n) (some mp) (some mk)) 68)
  have CK := hide (check_go (hi.frame (w' := w1.drew.alloc (.cells (stV (.slice a xs.length n) (some mp) (some mk)) 68)) fun q _ hl => bw.block q hl) a xs.length n rfl s hs fi k hk ea en ec es ((hv.evl.below bd (Nat.le_refl _)).below bw (Nat.le_refl _)) hfit)
  rw [hA] at CK
  obtain ⟨B, hB⟩ : ∃ B, B = w.heap.size := ⟨_, rfl⟩
  rw [← hB] at x1
  have hd : w1.drew.heap.size = w1.heap.size := rfl
  have c0 : Hid (w1.drew.cell? ⟨B, 0, none⟩ = some (sv s) ∧ w1.drew.cell? ⟨B, 1, none⟩ = some (sv k) ∧ w1.drew.cell? ⟨B, 2, none⟩ = some (.int .i64 (fi : Int)) ∧ w1.drew.cell? ⟨B, 3, none⟩ = some (.slice ea en ec)) := hide ⟨x1.cells.1, x1.cells.2.1, x1.cells.2.2.1, x1.cells.2.2.2.1⟩
  have HC : Hid (∀ A, Below w1.drew.heap.size w1.drew A → A.cell? ⟨B, 0, none⟩ = some (sv s) ∧ A.cell? ⟨B, 1, none⟩ = some (sv k) ∧ A.cell? ⟨B, 2, none⟩ = some (.int .i64 (fi : Int)) ∧ A.cell? ⟨B, 3, none⟩ = some (.slice ea en ec)) := hide (fun A hA => by
    have y := x1.same (w' := A) (hA.block B (by omega))
    exact ⟨y.cells.1, y.cells.2.1, y.cells.2.2.1, y.cells.2.2.2.1⟩)
  have c1 : Hid (∀ W, W = w1.drew.alloc (.cells (stV (.slice a xs.length n) (some mp) (some mk)) 68) → W.cell? ⟨B, 0, none⟩ = some (sv s) ∧ W.cell? ⟨B, 1, none⟩ = some (sv k) ∧ W.cell? ⟨B, 2, none⟩ = some (.int .i64 (fi : Int)) ∧ W.cell? ⟨B, 3, none⟩ = some (.slice ea en ec)) := hide (fun W hW => by rw [hW]; exact unhide HC _ bw)
  have CK2 : Hid (∀ W, W = w1.drew.alloc (.cells (stV (.slice a xs.length n) (some mp) (some mk)) 68) → Calls Try.prog 26 #[.agg (stV (.slice a xs.length n) (some mp) (some mk)), .agg (bt s k fi ea en ec)] W fun e w' => e = .returned (.int .i64 0) ∧ Below (w1.drew.alloc (.cells (stV (.slice a xs.length n) (some mp) (some mk)) 68)).heap.size (w1.drew.alloc (.cells (stV (.slice a xs.length n) (some mp) (some mk)) 68)) w') := hide (fun W hW => by rw [hW]; exact unhide CK)
  clear CK
  have c2 : Hid (∀ A, Below (w1.drew.alloc (.cells (stV (.slice a xs.length n) (some mp) (some mk)) 68)).heap.size (w1.drew.alloc (.cells (stV (.slice a xs.length n) (some mp) (some mk)) 68)) A → (A.cell? ⟨B, 0, none⟩ = some (sv s) ∧ A.cell? ⟨B, 1, none⟩ = some (sv k) ∧ A.cell? ⟨B, 2, none⟩ = some (.int .i64 (fi : Int)) ∧ A.cell? ⟨B, 3, none⟩ = some (.slice ea en ec)) ∧ Below w.heap.size w A ∧ Below w1.drew.heap.size w1.drew A) := hide (fun A hA => by
    have h2 := bw.trans (hA.mono bw.size)
    exact ⟨unhide HC A h2, bd.trans (h2.mono (by omega)), h2⟩)
  have hFB : ¬ F B := fun hb => by have := hFl B hb; omega
  have hxl : x < w1.drew.heap.size := lt_of_block hx
  have xc : w1.drew.cell? ⟨x, 0, none⟩ = some (.pointer (some ⟨st, 0, none⟩)) := (cell_of_row _ _ _ _ _ _ hx).trans rfl
  have hxB : x ≠ B := by
    obtain ⟨st', hx', _⟩ := id h
    have := lt_of_block hx'
    omega
  -- the state's add, whatever lies between
  have CA : Hid (∀ A, Below w1.drew.heap.size w1.drew A → (A.cell? ⟨x, 0, none⟩ = some (.pointer (some ⟨st, 0, none⟩))) ∧ Calls Try.prog 27 #[.pointer (some ⟨st, 0, none⟩), .agg (bt s k fi ea en ec)] A fun e w' => e = .returned (.tuple #[]) ∧ (w'.cell? ⟨x, 0, none⟩ = some (.pointer (some ⟨st, 0, none⟩)) ∧ w'.cell? ⟨B, 0, none⟩ = some (sv s) ∧ w'.cell? ⟨B, 1, none⟩ = some (sv k) ∧ w'.cell? ⟨B, 2, none⟩ = some (.int .i64 (fi : Int)) ∧ w'.cell? ⟨B, 3, none⟩ = some (.slice ea en ec)) ∧ Kept F w w' ∧ IxAt w' (fun q => (F q ∨ w.heap.size ≤ q) ∧ q < w'.heap.size) x (N + 1 + es.length) (I.added s k fi es)) := hide (fun A hA => by
    have hxA : A.heap[x]? = some (.cells #[.pointer (some ⟨st, 0, none⟩)] 63 (0, 0)) := (hA.block x hxl).trans hx
    have xA : A.cell? ⟨x, 0, none⟩ = some (.pointer (some ⟨st, 0, none⟩)) := (cell_of_row _ _ _ _ _ _ hxA).trans rfl
    have bA : Below w.heap.size w A := bd.trans (hA.mono (by omega))
    have zA := hA.size
    refine ⟨xA, ?_⟩
    have iA := (hi.frame (w' := A) fun q _ hl => hA.block q hl).without hxA
    have far : ∀ A', Kept (fun q => (F q ∧ q ≠ x) ∨ A.heap.size < q) (A.alloc (.cells (bt s k fi ea en ec) 30)) A' → w.heap.size ≤ A'.heap.size ∧ ∀ j, j < w.heap.size → ¬ F j → A'.heap[j]? = w.heap[j]? := fun A' hk => by
      have z2 : (A.alloc (.cells (bt s k fi ea en ec) 30)).heap.size = A.heap.size + 1 := by simp
      have := hk.size
      refine ⟨by omega, fun j hj hn => ?_⟩
      exact (hk.block j (by omega) (fun hg => by rcases hg with hg | hg; exact hn hg.1; omega)).trans ((Below.heap_alloc _ _ _ (by omega)).trans (bA.block j hj))
    refine (add_go iA s hs k hk fi hfi ea en ec es (fun q => (F q ∧ q ≠ x) ∨ A.heap.size < q) (fun q => Iff.rfl) (fun q hq => by have := hFl q hq.1; omega) (fun A' hk' => hv.1 A' (far A' hk').1 (far A' hk').2) (fun A' hk' b off hea => ?_) h16 hf16 hN).mono ?_
    · obtain ⟨hb1, hb2⟩ := hv.2 b off hea (by obtain ⟨_, _, e, _⟩ := hv.evl; cases e; omega)
      have z2 : (A.alloc (.cells (bt s k fi ea en ec) 30)).heap.size = A.heap.size + 1 := by simp
      exact hk'.block b (by omega) (fun hg => by rcases hg with hg | hg; exact hb2 hg.1; omega)
    · rintro e w4 ⟨rfl, k4, xs', av', pf', D1', D2', i4⟩
      have zk := k4.size
      have hx4 : w4.heap[x]? = some (.cells #[.pointer (some ⟨st, 0, none⟩)] 63 (0, 0)) := (k4.block x (by omega) (fun hf => hf.2 rfl)).trans hxA
      have hB4 : BBox w4 B s k fi (.slice ea en ec) := x1.same ((k4.block B (by omega) (fun hf => hFB hf.1)).trans (hA.block B (by omega)))
      have hfx := (by obtain ⟨st', _, hf, _⟩ := id h; exact hf : F x)
      refine ⟨rfl, ⟨(cell_of_row _ _ _ _ _ _ hx4).trans rfl, hB4.cells.1, hB4.cells.2.1, hB4.cells.2.2.1, hB4.cells.2.2.2.1⟩, (Kept.of_below bA).trans (k4.mono (fun q _ hq => hq.1)), st, hx4, ⟨.inl hfx, lt_of_block hx4⟩, mp, mk, xs', av', pf', D1', D2', i4.wide (fun q hq hl => ⟨hq.imp (fun h => h.1) (fun h => by omega), hl⟩)⟩)
  clear hx hi bw bd b1 z1 h hv hA hfit x1 hd hf16 hFB hxB xc hxl hFl h16 h1
  go_enter Try.func12, Try.ntmps12
  go_upto_region 3 with fail
  rw [← hw1, ← hB]
  clear hw1 hB
  go_region_held3 (fun w' => w'.cell? ⟨B, 0, none⟩ = some (sv s) ∧ w'.cell? ⟨B, 1, none⟩ = some (sv k) ∧ w'.cell? ⟨B, 2, none⟩ = some (.int .i64 (fi : Int)) ∧ w'.cell? ⟨B, 3, none⟩ = some (.slice ea en ec))
    (first | with_reducible exact unhide c0 | with_reducible exact unhide c11 | with_reducible exact (unhide c3).1)
    ((first
      | (go_at_call 23; refine (unhide CN).mono ?_; rintro e w2 ⟨rfl, hw2⟩; have HW2 := hide hw2; have c11 := hide (unhide c1 w2 hw2); clear hw2)
      | (go_at_call 26; refine (unhide CK2 w2 (unhide HW2)).mono ?_; rintro e w3 ⟨rfl, hb3⟩; have c3 := hide (unhide c2 w3 hb3); clear hb3)))
  all_goals
    have c33 := unhide c3
    have CA3 := hide (unhide CA w3 c33.2.2)
    have CA3d := hide (unhide CA w3.drew (c33.2.2.drew))
    clear c3 c2 c1 c0 c11 HC CN CK2 HW2 CA
    have y0 := (unhide CA3).1
    have y1 := hide ((unhide CA3d).1)
    have y2 := hide c33.1
    obtain ⟨g0, g1, g2, g3⟩ := c33.1
    clear c33
    go_upto_region 8 with fail
    clear y0 g0 g1 g2 g3
    go_region_held3 (fun w' => w'.cell? ⟨x, 0, none⟩ = some (.pointer (some ⟨st, 0, none⟩)) ∧ w'.cell? ⟨B, 0, none⟩ = some (sv s) ∧ w'.cell? ⟨B, 1, none⟩ = some (sv k) ∧ w'.cell? ⟨B, 2, none⟩ = some (.int .i64 (fi : Int)) ∧ w'.cell? ⟨B, 3, none⟩ = some (.slice ea en ec))
      (first | exact ⟨unhide y1, unhide y2⟩ | exact unhide y4)
      ((go_at_call 27; refine (unhide CA3d).2.mono ?_; rintro e w4 ⟨rfl, h4, h5, h6⟩; have y4 := hide h4; have HE := hide (And.intro h5 h6); clear h4 h5 h6))
    go_wp2
    go_ret
    exact ⟨rfl, unhide HE⟩
end Go.Proofs.Ytgpijeaehkabdaa

/-
  DERIVED. The index behind a batch, in plain words; the walks of Len and Version; a batch that goes in again.
-/
namespace Go.Proofs.Ytgpijeaehkabdaa
open Go.RowKit Go.Maps
set_option linter.unusedVariables false

def ents (s : List UInt8) : Nat → List Evn → List Ent
  | _, [] => []
  | f, e :: r => ⟨s, f, e⟩ :: ents s (f + 1) r
theorem ents_len (s : List UInt8) : ∀ (f : Nat) (es : List Evn), (ents s f es).length = es.length
  | _, [] => rfl
  | f, e :: r => by simp [ents, ents_len s (f + 1) r]
theorem pushN_all (s : List UInt8) : ∀ (es : List Evn) (I : Ix) (f : Nat), (I.pushN s f es).all = I.all ++ ents s f es
  | [], I, f => by simp [Ix.pushN, ents]
  | e :: r, I, f => by
    show ((I.push s f e).pushN s (f + 1) r).all = _
    rw [pushN_all s r]
    simp [Ix.push, ents]
theorem pushN_key (s : List UInt8) : ∀ (es : List Evn) (I : Ix) (f : Nat), (I.pushN s f es).key = I.key
  | [], I, f => rfl
  | e :: r, I, f => by
    show ((I.push s f e).pushN s (f + 1) r).key = _
    rw [pushN_key s r]; rfl
theorem added_all (I : Ix) (s k : List UInt8) (fi : Nat) (es : List Evn) : (I.added s k fi es).all = I.all ++ ents s fi es := by
  unfold Ix.added
  rw [pushN_all]
  unfold Ix.keyIf
  split <;> rfl
open Classical in
theorem added_key (I : Ix) (s k : List UInt8) (fi : Nat) (es : List Evn) (j : List UInt8) : (I.added s k fi es).key j = if k ≠ [] ∧ j = k then some ⟨s, fi, I.all.length, es.length⟩ else I.key j := by
  unfold Ix.added
  rw [pushN_key]
  unfold Ix.keyIf
  by_cases hk : k = []
  · rw [if_pos hk, if_neg (fun h => h.1 hk)]
  · rw [if_neg hk]
    show (if j = k then _ else _) = _
    by_cases hj : j = k
    · rw [if_pos hj, if_pos ⟨hk, hj⟩]
    · rw [if_neg hj, if_neg (fun h => hj h.2)]
theorem added_len (I : Ix) (s k : List UInt8) (fi : Nat) (es : List Evn) : (I.added s k fi es).all.length = I.all.length + es.length := by rw [added_all, List.length_append, ents_len]
def verL (l : List Ent) (t : List UInt8) : Nat := (l.filter fun x => x.s == t).length
theorem plc_verL : ∀ (l : List Ent) (t : List UInt8), (plc l t).length = verL l t := fun l t => by
  unfold plc verL
  rw [List.length_map]
  have key : ∀ (l : List Ent) (i : Nat), ((l.zipIdx i).filter fun x => x.1.s == t).length = (l.filter fun x => x.s == t).length := by
    intro l
    induction l with
    | nil => intro i; rfl
    | cons a r ih =>
      intro i
      simp only [List.zipIdx_cons, List.filter_cons]
      by_cases h : (a.s == t) = true
      · simp [h, ih]
      · simp [h, ih]
  exact key l 0
theorem ents_ver (s t : List UInt8) : ∀ (f : Nat) (es : List Evn), verL (ents s f es) t = if s = t then es.length else 0
  | _, [] => by simp [ents, verL]
  | f, e :: r => by
    have ih := ents_ver s t (f + 1) r
    unfold verL at ih ⊢
    simp only [ents, List.filter_cons]
    by_cases h : s = t
    · simp [h] at ih ⊢; exact ih
    · simp [h] at ih ⊢; exact ih
theorem added_ver (I : Ix) (s k : List UInt8) (fi : Nat) (es : List Evn) (t : List UInt8) : (I.added s k fi es).ver t = I.ver t + if s = t then es.length else 0 := by
  unfold Ix.ver
  rw [plc_verL, plc_verL, added_all]
  unfold verL
  rw [List.filter_append, List.length_append]
  congr 1
  exact ents_ver s t fi es
theorem ver_le (I : Ix) (t : List UInt8) : I.ver t ≤ I.all.length := plc_len _ _

theorem Got.far {w w' W : World} {F : Nat → Prop} {q : Nat} {es : List Evn} {ys : List (Evn × Nat)} (g : Got w w' q es ys) (hF : ∀ k, F k → k < w.heap.size) (hW : Below w'.heap.size w' W) (h16 : es.length ≤ 16) : EvFar F W (some ⟨q, 0, none⟩) es.length es.length es := by
  have hl : ys.length = es.length := by have := congrArg List.length g.evs; simpa using this
  have hq := g.blk.lt
  have hy : ∀ y ∈ ys, y.2 < w'.heap.size := fun y hy => (g.blk.2 y hy).1.lt
  have hz := hW.size
  refine ⟨fun A hA hk => ?_, fun b off e _ => ?_⟩
  · have b2 : EvBlk A q es.length ys := g.blk.same ((hk q (by omega) (fun hf => by have := hF q hf; have := g.hq; omega)).trans (hW.block q hq)) (fun y hyy => (hk y.2 (by have := hy y hyy; omega) (fun hf => by have := hF _ hf; have := g.new y hyy; omega)).trans (hW.block _ (hy y hyy)))
    have := b2.evl hl h16
    rwa [g.evs] at this
  · cases e
    exact ⟨by omega, fun hf => by have := hF q hf; have := g.hq; omega⟩

set_option maxRecDepth 20000 in
theorem Len_go {w : World} {F : Nat → Prop} {x N : Nat} {I : Ix} (h : IxAt w F x N I) : Calls Try.prog 14 #[.pointer (some ⟨x, 0, none⟩)] w fun e w' => e = .returned (.int .i64 (I.all.length : Int)) ∧ Below w.heap.size w w' := by
  obtain ⟨st, hx, _, mp, mk, xs, av, pf, D1, D2, hi⟩ := h
  obtain ⟨a, n, hav⟩ := hi.avs
  have hl : xs.length = I.all.length := by rw [← hi.all, List.length_map]
  rw [hl] at hav
  subst hav
  have CN := hide (now_go hx hi.stc ⟨a, _, n, rfl⟩)
  obtain ⟨L, hL⟩ : ∃ L, L = I.all.length := ⟨_, rfl⟩
  rw [← hL] at CN ⊢
  have f0 := field0 a L n (some mp) (some mk)
  have HB := hide ((Below.refl w.heap.size w).alloc (Nat.le_refl _) (.cells (stV (.slice a L n) (some mp) (some mk)) 68))
  clear hx hi hl hL
  go_enter Try.func14, Try.ntmps14
  go_wp2_with fail
  refine (unhide CN).mono ?_
  rintro e w1 ⟨rfl, rfl⟩
  go_wp2
  go_ret
  exact ⟨rfl, unhide HB⟩

set_option maxRecDepth 20000 in
theorem Version_go {w : World} {F : Nat → Prop} {x N : Nat} {I : Ix} (h : IxAt w F x N I) (s : List UInt8) (hs : s.length ≤ maxLen) : Calls Try.prog 17 #[.pointer (some ⟨x, 0, none⟩), sv s] w fun e w' => e = .returned (.int .i64 (I.ver s : Int)) ∧ Below w.heap.size w w' := by
  obtain ⟨st, hx, _, mp, mk, xs, av, pf, D1, D2, hi⟩ := h
  obtain ⟨a, n, hav⟩ := hi.avs
  subst hav
  have CN := hide (now_go hx hi.stc ⟨a, _, n, rfl⟩)
  have hb1 := (Below.refl w.heap.size w).alloc (Nat.le_refl _) (.cells (stV (.slice a xs.length n) (some mp) (some mk)) 68)
  have HB := hide hb1
  have VN := hide (version_go hi a xs.length n rfl s hs (w.alloc (.cells (stV (.slice a xs.length n) (some mp) (some mk)) 68)) (hb1.block mp hi.mpo.lt))
  clear hb1 hx hi
  go_enter Try.func17, Try.ntmps17
  go_wp2_with fail
  refine (unhide CN).mono ?_
  rintro e w1 ⟨rfl, rfl⟩
  go_wp2_with fail
  refine (unhide VN).mono ?_
  rintro e w2 ⟨rfl, b2⟩
  have HB2 := hide ((unhide HB).trans (b2.mono (by simp)))
  clear b2 VN
  go_wp2
  go_ret
  exact ⟨rfl, unhide HB2⟩
end Go.Proofs.Ytgpijeaehkabdaa

/-
  DERIVED. The walk of awake.
-/
namespace Go.Proofs.Ytgpijeaehkabdaa
open Go.RowKit Go.Maps
set_option linter.unusedVariables false

abbrev opS : List UInt8 := [111, 112, 101, 110, 101, 100]
def opE : Evn := ⟨opS, 1, []⟩
theorem opE_ok : okEv opE := ⟨by unfold okName opE; decide, by unfold opE; decide, by unfold opE; decide, by unfold opE; decide, fun j hj => by simp [opE] at hj⟩
theorem opE_fit : fitE opE := ⟨by unfold opE; decide, fun f hf => by simp [opE] at hf⟩
theorem opE_16 : opE.fields.length ≤ 16 := by unfold opE; decide

/-- One or two such events in a block. -/
theorem evl_one {w : World} {b : Nat} (h : w.heap[b]? = some (.cells (ev opS 1 none 0 0) 43 (0, 0))) : EvL w (.slice (some ⟨b, 0, none⟩) 1 1) [opE] := by
  refine ⟨some ⟨b, 0, none⟩, 1, rfl, by decide, by decide, fun _ => ⟨b, 0, rfl, lt_of_block h, fun i hi => ?_⟩⟩
  obtain rfl : i = 0 := by simp at hi; exact hi
  exact ⟨(cell_of_row _ _ _ _ _ _ h).trans rfl, (cell_of_row _ _ _ _ _ _ h).trans rfl, none, 0, 0, (cell_of_row _ _ _ _ _ _ h).trans rfl, none, 0, rfl, Nat.le_refl 0, by decide, fun h => absurd rfl h⟩
theorem evl_two {w : World} {b : Nat} (h : w.heap[b]? = some (.cells #[sv opS, .int .i64 1, .slice none 0 0, sv opS, .int .i64 1, .slice none 0 0] 43 (0, 0))) : EvL w (.slice (some ⟨b, 0, none⟩) 2 2) [opE, opE] := by
  refine ⟨some ⟨b, 0, none⟩, 2, rfl, by decide, by decide, fun _ => ⟨b, 0, rfl, lt_of_block h, fun i hi => ?_⟩⟩
  have hi2 : i = 0 ∨ i = 1 := by simp at hi; omega
  rcases hi2 with rfl | rfl
  · exact ⟨(cell_of_row _ _ _ _ _ _ h).trans rfl, (cell_of_row _ _ _ _ _ _ h).trans rfl, none, 0, 0, (cell_of_row _ _ _ _ _ _ h).trans rfl, none, 0, rfl, Nat.le_refl 0, by decide, fun h => absurd rfl h⟩
  · exact ⟨(cell_of_row _ _ _ _ _ _ h).trans rfl, (cell_of_row _ _ _ _ _ _ h).trans rfl, none, 0, 0, (cell_of_row _ _ _ _ _ _ h).trans rfl, none, 0, rfl, Nat.le_refl 0, by decide, fun h => absurd rfl h⟩

noncomputable def aw1 : Ix := Ix.new.added [97] [107] 0 [opE, opE]
theorem aw_try : tryOk Ix.new [97] (-1) [107] [opE, opE] := ⟨by unfold okNames; decide, rfl, ⟨by decide, by decide, fun e he => by simp at he; rw [he]; exact opE_ok⟩, by decide, .inl rfl⟩
theorem aw_ver0 : Ix.new.ver [97] = 0 := rfl
theorem aw_chk : chkA Ix.new [97] [107] (0 : Nat) [opE, opE] = 0 := by
  unfold chkA
  rw [if_neg (fun h => h aw_try.1), if_neg (by simp [Ix.new]), if_neg (fun h => h aw_try.2.2.1), if_neg (fun h => h rfl)]
theorem aw_again : tryA aw1 [97] 7 [107] [] = (apV 0 0 2 true, 0) := by
  unfold tryA
  rw [if_neg (fun h => h (by unfold okNames; decide))]
  have : aw1.key [107] = some ⟨[97], 0, 0, 2⟩ := by unfold aw1; rw [added_key, if_pos ⟨by decide, rfl⟩]; rfl
  rw [this]
  simp only []
  rw [if_neg (fun h => h rfl)]
  rfl
theorem aw_ver : tryA aw1 [98] 1 [] [opE] = (apV 0 0 0 false, 103) := by
  unfold tryA
  rw [if_neg (fun h => h (by unfold okNames; decide))]
  have : aw1.key [] = none := by unfold aw1; rw [added_key, if_neg (by decide)]; rfl
  have hv : aw1.ver [98] = 0 := by unfold aw1; rw [added_ver, if_neg (by decide)]; rfl
  rw [this, hv]
  simp only []
  rw [if_neg (fun h => h ⟨by decide, by decide, fun e he => by simp at he; rw [he]; exact opE_ok⟩), if_neg (by decide), if_pos (by decide)]
theorem aw_len : aw1.all.length = 2 := by unfold aw1; rw [added_len]; rfl

set_option maxRecDepth 20000 in
set_option maxHeartbeats 4000000 in
theorem awake_go (w : World) : Calls Try.prog 9 #[] w fun e w' => e = .returned (.bool true) ∧ Below w.heap.size w w' := by
  go_enter Try.func9, Try.ntmps9
  go_wp2_with fail
  refine (New_go w).mono ?_
  rintro e w1 ⟨x, rfl, hi1, b1⟩
  obtain ⟨F, hF⟩ : ∃ F : Nat → Prop, F = (fun k => w.heap.size ≤ k ∧ k < w1.heap.size) := ⟨_, rfl⟩
  rw [← hF] at hi1
  have hFl : ∀ q, F q → w.heap.size ≤ q ∧ q < w1.heap.size := fun q hq => by rw [hF] at hq; exact hq
  have HI1 := hide hi1
  have B1 := hide b1
  have HFL := hide hFl
  clear hi1 b1 hFl hF
  go_wp2_with fail
  refine (Opened_go w1).mono ?_
  rintro e w2 ⟨rfl, b2⟩
  have B2 := hide b2
  clear b2
  go_wp2_with fail
  refine (Opened_go w2).mono ?_
  rintro e w3 ⟨rfl, b3⟩
  have B3 := hide ((unhide B2).trans (b3.mono (unhide B2).size))
  clear b3 B2
  go_wp2_with fail
  obtain ⟨w4, hw4⟩ : ∃ w4, w4 = w3.alloc (.cells #[sv [111, 112, 101, 110, 101, 100], .int .i64 1, .slice none 0 0, sv [111, 112, 101, 110, 101, 100], .int .i64 1, .slice none 0 0] 43) := ⟨_, rfl⟩
  have b4 : Below w1.heap.size w1 w4 := by rw [hw4]; exact (unhide B3).alloc (unhide B3).size _
  have l4 : EvL w4 (.slice (some ⟨w3.heap.size, 0, none⟩) 2 2) [opE, opE] := evl_two (by rw [hw4]; exact heap_alloc_self _ _)
  have i4 : IxAt w4 F x 0 Ix.new := (unhide HI1).frame fun q _ hl => b4.block q hl
  rw [← hw4]
  clear hw4
  have HI4 := hide i4
  have B4 := hide b4
  have C4 := hide (Try_ok i4 [97] (by decide) (-1) [107] (by decide) _ 2 2 [opE, opE] l4 (fun e he => by simp at he; rw [he]; exact opE_fit) (fun e he => by simp at he; rw [he]; exact opE_16) aw_try)
  clear i4 b4 l4 B3 HI1
  refine (unhide C4).mono ?_
  clear C4
  rintro e w5 ⟨q, ys, rfl, b5, g5⟩
  rw [aw_ver0, show Ix.new.all.length = 0 from rfl]
  have B5 := hide b5
  have G5 := hide g5
  have HI5 := hide ((unhide HI4).frame (w' := w5) fun q _ hl => b5.block q hl)
  clear b5 g5 HI4
  simp only [List.length_cons, List.length_nil, Nat.zero_add, Nat.reduceAdd]
  go_wp2_with fail
  obtain ⟨w6, hw6⟩ : ∃ w6, w6 = (w5.alloc (.cells (apV 0 0 2 false) 27)).alloc (.cells (bt [97] [107] 0 (some ⟨q, 0, none⟩) 2 2) 30) := ⟨_, rfl⟩
  have b6 : Below w5.heap.size w5 w6 := by rw [hw6]; exact ((Below.refl _ _).alloc (Nat.le_refl _) _).alloc (by simp) _
  have z6 : w6.heap.size = w5.heap.size + 2 := by rw [hw6]; simp
  have a6 : ABox w6 w5.heap.size 0 0 2 false := by unfold ABox; rw [hw6, Below.heap_alloc _ _ _ (by simp)]; exact heap_alloc_self _ _
  have i6 : IxAt w6 F x 0 Ix.new := (unhide HI5).frame fun q _ hl => b6.block q hl
  have hF6 : ∀ q, F q → q < w4.heap.size := fun q hq => by have := (unhide HFL q hq).2; have := (unhide B4).size; omega
  have f6 := (unhide G5).far hF6 b6 (by decide)
  have hs5 := (unhide B5).size
  have C6 := hide (Add_ok i6 (fun q hq => by have := hF6 q hq; omega) (by decide) [97] (by decide) 0 (by decide) [107] (by decide) _ 2 2 [opE, opE] f6 (fun e he => by simp at he; rw [he]; exact opE_fit) (fun e he => by simp at he; rw [he]; exact opE_16) aw_chk (by decide) (by decide))
  have hst : w.heap.size ≤ w5.heap.size := by have := (unhide B1).size; have := (unhide B4).size; omega
  have HW : Hid (∀ w7, Kept F w6 w7 → ABox w7 w5.heap.size 0 0 2 false ∧ Below w.heap.size w w7) := hide (fun w7 k7 => by
    have k5 : w.heap.size ≤ w1.heap.size := (unhide B1).size
    have k4 := (unhide B4).size
    refine ⟨a6.same (k7.block _ (by omega) (fun hf => by have := hF6 _ hf; omega)), ?_⟩
    have t1 : Below w.heap.size w w4 := (unhide B1).trans ((unhide B4).mono k5)
    have t2 : Below w.heap.size w w5 := t1.trans ((unhide B5).mono (by omega))
    have t3 : Below w.heap.size w w6 := t2.trans (b6.mono (by omega))
    exact t3.trans (k7.below (by omega) (fun q hq => (unhide HFL q hq).1)))
  rw [← hw6]
  clear hw6 b6 a6 i6 hF6 f6 HI5 G5
  refine (unhide C6).mono ?_
  clear C6
  rintro e w7 ⟨rfl, k7, i7⟩
  have H7 := hide (unhide HW w7 k7)
  have i7' : IxAt w7 (fun q => (F q ∨ w6.heap.size ≤ q) ∧ q < w7.heap.size) x 3 aw1 := i7
  have HI7 := hide i7'
  clear k7 i7 i7' HW
  go_wp2_with fail
  refine (Try_bad (unhide HI7) [97] (by decide) 7 [107] (by decide) none 0 0 [] (EvL.nil _) (fun e he => by simp at he) 0 0 2 true 0 aw_again (.inr rfl)).mono ?_
  rintro e w8 ⟨rfl, b8⟩
  have B8 := hide b8
  have HI8 := hide ((unhide HI7).frame (w' := w8) fun q _ hl => b8.block q hl)
  have H8 := hide (And.intro ((unhide H7).1.same (b8.block _ (lt_of_block (unhide H7).1))) ((unhide H7).2.trans (b8.mono (unhide H7).2.size)))
  clear b8 H7 HI7 B8
  go_wp2_with fail
  obtain ⟨w9, hw9⟩ : ∃ w9, w9 = (w8.alloc (.cells (apV 0 0 2 true) 27)).alloc (.cells (bt [] [] 0 none 0 0) 30) := ⟨_, rfl⟩
  have b9 : Below w8.heap.size w8 w9 := by rw [hw9]; exact ((Below.refl _ _).alloc (Nat.le_refl _) _).alloc (by simp) _
  have a9 : ABox w9 w8.heap.size 0 0 2 true := by unfold ABox; rw [hw9, Below.heap_alloc _ _ _ (by simp)]; exact heap_alloc_self _ _
  have HI9 := hide ((unhide HI8).frame (w' := w9) fun q _ hl => b9.block q hl)
  have H9 := hide (And.intro ((unhide H8).1.same (b9.block _ (lt_of_block (unhide H8).1))) (And.intro a9 ((unhide H8).2.trans (b9.mono (unhide H8).2.size))))
  rw [← hw9]
  clear hw9 b9 a9 HI8 H8
  refine (Opened_go w9).mono ?_
  rintro e w10 ⟨rfl, b10⟩
  have H10 := hide (And.intro ((unhide H9).1.same (b10.block _ (lt_of_block (unhide H9).1))) (And.intro ((unhide H9).2.1.same (b10.block _ (lt_of_block (unhide H9).2.1))) ((unhide H9).2.2.trans (b10.mono (unhide H9).2.2.size))))
  have HI10 := hide ((unhide HI9).frame (w' := w10) fun q _ hl => b10.block q hl)
  clear b10 H9 HI9
  go_wp2_with fail
  obtain ⟨w11, hw11⟩ : ∃ w11, w11 = w10.alloc (.cells (ev [111, 112, 101, 110, 101, 100] 1 none 0 0) 43) := ⟨_, rfl⟩
  have b11 : Below w10.heap.size w10 w11 := by rw [hw11]; exact (Below.refl _ _).alloc (Nat.le_refl _) _
  have l11 : EvL w11 (.slice (some ⟨w10.heap.size, 0, none⟩) 1 1) [opE] := evl_one (by rw [hw11]; exact heap_alloc_self _ _)
  have H11 := hide (And.intro ((unhide H10).1.same (b11.block _ (lt_of_block (unhide H10).1))) (And.intro ((unhide H10).2.1.same (b11.block _ (lt_of_block (unhide H10).2.1))) ((unhide H10).2.2.trans (b11.mono (unhide H10).2.2.size))))
  have i11 := (unhide HI10).frame (w' := w11) fun q _ hl => b11.block q hl
  have HI11 := hide i11
  have C11 := hide (Try_bad i11 [98] (by decide) 1 [] (by decide) _ 1 1 [opE] l11 (fun e he => by simp at he; rw [he]; exact opE_fit) 0 0 0 false 103 aw_ver (.inl (by decide)))
  rw [← hw11]
  clear hw11 b11 l11 i11 HI10 H10
  refine (unhide C11).mono ?_
  clear C11
  rintro e w12 ⟨rfl, b12⟩
  have H12 := hide (And.intro ((unhide H11).1.same (b12.block _ (lt_of_block (unhide H11).1))) (And.intro ((unhide H11).2.1.same (b12.block _ (lt_of_block (unhide H11).2.1))) ((unhide H11).2.2.trans (b12.mono (unhide H11).2.2.size))))
  have HI12 := hide ((unhide HI11).frame (w' := w12) fun q _ hl => b12.block q hl)
  clear b12 H11 HI11
  obtain ⟨w13, hw13⟩ : ∃ w13, w13 = (w12.alloc (.cells (apV 0 0 0 false) 27)).alloc (.cells (bt [] [] 0 none 0 0) 30) := ⟨_, rfl⟩
  have b13 : Below w12.heap.size w12 w13 := by rw [hw13]; exact ((Below.refl _ _).alloc (Nat.le_refl _) _).alloc (by simp) _
  have H13 := And.intro ((unhide H12).1.same (b13.block _ (lt_of_block (unhide H12).1))) (And.intro ((unhide H12).2.1.same (b13.block _ (lt_of_block (unhide H12).2.1))) ((unhide H12).2.2.trans (b13.mono (unhide H12).2.2.size)))
  have HI13 := hide ((unhide HI12).frame (w' := w13) fun q _ hl => b13.block q hl)
  obtain ⟨c0, c1, c2, c3, c4⟩ := H13.1.cells
  obtain ⟨d0, d1, d2, d3, d4⟩ := H13.2.1.cells
  have BB := hide H13.2.2
  clear b13 H12 HI12 H13
  go_upto_region 8 with fail
  rw [← hw13]
  clear hw13
  go_wp2_with fail
  refine (Len_go (unhide HI13)).mono ?_
  rintro e w14 ⟨rfl, b14⟩
  rw [aw_len]
  have B14 := hide ((unhide BB).trans (b14.mono (unhide BB).size))
  clear b14 BB HI13 c0 c1 c2 c3 c4 d0 d1 d2 d3 d4
  go_wp2
  go_ret
  exact ⟨rfl, unhide B14⟩
end Go.Proofs.Ytgpijeaehkabdaa

/-
  DERIVED. The walk of Index.Keyed.
-/
namespace Go.Proofs.Ytgpijeaehkabdaa
open Go.RowKit Go.Maps
set_option linter.unusedVariables false

def kdS : Option Kd → List UInt8
  | none => []
  | some d => d.s
def kdF : Option Kd → Array Value
  | none => apV 0 0 0 false
  | some d => apV d.first d.pos d.cnt false

set_option maxRecDepth 20000 in
theorem keyed_raw {w : World} {F : Nat → Prop} {x N : Nat} {I : Ix} (h : IxAt w F x N I) (s : List UInt8) (hs : s.length ≤ maxLen) (ks : List UInt8) (f p c : Int) (ok : Bool) (hkd : kdV (I.key s) = .agg (kdA ks f p c false)) (hok : (I.key s).isSome = ok) :
    Calls Try.prog 19 #[.pointer (some ⟨x, 0, none⟩), sv s] w fun e w' => e = .returned (.tuple #[sv ks, .agg (apV f p c false), .bool ok]) ∧ Below w.heap.size w w' := by
  obtain ⟨wa, hwa⟩ : ∃ wa, wa = w.alloc (.cells (apV 0 0 0 false) 27) := ⟨_, rfl⟩
  have ba : Below w.heap.size w wa := by rw [hwa]; exact (Below.refl _ _).alloc (Nat.le_refl _) _
  have za : wa.heap.size = w.heap.size + 1 := by rw [hwa]; simp
  obtain ⟨st, hx, _, mp, mk, xs, av, pf, D1, D2, hi⟩ := h.frame (w' := wa) fun q _ hl => ba.block q hl
  obtain ⟨a, n, hav⟩ := hi.avs
  subst hav
  have CN := hide (now_go hx hi.stc ⟨a, _, n, rfl⟩)
  obtain ⟨L, hL⟩ : ∃ L, L = xs.length := ⟨_, rfl⟩
  rw [← hL] at CN
  have f2 := field2 a L n (some mp) (some mk)
  obtain ⟨w2, hw2⟩ : ∃ w2, w2 = wa.alloc (.cells (stV (.slice a L n) (some mp) (some mk)) 68) := ⟨_, rfl⟩
  have b2 : Below w.heap.size w w2 := by rw [hw2]; exact ba.alloc (by omega) _
  have z2 : w2.heap.size = w.heap.size + 2 := by rw [hw2]; simp; omega
  have HA : ABox w2 w.heap.size 0 0 0 false := by unfold ABox; rw [hw2, Below.heap_alloc _ _ _ (by omega), hwa]; exact heap_alloc_self _ _
  have hl := hi.lookK (W := w2) (by rw [hw2]; exact Below.heap_alloc _ _ _ hi.mko.lt) s hs
  rw [hkd, hok] at hl
  have HP := hide ((HA.same (Below.heap_alloc w2 (.cells (kdA ks f p c false) 84) w.heap.size (by omega))).put f p c false)
  have HB := hide (below_put (b2.alloc b2.size (.cells (kdA ks f p c false) 84)) (Nat.le_refl w.heap.size) f p c false)
  obtain ⟨w3, hw3⟩ : ∃ w3, w3 = w2.alloc (.cells (kdA ks f p c false) 84) := ⟨_, rfl⟩
  rw [← hw3] at HP HB
  have HK : w3.heap[w2.heap.size]? = some (.cells (kdA ks f p c false) 84 (0, 0)) := by rw [hw3]; exact heap_alloc_self _ _
  have HA3 : ABox w3 w.heap.size 0 0 0 false := by rw [hw3]; exact HA.same (Below.heap_alloc _ _ _ (by omega))
  obtain ⟨a0, a1, a2, a3, a4⟩ := HA3.cells
  have k0 : w3.cell? ⟨w2.heap.size, 0, none⟩ = some (sv ks) := (cell_of_row _ _ _ _ _ _ HK).trans rfl
  have k1 : w3.cell? ⟨w2.heap.size, 1, none⟩ = some (.int .i64 f) := (cell_of_row _ _ _ _ _ _ HK).trans rfl
  have k2 : w3.cell? ⟨w2.heap.size, 2, none⟩ = some (.int .i64 p) := (cell_of_row _ _ _ _ _ _ HK).trans rfl
  have k3 : w3.cell? ⟨w2.heap.size, 3, none⟩ = some (.int .i64 c) := (cell_of_row _ _ _ _ _ _ HK).trans rfl
  have k4 : w3.cell? ⟨w2.heap.size, 4, none⟩ = some (.bool false) := (cell_of_row _ _ _ _ _ _ HK).trans rfl
  have Z2 := hide z2
  clear b2 HA HA3 HK z2 h hx hi hL hkd hok ba za
  go_enter Try.func19, Try.ntmps19
  go_wp2_with fail
  rw [← hwa]
  refine (unhide CN).mono ?_
  rintro e w1 ⟨rfl, rfl⟩
  rw [← hw2]
  clear hw2 CN hwa
  go_upto_region 2 with fail
  rw [← hw3]
  clear hw3 hl
  obtain ⟨kb, hkb⟩ : ∃ kb, kb = w2.heap.size := ⟨_, rfl⟩
  rw [← hkb] at k0 k1 k2 k3 k4 ⊢
  have hne : ¬ kb = w.heap.size := by have := unhide Z2; omega
  clear hkb
  go_region
  all_goals
    go_wp2
    exact bodyPost_ret (results_tct rfl _ _ w.heap.size 27 (apV f p c false) (0, 0) _ (sv ks) (.bool ok) rfl rfl rfl (unhide HP) Try.underlying27 rfl sizeApp) rfl ⟨rfl, (unhide HB).drew⟩

theorem Keyed_go {w : World} {F : Nat → Prop} {x N : Nat} {I : Ix} (h : IxAt w F x N I) (s : List UInt8) (hs : s.length ≤ maxLen) :
    Calls Try.prog 19 #[.pointer (some ⟨x, 0, none⟩), sv s] w fun e w' => e = .returned (.tuple #[sv (kdS (I.key s)), .agg (kdF (I.key s)), .bool (I.key s).isSome]) ∧ Below w.heap.size w w' := by
  cases hk : I.key s with
  | none => exact keyed_raw h s hs [] 0 0 0 false (by rw [hk]; rfl) (by rw [hk]; rfl)
  | some d => exact keyed_raw h s hs d.s d.first d.pos d.cnt true (by rw [hk]; rfl) (by rw [hk]; rfl)
end Go.Proofs.Ytgpijeaehkabdaa

/-
  DERIVED. Words for the laws: how what came in is opened.
-/
namespace Go.Proofs.Ytgpijeaehkabdaa
open Go.ChangeShapes Go.WideShapes Go.ChangeAt Go.RowKit
set_option linter.unusedVariables false

theorem own_knob : ownKnob Try.prog.godebug = none := by kernel_rfl
theorem laid_out : laidOutB Try.prog = true := by kernel_rfl
end Go.Proofs.Ytgpijeaehkabdaa

/-
  DERIVED. How fields, events and the calls of a law on streams are opened.
-/
namespace Go.Proofs.Ytgpijeaehkabdaa
open Go.ChangeShapes Go.WideShapes Go.ChangeAt Go.RowKit
set_option linter.unusedVariables false

theorem Try.cellsFld : Try.prog.cellsOf 92 = 4 := by kernel_rfl
theorem Try.cellsEv : Try.prog.cellsOf 43 = 3 := by kernel_rfl
theorem Try.cellsStr : Try.prog.cellsOf 9 = 1 := by kernel_rfl
theorem Try.cellsBool : Try.prog.cellsOf 4 = 1 := by kernel_rfl
theorem Try.cellsInt : Try.prog.cellsOf 3 = 1 := by kernel_rfl

theorem Try.underFld : ∃ f0 f1 f2 f3, Try.prog.underlying 92 = some (.struct #[f0, f1, f2, f3]) ∧ (f0.offset = 0 ∧ f1.offset = 1 ∧ f2.offset = 2 ∧ f3.offset = 3) ∧ f0.type = 9 ∧ f1.type = 4 ∧ f2.type = 3 ∧ f3.type = 9 := ⟨_, _, _, _, Try.underlying92, ⟨rfl, rfl, rfl, rfl⟩, rfl, rfl, rfl, rfl⟩
theorem Try.underEv : ∃ f0 f1 f2, Try.prog.underlying 43 = some (.struct #[f0, f1, f2]) ∧ Go.Deep.oneCellFields Try.prog #[f0, f1, f2] = true ∧ f0.type = 9 ∧ f1.type = 3 ∧ f2.type = 41 := ⟨_, _, _, Try.underlying43, by kernel_rfl, rfl, rfl, rfl⟩

instance : Inhabited Fld := ⟨⟨[], false, 0, []⟩⟩

theorem str_list (s : ByteArray) : Value.string s = sv s.data.toList := by
  show Value.string s = Value.string ⟨s.data.toList.toArray⟩
  simp

set_option maxRecDepth 100000 in
theorem open_fields {H : Type} {enc : TypeId × Value → H} {W : World} {v : Value} {y : DataW H × List MemPlace} {fuel : Nat}
    (hf : DataW.trod enc Try.prog W 0 (fun _ => true) true fuel 41 [v] = some y) : ∃ a n c fs, v = .slice a n c ∧ FdL W (.slice a n c) fs ∧ ∀ f ∈ fs, fits f ∧ (-9223372036854775808 ≤ f.n ∧ f.n ≤ 9223372036854775807) := by
  obtain ⟨f0, f1, f2, f3, hu, ⟨o0, o1, o2, o3⟩, t0, t1, t2, t3⟩ := Try.underFld
  rcases Go.Deep.open_slice Try.underlying41 hf with ⟨hcs, hx⟩ | ⟨x, n, cap, m, k, D, Pl, hcs, _, hl, hm, hz, hx, hcell⟩
  · simp only [List.cons.injEq, and_true] at hcs
    subst hcs
    exact ⟨_, _, _, [], rfl, ⟨none, 0, rfl, by simp, by omega, fun h => by simp at h⟩, fun f hf => by simp at hf⟩
  · simp only [List.cons.injEq, and_true] at hcs
    subst hcs
    rw [if_pos rfl] at hz
    subst hz
    unfold maxLen at hm
    have hel : ∀ i, i < n → ∃ f : Fld, (fits f ∧ (-9223372036854775808 ≤ f.n ∧ f.n ≤ 9223372036854775807)) ∧ W.cell? (x.add (i * 4)) = some (sv f.name) ∧ W.cell? (x.add (i * 4 + 1)) = some (.bool f.text) ∧ W.cell? (x.add (i * 4 + 2)) = some (.int .i64 f.n) ∧ W.cell? (x.add (i * 4 + 3)) = some (sv f.s) := by
      intro i hi
      obtain ⟨cs, q1, q2⟩ := hcell i (by omega)
      rw [Try.cellsFld] at q1
      obtain ⟨_, hlen, hc⟩ := World.cells?_some q1
      match cs, hlen with
      | [c0, c1, c2, c3], _ =>
        obtain ⟨xs, k', _, _, _, hxl, hfl⟩ := DataW.trod_struct hu q2
        match xs, hxl with
        | [x0, x1, x2, x3], _ =>
          have g0 := hfl 0 f0 rfl
          have g1 := hfl 1 f1 rfl
          have g2 := hfl 2 f2 rfl
          have g3 := hfl 3 f3 rfl
          rw [o0, t0, Try.cellsStr] at g0
          rw [o1, t1, Try.cellsBool] at g1
          rw [o2, t2, Try.cellsInt] at g2
          rw [o3, t3, Try.cellsStr] at g3
          obtain ⟨s0, e0, _, w0⟩ := DataW.trod_string Try.underlying9 g0
          obtain ⟨s1, e1, _⟩ := DataW.trod_bool Try.underlying4 g1
          obtain ⟨s2, e2, _, w2⟩ := DataW.trod_int Try.underlying3 g2
          have bn := bounds_i64 w2
          obtain ⟨s3, e3, _, w3⟩ := DataW.trod_string Try.underlying9 g3
          simp at e0 e1 e2 e3
          subst e0 e1 e2 e3
          unfold maxLen at w0 w3
          have l0 : s0.data.toList.length = s0.size := by rw [Array.length_toList]; rfl
          have l3 : s3.data.toList.length = s3.size := by rw [Array.length_toList]; rfl
          have k0 := hc 0 (by omega)
          have k1 := hc 1 (by omega)
          have k2 := hc 2 (by omega)
          have k3 := hc 3 (by omega)
          rw [Go.Deep.add_add] at k0 k1 k2 k3
          refine ⟨⟨s0.data.toList, s1, s2, s3.data.toList⟩, ⟨⟨by show s0.data.toList.length ≤ _; omega, by show s3.data.toList.length ≤ _; omega⟩, ⟨by show _ ≤ s2; omega, by show s2 ≤ _; omega⟩⟩, ?_, ?_, ?_, ?_⟩
          · rw [← str_list]; exact k0
          · exact k1
          · exact k2
          · rw [← str_list]; exact k3
    obtain ⟨F, hF⟩ := Go.Deep.choose_lt (α := Fld) hel
    have hlen : ((List.range n).map F).length = n := by simp
    refine ⟨some x, n, _, (List.range n).map F, rfl, ⟨some x, _, by rw [hlen], by rw [hlen]; exact hl, by omega, fun hz => ?_⟩, ?_⟩
    · rw [hlen] at hz
      have h0 := (hF 0 (by omega)).2.1
      have hsp := World.cell?_spot h0
      obtain ⟨b, off, sp⟩ := x
      have hsp' : sp = none := by
        cases sp with
        | none => rfl
        | some k => simp [Addr.add] at hsp
      subst hsp'
      refine ⟨b, off, rfl, ?_, fun i hi => ?_⟩
      · rw [addr_add] at h0
        exact World.block_lt_of_cell? W ⟨b, off + 0 * 4, none⟩ h0
      · have hi' : i < n := by rw [hlen] at hi; exact hi
        obtain ⟨_, q0, q1, q2, q3⟩ := hF i hi'
        rw [addr_add] at q0 q1 q2 q3
        have e : ((List.range n).map F)[i] = F i := by simp
        rw [e]
        exact ⟨q0, by rw [Nat.add_assoc]; exact q1, by rw [Nat.add_assoc]; exact q2, by rw [Nat.add_assoc]; exact q3⟩
    · intro f hf
      obtain ⟨i, hi, rfl⟩ := List.mem_map.1 hf
      exact (hF i (by simpa using hi)).1

theorem Try.underEv2 : ∃ f0 f1 f2, Try.prog.underlying 43 = some (.struct #[f0, f1, f2]) ∧ (f0.offset = 0 ∧ f1.offset = 1 ∧ f2.offset = 2) ∧ f0.type = 9 ∧ f1.type = 3 ∧ f2.type = 41 := ⟨_, _, _, Try.underlying43, ⟨rfl, rfl, rfl⟩, rfl, rfl, rfl⟩
theorem Try.cellsFds : Try.prog.cellsOf 41 = 1 := by kernel_rfl
theorem Try.cellsEvs : Try.prog.cellsOf 28 = 1 := by kernel_rfl

instance : Inhabited Evn := ⟨⟨[], 0, []⟩⟩

set_option maxRecDepth 100000 in
theorem open_events {H : Type} {enc : TypeId × Value → H} {W : World} {v : Value} {y : DataW H × List MemPlace} {fuel : Nat}
    (hf : DataW.trod enc Try.prog W 0 (fun _ => true) true fuel 28 [v] = some y) : ∃ a n c es, v = .slice a n c ∧ EvL W (.slice a n c) es ∧ ∀ e ∈ es, fitE e := by
  obtain ⟨f0, f1, f2, hu, ⟨o0, o1, o2⟩, t0, t1, t2⟩ := Try.underEv2
  rcases Go.Deep.open_slice Try.underlying28 hf with ⟨hcs, hx⟩ | ⟨x, n, cap, m, k, D, Pl, hcs, _, hl, hm, hz, hx, hcell⟩
  · simp only [List.cons.injEq, and_true] at hcs
    subst hcs
    exact ⟨_, _, _, [], rfl, ⟨none, 0, rfl, by simp, by omega, fun h => by simp at h⟩, fun f hf => by simp at hf⟩
  · simp only [List.cons.injEq, and_true] at hcs
    subst hcs
    rw [if_pos rfl] at hz
    subst hz
    unfold maxLen at hm
    have hel : ∀ i, i < n → ∃ e : Evn, fitE e ∧ W.cell? (x.add (i * 3)) = some (sv e.type) ∧ W.cell? (x.add (i * 3 + 1)) = some (.int .i64 e.ver) ∧ ∃ a' n' c', W.cell? (x.add (i * 3 + 2)) = some (.slice a' n' c') ∧ FdL W (.slice a' n' c') e.fields := by
      intro i hi
      obtain ⟨cs, q1, q2⟩ := hcell i (by omega)
      rw [Try.cellsEv] at q1
      obtain ⟨_, hlen, hc⟩ := World.cells?_some q1
      match cs, hlen with
      | [c0, c1, c2], _ =>
        obtain ⟨xs, k', _, _, _, hxl, hfl⟩ := DataW.trod_struct hu q2
        match xs, hxl with
        | [x0, x1, x2], _ =>
          have g0 := hfl 0 f0 rfl
          have g1 := hfl 1 f1 rfl
          have g2 := hfl 2 f2 rfl
          rw [o0, t0, Try.cellsStr] at g0
          rw [o1, t1, Try.cellsInt] at g1
          rw [o2, t2, Try.cellsFds] at g2
          obtain ⟨s0, e0, _, w0⟩ := DataW.trod_string Try.underlying9 g0
          obtain ⟨s1, e1, _, _⟩ := DataW.trod_int Try.underlying3 g1
          simp at e0 e1
          subst e0 e1
          simp at g2
          obtain ⟨a', n', c', fs, rfl, h1, h2⟩ := open_fields g2
          unfold maxLen at w0
          have l0 : s0.data.toList.length = s0.size := by rw [Array.length_toList]; rfl
          have k0 := hc 0 (by omega)
          have k1 := hc 1 (by omega)
          have k2 := hc 2 (by omega)
          rw [Go.Deep.add_add] at k0 k1 k2
          refine ⟨⟨s0.data.toList, s1, fs⟩, ⟨by show s0.data.toList.length ≤ _; omega, fun f hf => (h2 f hf).1⟩, ?_, ?_, a', n', c', ?_, h1⟩
          · rw [← str_list]; exact k0
          · exact k1
          · exact k2
    obtain ⟨F, hF⟩ := Go.Deep.choose_lt (α := Evn) hel
    have hlen : ((List.range n).map F).length = n := by simp
    refine ⟨some x, n, _, (List.range n).map F, rfl, ⟨some x, _, by rw [hlen], by rw [hlen]; exact hl, by omega, fun hz => ?_⟩, ?_⟩
    · rw [hlen] at hz
      have h0 := (hF 0 (by omega)).2.1
      have hsp := World.cell?_spot h0
      obtain ⟨b, off, sp⟩ := x
      have hsp' : sp = none := by
        cases sp with
        | none => rfl
        | some k => simp [Addr.add] at hsp
      subst hsp'
      refine ⟨b, off, rfl, ?_, fun i hi => ?_⟩
      · rw [addr_add] at h0
        exact World.block_lt_of_cell? W ⟨b, off + 0 * 3, none⟩ h0
      · have hi' : i < n := by rw [hlen] at hi; exact hi
        obtain ⟨_, q0, q1, a', n', c', q2, q3⟩ := hF i hi'
        rw [addr_add] at q0 q1 q2
        have e : ((List.range n).map F)[i] = F i := by simp
        rw [e]
        exact ⟨q0, by rw [Nat.add_assoc]; exact q1, a', n', c', by rw [Nat.add_assoc]; exact q2, q3⟩
    · intro f hf
      obtain ⟨i, hi, rfl⟩ := List.mem_map.1 hf
      exact (hF i (by simpa using hi)).1

theorem open_evs {H : Type} {enc : TypeId × Value → H} {W : World} {a : Option Addr} {n c : Nat} {d : DataW H} {p : List MemPlace} (h : DataW.Trod enc Try.prog W 0 (fun _ => true) true 28 (.slice a n c) d p) : ∃ es, EvL W (.slice a n c) es ∧ ∀ e ∈ es, fitE e := by
  obtain ⟨fuel, hf⟩ := h
  obtain ⟨a', n', c', es, e, h1, h2⟩ := open_events (v := .slice a n c) (y := (d, p)) (fuel := fuel) (by simpa [Value.cells] using hf)
  cases e
  exact ⟨es, h1, h2⟩

/-- A call of a law on streams, as it reads. -/
structure SCl where
  stream : List UInt8
  key : List UInt8
  evs : List Evn
instance : Inhabited SCl := ⟨⟨[], [], []⟩⟩
structure SClAt (w : World) (b o : Nat) (c : SCl) : Prop where
  c1 : w.cell? ⟨b, o + 1, none⟩ = some (sv c.stream)
  c2 : w.cell? ⟨b, o + 2, none⟩ = some (sv c.key)
  c5 : ∃ a n cp, w.cell? ⟨b, o + 5, none⟩ = some (.slice a n cp) ∧ EvL w (.slice a n cp) c.evs
  s1 : c.stream.length ≤ maxLen
  s2 : c.key.length ≤ maxLen
  fit : ∀ e ∈ c.evs, fitE e
/-- A slice of calls. -/
def SClL (w : World) (v : Value) (l : List SCl) : Prop :=
  ∃ ao cap, v = .slice ao l.length cap ∧ l.length ≤ 9223372036854775807 ∧ (0 < l.length → ∃ b off, ao = some ⟨b, off, none⟩ ∧ b < w.heap.size ∧ ∀ i, (h : i < l.length) → SClAt w b (off + i * 10) l[i])
theorem Try.cellsSCall : Try.prog.cellsOf 35 = 10 := by kernel_rfl
theorem Try.underSCall : ∃ f0 f1 f2 f3 f4 f5 f6, Try.prog.underlying 35 = some (.struct #[f0, f1, f2, f3, f4, f5, f6]) ∧ (f1.offset = 1 ∧ f2.offset = 2 ∧ f5.offset = 5) ∧ f1.type = 9 ∧ f2.type = 9 ∧ f5.type = 28 := ⟨_, _, _, _, _, _, _, Try.underlying35, ⟨rfl, rfl, rfl⟩, rfl, rfl, rfl⟩

set_option maxRecDepth 100000 in
theorem open_scalls {H : Type} {enc : TypeId × Value → H} {W : World} {a : Option Addr} {n c : Nat} {d : DataW H} {p : List MemPlace}
    (h : DataW.Trod enc Try.prog W 0 (fun _ => true) true 22 (.slice a n c) d p) : ∃ l : List SCl, SClL W (.slice a n c) l := by
  obtain ⟨fuel, hf⟩ := h
  obtain ⟨f0, f1, f2, f3, f4, f5, f6, hu, ⟨o1, o2, o5⟩, t1, t2, t5⟩ := Try.underSCall
  rcases Go.Deep.open_slice Try.underlying22 hf with ⟨hcs, hx⟩ | ⟨x, n', cap, m, k, D, Pl, hcs, _, hl, hm, hz, hx, hcell⟩
  · simp [Value.cells] at hcs
    obtain ⟨rfl, rfl, rfl⟩ := hcs
    exact ⟨[], none, 0, rfl, by simp, fun h => by simp at h⟩
  · simp [Value.cells] at hcs
    obtain ⟨rfl, rfl, rfl⟩ := hcs
    rw [if_pos rfl] at hz
    subst hz
    have hm' := hm
    unfold maxLen at hm
    have hel : ∀ i, i < n → ∃ e : SCl, (∃ v0, W.cell? (x.add (i * 10)) = some v0) ∧ e.stream.length ≤ maxLen ∧ e.key.length ≤ maxLen ∧ (∀ g ∈ e.evs, fitE g) ∧ W.cell? (x.add (i * 10 + 1)) = some (sv e.stream) ∧ W.cell? (x.add (i * 10 + 2)) = some (sv e.key) ∧ ∃ a n cp, W.cell? (x.add (i * 10 + 5)) = some (.slice a n cp) ∧ EvL W (.slice a n cp) e.evs := by
      intro i hi
      obtain ⟨cs, q1, q2⟩ := hcell i (by omega)
      rw [Try.cellsSCall] at q1
      obtain ⟨_, hlen, hc⟩ := World.cells?_some q1
      match cs, hlen with
      | [c0, c1, c2, c3, c4, c5, c6, c7, c8, c9], _ =>
        obtain ⟨xs, k', _, hDx, _, hxl, hfl⟩ := DataW.trod_struct hu q2
        match xs, hxl with
        | [x0, x1, x2, x3, x4, x5, x6], _ =>
          have g1 := hfl 1 f1 rfl
          have g2 := hfl 2 f2 rfl
          have g5 := hfl 5 f5 rfl
          rw [o1, t1, Try.cellsStr] at g1
          rw [o2, t2, Try.cellsStr] at g2
          rw [o5, t5, Try.cellsEvs] at g5
          obtain ⟨s1, e1, _, w1⟩ := DataW.trod_string Try.underlying9 g1
          obtain ⟨s2, e2, _, w2⟩ := DataW.trod_string Try.underlying9 g2
          simp at e1 e2
          subst e1 e2
          simp at g5
          obtain ⟨a', n', c', es, rfl, h1, h2⟩ := open_events g5
          have l1 : s1.data.toList.length = s1.size := by rw [Array.length_toList]; rfl
          have l2 : s2.data.toList.length = s2.size := by rw [Array.length_toList]; rfl
          have k0 := hc 0 (by omega)
          have k1 := hc 1 (by omega)
          have k2 := hc 2 (by omega)
          have k5 := hc 5 (by omega)
          rw [Go.Deep.add_add] at k0 k1 k2 k5
          refine ⟨⟨s1.data.toList, s2.data.toList, es⟩, ⟨_, k0⟩, by show s1.data.toList.length ≤ _; omega, by show s2.data.toList.length ≤ _; omega, h2, ?_, ?_, a', n', c', ?_, h1⟩
          · rw [← str_list]; exact k1
          · rw [← str_list]; exact k2
          · exact k5
    obtain ⟨F, hF⟩ := Go.Deep.choose_lt (α := SCl) hel
    have hlen : ((List.range n).map F).length = n := by simp
    refine ⟨(List.range n).map F, some x, _, by rw [hlen], by rw [hlen]; omega, fun hz => ?_⟩
    rw [hlen] at hz
    obtain ⟨v0, h0⟩ := (hF 0 (by omega)).1
    have hsp := World.cell?_spot h0
    obtain ⟨b, off, sp⟩ := x
    have hsp' : sp = none := by
      cases sp with
      | none => rfl
      | some k => simp [Addr.add] at hsp
    subst hsp'
    refine ⟨b, off, rfl, ?_, fun i hi => ?_⟩
    · rw [addr_add] at h0
      exact World.block_lt_of_cell? W ⟨b, off + 0 * 10, none⟩ h0
    · have hi' : i < n := by rw [hlen] at hi; exact hi
      obtain ⟨_, q0, q1, q2, q3, q4, a', n', c', q5, q6⟩ := hF i hi'
      rw [addr_add] at q3 q4 q5
      have e : ((List.range n).map F)[i] = F i := by simp
      rw [e]
      exact ⟨by rw [Nat.add_assoc]; exact q3, by rw [Nat.add_assoc]; exact q4, ⟨a', n', c', by rw [Nat.add_assoc]; exact q5, q6⟩, q0, q1, q2⟩

theorem SClL.below {w w' : World} {v : Value} {l : List SCl} (h : SClL w v l) (hb : Below w.heap.size w w') : SClL w' v l := by
  obtain ⟨ao, cap, rfl, h1, h4⟩ := h
  refine ⟨ao, cap, rfl, h1, fun hz => ?_⟩
  obtain ⟨b, off, e, hlt, hc⟩ := h4 hz
  refine ⟨b, off, e, by have := hb.size; omega, fun i hi => ?_⟩
  obtain ⟨c1, c2, ⟨a, n, cp, c5, c6⟩, s1, s2, fit⟩ := hc i hi
  exact ⟨(hb.cell (p := ⟨b, off + i * 10 + 1, none⟩) hlt).trans c1, (hb.cell (p := ⟨b, off + i * 10 + 2, none⟩) hlt).trans c2, ⟨a, n, cp, (hb.cell (p := ⟨b, off + i * 10 + 5, none⟩) hlt).trans c5, c6.below hb (Nat.le_refl _)⟩, s1, s2, fit⟩
end Go.Proofs.Ytgpijeaehkabdaa

/-
  DERIVED. Where a law on streams stands: the index, the law's own blocks, what came in.
-/
namespace Go.Proofs.Ytgpijeaehkabdaa
open Go.RowKit Go.Maps
set_option linter.unusedVariables false

/-- The law began in w; the index at x is I, all its memory new since, none of it among G. -/
structure LSt (w W : World) (G : Nat → Prop) (x N : Nat) (I : Ix) : Prop where
  ix : ∃ F, IxAt W F x N I ∧ ∀ q, F q → w.heap.size ≤ q ∧ q < W.heap.size ∧ ¬ G q
  bel : Below w.heap.size w W
/-- The same, and events that a try gave. -/
structure Held (w W : World) (G : Nat → Prop) (x N : Nat) (I : Ix) (q n : Nat) (es : List Evn) : Prop where
  ix : ∃ F, IxAt W F x N I ∧ (∀ q, F q → w.heap.size ≤ q ∧ q < W.heap.size ∧ ¬ G q) ∧ EvFar F W (some ⟨q, 0, none⟩) n n es
  bel : Below w.heap.size w W

theorem LSt.grown {w W W' : World} {G : Nat → Prop} {x N : Nat} {I : Ix} (h : LSt w W G x N I) (hb : Below W.heap.size W W') : LSt w W' (fun q => G q ∨ W.heap.size ≤ q) x N I := by
  obtain ⟨F, hi, hF⟩ := h.ix
  refine ⟨⟨F, hi.frame fun q _ hl => hb.block q hl, fun q hq => ⟨(hF q hq).1, Nat.lt_of_lt_of_le (hF q hq).2.1 hb.size, fun hg => ?_⟩⟩, h.bel.trans (hb.mono h.bel.size)⟩
  rcases hg with hg | hg
  · exact (hF q hq).2.2 hg
  · have := (hF q hq).2.1; omega
theorem LSt.less {w W : World} {G G' : Nat → Prop} {x N : Nat} {I : Ix} (h : LSt w W G x N I) (hg : ∀ q, G' q → G q) : LSt w W G' x N I := by
  obtain ⟨F, hi, hF⟩ := h.ix
  exact ⟨⟨F, hi, fun q hq => ⟨(hF q hq).1, (hF q hq).2.1, fun hq' => (hF q hq).2.2 (hg q hq')⟩⟩, h.bel⟩
theorem LSt.held {w W W' : World} {G : Nat → Prop} {x N : Nat} {I : Ix} (h : LSt w W G x N I) (hb : Below W.heap.size W W') {q : Nat} {es : List Evn} {ys : List (Evn × Nat)} (hk : EvBlk W' q es.length ys) (he : ys.map (·.1) = es) (hy : ∀ y ∈ ys, W.heap.size ≤ y.2) (hq : W.heap.size ≤ q) (h16 : es.length ≤ 16) : Held w W' (fun q => G q ∨ W.heap.size ≤ q) x N I q es.length es := by
  obtain ⟨F, hi, hF⟩ := h.ix
  have hl : ys.length = es.length := by have := congrArg List.length he; simpa using this
  refine ⟨⟨F, hi.frame fun q _ hl => hb.block q hl, fun q hq => ⟨(hF q hq).1, Nat.lt_of_lt_of_le (hF q hq).2.1 hb.size, fun hg => ?_⟩, fun A hA hkk => ?_, fun b off e _ => ?_⟩, h.bel.trans (hb.mono h.bel.size)⟩
  · rcases hg with hg | hg
    · exact (hF q hq).2.2 hg
    · have := (hF q hq).2.1; omega
  · have b2 : EvBlk A q es.length ys := hk.same (hkk q hk.lt (fun hf => by have := (hF q hf).2.1; omega)) (fun y hyy => hkk y.2 (hk.2 y hyy).1.lt (fun hf => by have := (hF _ hf).2.1; have := hy y hyy; omega))
    have := b2.evl hl h16
    rwa [he] at this
  · cases e
    exact ⟨hk.lt, fun hf => by have := (hF q hf).2.1; omega⟩
theorem Held.less {w W : World} {G G' : Nat → Prop} {x N q n : Nat} {I : Ix} {es : List Evn} (h : Held w W G x N I q n es) (hg : ∀ q, G' q → G q) : Held w W G' x N I q n es := by
  obtain ⟨F, hi, hF, he⟩ := h.ix
  exact ⟨⟨F, hi, fun q hq => ⟨(hF q hq).1, (hF q hq).2.1, fun hq' => (hF q hq).2.2 (hg q hq')⟩, he⟩, h.bel⟩
theorem Held.st {w W : World} {G : Nat → Prop} {x N q n : Nat} {I : Ix} {es : List Evn} (h : Held w W G x N I q n es) : LSt w W G x N I := by
  obtain ⟨F, hi, hF, _⟩ := h.ix
  exact ⟨⟨F, hi, hF⟩, h.bel⟩

theorem fields16 {es : List Evn} (h : okEvs es) : ∀ e ∈ es, e.fields.length ≤ 16 := fun e he => (h.2.2 e he).2.2.2.1
theorem chkA_ok {I : Ix} {s : List UInt8} {ex : Int} {k : List UInt8} {es : List Evn} (h : tryOk I s ex k es) : chkA I s k (I.ver s : Nat) es = 0 := by
  unfold chkA
  rw [if_neg (fun h' => h' h.1), if_neg (by rw [h.2.1]; simp), if_neg (fun h' => h' h.2.2.1), if_neg (fun h' => h' rfl)]

theorem LSt.try_ok {w W : World} {G : Nat → Prop} {x N : Nat} {I : Ix} (h : LSt w W G x N I) (s : List UInt8) (hs : s.length ≤ maxLen) (ex : Int) (k : List UInt8) (hk : k.length ≤ maxLen) (ea : Option Addr) (en ec : Nat) (es : List Evn) (hv : EvL w (.slice ea en ec) es) (hfit : ∀ e ∈ es, fitE e) (hok : tryOk I s ex k es) (V : World) (hV : Below W.heap.size W V) :
    Calls Try.prog 11 #[.pointer (some ⟨x, 0, none⟩), sv s, .int .i64 ex, sv k, .slice ea en ec] V fun e w' => ∃ q ys, e = .returned (.tuple #[.agg (apV (I.ver s) I.all.length es.length false), .agg (bt s k (I.ver s) (some ⟨q, 0, none⟩) es.length es.length), .int .i64 0]) ∧ Below V.heap.size V w' ∧ Got V w' q es ys := by
  obtain ⟨F, hi, hF⟩ := h.ix
  exact Try_ok (hi.frame fun q _ hl => hV.block q hl) s hs ex k hk ea en ec es ((hv.below h.bel (Nat.le_refl _)).below (hV.mono (Nat.le_refl _)) (Nat.le_refl _)) hfit (fields16 hok.2.2.1) hok
theorem LSt.try_bad {w W : World} {G : Nat → Prop} {x N : Nat} {I : Ix} (h : LSt w W G x N I) (s : List UInt8) (hs : s.length ≤ maxLen) (ex : Int) (k : List UInt8) (hk : k.length ≤ maxLen) (ea : Option Addr) (en ec : Nat) (es : List Evn) (hv : EvL w (.slice ea en ec) es) (hfit : ∀ e ∈ es, fitE e) (f p c : Int) (b : Bool) (err : Int) (hA : tryA I s ex k es = (apV f p c b, err)) (hbad : err ≠ 0 ∨ b = true) (V : World) (hV : Below W.heap.size W V) :
    Calls Try.prog 11 #[.pointer (some ⟨x, 0, none⟩), sv s, .int .i64 ex, sv k, .slice ea en ec] V fun e w' => e = .returned (.tuple #[.agg (apV f p c b), .agg (bt [] [] 0 none 0 0), .int .i64 err]) ∧ Below V.heap.size V w' := by
  obtain ⟨F, hi, hF⟩ := h.ix
  exact Try_bad (hi.frame fun q _ hl => hV.block q hl) s hs ex k hk ea en ec es ((hv.below h.bel (Nat.le_refl _)).below (hV.mono (Nat.le_refl _)) (Nat.le_refl _)) hfit f p c b err hA hbad

theorem Held.add {w W : World} {G : Nat → Prop} {x N q : Nat} {I : Ix} {es : List Evn} (h : Held w W G x N I q es.length es) (s : List UInt8) (hs : s.length ≤ maxLen) (k : List UInt8) (hk : k.length ≤ maxLen) (hfit : ∀ e ∈ es, fitE e) {ex : Int} (hok : tryOk I s ex k es) (hN : N < 1000000) (hgl : ∀ q, G q → q < W.heap.size) :
    Calls Try.prog 12 #[.pointer (some ⟨x, 0, none⟩), .agg (bt s k (I.ver s : Nat) (some ⟨q, 0, none⟩) es.length es.length)] W fun e W' => e = .returned (.int .i64 0) ∧ LSt w W' G x (N + 1 + es.length) (I.added s k (I.ver s) es) ∧ ∀ q, G q → W'.heap[q]? = W.heap[q]? := by
  obtain ⟨F, hi, hF, he⟩ := h.ix
  have hN2 : (I.ver s : Int) < 4611686018427387904 := by
    obtain ⟨st, _, _, mp, mk, xs, av, pf, D1, D2, hin⟩ := hi
    have := hin.len
    have := ver_le I s
    omega
  refine (Add_ok hi (fun q hq => (hF q hq).2.1) hN s hs (I.ver s) hN2 k hk _ _ _ es he hfit (fields16 hok.2.2.1) (chkA_ok hok) hok.2.2.1.2.1 hok.2.2.1.1).mono ?_
  rintro e W' ⟨rfl, k1, i1⟩
  have hz := k1.size
  refine ⟨rfl, ⟨⟨_, i1, fun q hq => ?_⟩, h.bel.trans (k1.below h.bel.size fun q hq => (hF q hq).1)⟩, fun q hq => k1.block q (hgl q hq) fun hf => (hF q hf).2.2 hq⟩
  obtain ⟨h1, h2⟩ := hq
  rcases h1 with h1 | h1
  · exact ⟨(hF q h1).1, h2, (hF q h1).2.2⟩
  · exact ⟨by have := h.bel.size; omega, h2, fun hg => by have := hgl q hg; omega⟩

theorem LSt.new {w W : World} {x : Nat} (hb : Below w.heap.size w W) {W' : World} (h : NewPost W (.returned (.pointer (some ⟨x, 0, none⟩))) W') : LSt w W' (fun q => q < W.heap.size) x 0 Ix.new := by
  obtain ⟨x', e, hi, hb2⟩ := h
  cases e
  exact ⟨⟨_, hi, fun q hq => ⟨by have := hb.size; omega, hq.2, by omega⟩⟩, hb.trans (hb2.mono hb.size)⟩
theorem LSt.len {w W : World} {G : Nat → Prop} {x N : Nat} {I : Ix} (h : LSt w W G x N I) : I.all.length ≤ N := by
  obtain ⟨F, ⟨st, _, _, mp, mk, xs, av, pf, D1, D2, hin⟩, _⟩ := h.ix
  exact hin.len
theorem LSt.more {w W : World} {G : Nat → Prop} {x N N' : Nat} {I : Ix} (h : LSt w W G x N I) (hn : N ≤ N') : LSt w W G x N' I := by
  obtain ⟨F, ⟨st, h1, h2, mp, mk, xs, av, pf, D1, D2, hin⟩, hF⟩ := h.ix
  exact ⟨⟨F, ⟨st, h1, h2, mp, mk, xs, av, pf, D1, D2, hin.more hn⟩, hF⟩, h.bel⟩
end Go.Proofs.Ytgpijeaehkabdaa
