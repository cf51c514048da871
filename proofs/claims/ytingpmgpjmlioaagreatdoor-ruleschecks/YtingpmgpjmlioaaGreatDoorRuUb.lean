/-
  DERIVED. The set of names that were seen; the walks of apart.
-/
import Derived.Test.YtingpmgpjmlioaaGreatDoorRuDa
namespace Go.Proofs.YtingpmgpjmlioaaGreatDoor
open Go.RowKit Go.Maps
set_option linter.unusedVariables false

theorem zeroUnit (w : World) : (zeroValue 141).run Tryz.prog w = .ok (.agg #[]) w := by kernel_rfl
/-- The map at block m holds these names. -/
def SsAt (w : World) (m : Nat) (S : List (List UInt8)) : Prop :=
  ∃ D : DataW Value, w.ownsMap Tryz.prog 9 rawE m S.length D ∧ (∀ k, D.atKey (lit k) (.held (.agg #[])) = .held (.agg #[])) ∧ (∀ kl, Maps.has D kl = true ↔ ∃ s ∈ S, kl = lit s)
theorem SsAt.frame {w w' : World} {m : Nat} {S : List (List UInt8)} (h : SsAt w m S) (hk : w'.heap[m]? = w.heap[m]?) : SsAt w' m S := by
  obtain ⟨D, h1, h2⟩ := h
  exact ⟨D, ownsMap_frame h1 hk, h2⟩
theorem SsAt.lt {w : World} {m : Nat} {S : List (List UInt8)} (h : SsAt w m S) : m < w.heap.size := by
  obtain ⟨D, h1, h2⟩ := h
  exact h1.lt
theorem SsAt.below {B : Nat} {w w' : World} {m : Nat} {S : List (List UInt8)} (h : SsAt w m S) (hb : Below B w w') (hB : w.heap.size ≤ B) : SsAt w' m S := h.frame (hb.block m (by have := h.lt; omega))
theorem SsAt.made (w : World) : SsAt (w.alloc (.map #[] 0)) w.heap.size [] :=
  ⟨.map [], World.ownsMap_made w Tryz.prog 9 rawE, fun k => rfl, fun kl => by simp [Maps.has]⟩
theorem SsAt.look {w : World} {m : Nat} {S : List (List UInt8)} (h : SsAt w m S) (k : List UInt8) (hk : k.length ≤ maxLen) :
    (Instr.lookup 140 (.map (some m)) (sv k) true).run Tryz.prog w = .ok (.tuple #[.agg #[], .bool (S.contains k)]) w := by
  obtain ⟨D, h1, h2, h3⟩ := h
  obtain ⟨u, ps, hrun, hv⟩ := h1.look_ok keyedS Tryz.underlying140 (zeroUnit w) (zd := .held (.agg #[])) (zp := []) rfl (lit_key hk)
  rw [h2 k] at hv
  simp only [rawE, Option.some.injEq, Prod.mk.injEq, DataW.held.injEq] at hv
  have he : Maps.has D (lit k) = S.contains k := by
    rw [Bool.eq_iff_iff, h3, List.contains_iff_mem]
    constructor
    · rintro ⟨f, hf, e⟩; rw [lit_inj e]; exact hf
    · intro hf; exact ⟨k, hf, rfl⟩
  rw [hrun, hv.1, he]
theorem SsAt.put {w : World} {m : Nat} {S : List (List UInt8)} (h : SsAt w m S) (k : List UInt8) (hk : k.length ≤ maxLen) (hn : S.contains k = false) (hS : S.length < 9223372036854775807) :
    ∃ w', (Instr.mapUpdate 140 (.map (some m)) (sv k) (.agg #[])).run Tryz.prog w = .ok () w' ∧ SsAt w' m (S ++ [k]) ∧ w.grownBy w' (some m) := by
  obtain ⟨D, h1, h2, h3⟩ := h
  obtain ⟨w', hrun, ho, hg⟩ := h1.update keyedS Tryz.underlying140 (val := .agg #[]) (by unfold maxLen; omega) (lit_key hk) rfl
  have hmap : IsMap D := by obtain ⟨es, clock, _, _, _, e⟩ := h1; exact ⟨_, e⟩
  refine ⟨w', hrun, ⟨_, (by rw [List.length_append]; exact ho), ?_, ?_⟩, hg⟩
  · intro j
    by_cases e : j = k
    · subst e
      rw [atKey_put_same hmap (lit_is _)]
    · rw [atKey_put_other (fun e2 => e (lit_inj e2))]
      exact h2 j
  · intro kl
    by_cases e : kl = lit k
    · subst e
      exact ⟨fun _ => ⟨k, by simp, rfl⟩, fun _ => has_put_same hmap (lit_is _) _⟩
    · rw [has_put_other e, h3]
      constructor
      · rintro ⟨s, hs, e2⟩; exact ⟨s, by simp [hs], e2⟩
      · rintro ⟨s, hs, e2⟩
        rcases List.mem_append.1 hs with hs | hs
        · exact ⟨s, hs, e2⟩
        · rw [List.mem_singleton.1 hs] at e2; exact absurd e2 e

theorem distinct_iff : ∀ l : List (List UInt8), distinctT l = true ↔ l.Nodup
  | [] => by simp [distinctT]
  | s :: r => by
    rw [distinctT, Bool.and_eq_true, distinct_iff r, List.nodup_cons]
    simp
theorem apart_iff (l : List (List UInt8)) : apartT l = true ↔ (∀ s ∈ l, nameB s = true) ∧ l.Nodup := by
  unfold apartT
  rw [Bool.and_eq_true, distinct_iff, List.all_eq_true]
theorem apart_bad {l : List (List UInt8)} {k : Nat} {x : List UInt8} (hk : l[k]? = some x) (h : (l.take k).contains x = true ∨ nameB x = false) : apartT l = false := by
  rw [Bool.eq_false_iff]
  intro ha
  obtain ⟨h1, h2⟩ := (apart_iff l).1 ha
  rcases h with h | h
  · have hm := List.contains_iff_mem.1 h
    have e : l = l.take k ++ x :: l.drop (k + 1) := by
      obtain ⟨h1, h2⟩ := List.getElem?_eq_some_iff.1 hk
      rw [← h2, ← List.drop_eq_getElem_cons h1, List.take_append_drop]
    rw [e, List.nodup_append] at h2
    exact h2.2.2 x hm x (by simp) rfl
  · rw [h1 x (List.mem_of_getElem? hk)] at h; cases h
theorem apart_next {l : List (List UInt8)} {k : Nat} {x : List UInt8} (hk : l[k]? = some x) (ha : apartT (l.take k) = true) (h : (l.take k).contains x = false) (hx : nameB x = true) : apartT (l.take (k + 1)) = true := by
  obtain ⟨h1, h2⟩ := (apart_iff _).1 ha
  rw [List.take_add_one, hk, apart_iff]
  refine ⟨fun s hs => ?_, ?_⟩
  · rcases List.mem_append.1 hs with hs | hs
    · exact h1 s hs
    · simp at hs; rw [hs]; exact hx
  · rw [List.nodup_append]
    refine ⟨h2, by simp, fun a ha b hb e => ?_⟩
    simp at hb
    subst hb
    subst e
    have := List.contains_iff_mem.2 ha
    rw [h] at this; cases this

theorem umisnamedC1_any (x : HaV) (w : World) : Calls Tryz.prog 49 #[.agg x.v] w fun e w' => e = .returned (sv x.cmd) ∧ Below w.heap.size w w' := by
  have HB := hide ((Below.refl w.heap.size w).alloc (Nat.le_refl _) (.cells x.v 62))
  go_enter Tryz.func49, Tryz.ntmps49
  go_wp2_with fail
  go_ret
  exact ⟨rfl, unhide HB⟩

set_option maxRecDepth 20000 in
set_option maxHeartbeats 4000000 in
theorem apartH_any (a : Option Addr) (c : Nat) (l : List HaV) (w : World) (hl : SlOf 3 HaR w (.slice a l.length c) l) (hfit : ∀ x ∈ l, x.cmd.length ≤ 140737488355328) :
    Calls Tryz.prog 48 #[.slice a l.length c, .func (.func 49) #[] #[]] w fun e w' => e = .returned (.bool (apartT (l.map (fun x => x.cmd)))) ∧ Below w.heap.size w w' := by
  obtain ⟨-, hl1, hl2⟩ := hl.len
  have mm : (Instr.makeMap 140 none).run Tryz.prog w = .ok (.map (some w.heap.size)) (w.alloc (.map #[] 0)) := by simp [Instr.makeMap]
  have hb2 : Below w.heap.size w (w.alloc (.map #[] 0)) := (Below.refl _ _).alloc (Nat.le_refl _) _
  have HS : Hid (SsAt (w.alloc (.map #[] 0)) w.heap.size ((l.map (fun x => x.cmd)).take 0)) := hide (by simpa using SsAt.made w)
  have HL := hide hl
  have HFit := hide hfit
  obtain ⟨N, hN⟩ : ∃ N, N = l.length := ⟨_, rfl⟩
  have HN := hide hN
  obtain ⟨m, hm⟩ : ∃ m, m = w.heap.size := ⟨_, rfl⟩
  obtain ⟨w2, hw2⟩ : ∃ w2, w2 = w.alloc (.map #[] 0) := ⟨_, rfl⟩
  rw [← hw2] at mm hb2 HS
  rw [← hm] at mm HS
  have HB2 := hide hb2
  have hmw : w.heap.size ≤ m := by omega
  rw [← hN] at hl1 HL ⊢
  obtain ⟨R, hR⟩ : ∃ R, R = apartT (l.map (fun x => x.cmd)) := ⟨_, rfl⟩
  rw [← hR]
  have HR := hide hR
  clear hl hfit hb2 hN hm hw2 hR
  go_enter Tryz.func48, Tryz.ntmps48
  go_wp2_with fail
  clear mm
  go_loopw [7, 8, 9, 10, 14] (fun _ _ _ _ i wr => ∃ (k : Nat), k ≤ N ∧ i = .int .i64 k ∧ Hid (apartT ((l.map (fun x => x.cmd)).take k) = true) ∧ Hid (SsAt wr m ((l.map (fun x => x.cmd)).take k)) ∧ Hid (Below w.heap.size w wr)) (fun _ _ _ _ i _ => N - (intOf i).toNat)
  case atStart => exact ⟨0, by omega, rfl, hide (by simp [apartT, distinctT]), HS, HB2⟩
  case round =>
    obtain ⟨k, hk, rfl, HA, HSk, HB⟩ := hrel
    clear HS HB2
    by_cases hlt : k < N
    · obtain ⟨x, huk⟩ : ∃ u, l[k]? = some u := ⟨_, List.getElem?_eq_getElem (by have := unhide HN; omega)⟩
      have HUk := hide (show (l.map (fun x => x.cmd))[k]? = some x.cmd by rw [List.getElem?_map, huk]; rfl)
      have hfx := unhide HFit x (List.mem_of_getElem? huk)
      obtain ⟨b, off, hma, -, d0, d1, d2, -⟩ := ((unhide HL).grown (fun _ _ _ _ _ => HaR.grown) (unhide HB)).at huk
      rw [hma]
      clear huk
      go_upto_region 5 with fail
      have hb4 : Below wr.heap.size wr (wr.alloc (.cells x.v 62)) := (Below.refl _ _).alloc (Nat.le_refl _) _
      have hx4 : (wr.alloc (.cells x.v 62)).heap[wr.heap.size]? = some (.cells x.v 62) := heap_alloc_new _ _
      have hb24 := (unhide HB).trans (hb4.mono (unhide HB).size)
      have HS4 := hide ((unhide HSk).below hb4 (Nat.le_refl _))
      obtain ⟨w4, hw4⟩ : ∃ w4, w4 = wr.alloc (.cells x.v 62) := ⟨_, rfl⟩
      rw [show wr.alloc (.cells #[Value.string ⟨x.cmd.toArray⟩, .slice x.na x.needs.length x.nc, .slice x.ca x.cases.length x.cc] 62) = w4 from hw4.symm]
      rw [← hw4] at hx4 hb24 HS4
      obtain ⟨p4, hp4⟩ : ∃ p4, p4 = wr.heap.size := ⟨_, rfl⟩
      rw [← hp4] at hx4 ⊢
      have HB4 := hide hb24
      have z0 : w4.cell? ⟨p4, 0, none⟩ = some (sv x.cmd) := (cell_of_row _ _ _ _ _ _ hx4).trans rfl; have z1 : w4.cell? ⟨p4, 1, none⟩ = some (.slice x.na x.needs.length x.nc) := (cell_of_row _ _ _ _ _ _ hx4).trans rfl; have z2 : w4.cell? ⟨p4, 2, none⟩ = some (.slice x.ca x.cases.length x.cc) := (cell_of_row _ _ _ _ _ _ hx4).trans rfl
      have HC4 := hide (umisnamedC1_any x w4)
      clear hb4 hw4 hp4 d0 d1 d2 hx4 hb24
      cases hin : ((l.map (fun x => x.cmd)).take k).contains x.cmd with
      | true =>
        have HX := hide ((unhide HR).trans (apart_bad (unhide HUk) (.inl hin)))
        have HIn := hide hin
        clear hin
        go_wp2_with (go_at_call 49; refine (unhide HC4).mono ?_; rintro e w5 ⟨rfl, b5⟩; have HB5 := hide ((unhide HB4).trans (b5.mono (unhide HB4).size)); have lk := ((unhide HS4).below b5 (Nat.le_refl _)).look x.cmd (by unfold maxLen; omega); rw [unhide HIn] at lk; have HB6 : Hid (Below w.heap.size w (w5.alloc (.cells #[] 141))) := hide ((unhide HB5).alloc (unhide HB5).size _); clear b5)
        go_ret
        exact ⟨by rw [unhide HX]; rfl, unhide HB6⟩
      | false =>
        have HIn := hide hin
        have HNm : Hid (∀ W, Calls Tryz.prog 54 #[sv x.cmd] W fun e w' => e = .returned (.bool (nameB x.cmd)) ∧ W = w') := hide (fun W => Name_any x.cmd W (by omega))
        cases hnb : nameB x.cmd with
        | false =>
          have HX := hide ((unhide HR).trans (apart_bad (unhide HUk) (.inr hnb)))
          rw [hnb] at HNm
          clear hin hnb
          go_wp2_with (first | (go_at_call 54; refine (unhide HNm _).mono ?_; rintro e w6 ⟨rfl, rfl⟩) | (go_at_call 49; refine (unhide HC4).mono ?_; rintro e w5 ⟨rfl, b5⟩; have HB5 := hide ((unhide HB4).trans (b5.mono (unhide HB4).size)); have lk := ((unhide HS4).below b5 (Nat.le_refl _)).look x.cmd (by unfold maxLen; omega); rw [unhide HIn] at lk; have HB6 : Hid (Below w.heap.size w (w5.alloc (.cells #[] 141))) := hide ((unhide HB5).alloc (unhide HB5).size _); clear b5))
          go_ret
          exact ⟨by rw [unhide HX]; rfl, unhide HB6⟩
        | true =>
          have HA2 := hide (apart_next (unhide HUk) (unhide HA) hin hnb)
          have hlk : ((l.map (fun x => x.cmd)).take k).length = k := by simp; have := unhide HN; omega
          have hts : (l.map (fun x => x.cmd)).take (k + 1) = (l.map (fun x => x.cmd)).take k ++ [x.cmd] := by rw [List.take_add_one, unhide HUk]; rfl
          have HPut : Hid (∀ W, SsAt W m ((l.map (fun x => x.cmd)).take k) → Below w.heap.size w W → ∃ w', (Instr.mapUpdate 140 (.map (some m)) (sv x.cmd) (.agg #[])).run Tryz.prog W = .ok () w' ∧ SsAt w' m ((l.map (fun x => x.cmd)).take (k + 1)) ∧ Below w.heap.size w w') := hide (fun W h hbW => by
            obtain ⟨w', hrun, hf, hg⟩ := h.put x.cmd (by unfold maxLen; omega) hin (by rw [hlk]; omega)
            exact ⟨w', hrun, by rw [hts]; exact hf, hbW.grown hg hbW.size (fun k e => by cases e; exact hmw)⟩)
          rw [hnb] at HNm
          clear hin hnb hlk hts
          go_wp2_with (first | (go_at_call 54; refine (unhide HNm _).mono ?_; rintro e w6 ⟨rfl, rfl⟩) | (go_at_call 49; refine (unhide HC4).mono ?_; rintro e w5 ⟨rfl, b5⟩; have HB5 := hide ((unhide HB4).trans (b5.mono (unhide HB4).size)); have hs5 := (unhide HS4).below b5 (Nat.le_refl _); have lk := hs5.look x.cmd (by unfold maxLen; omega); rw [unhide HIn] at lk; have b6 : Below w5.heap.size w5 (w5.alloc (.cells #[] 141)) := (Below.refl _ _).alloc (Nat.le_refl _) _; obtain ⟨w7, hrun, hs7, hb7⟩ := unhide HPut (w5.alloc (.cells #[] 141)) (hs5.below b6 (Nat.le_refl _)) ((unhide HB5).trans (b6.mono (unhide HB5).size)); have HS7 := hide hs7; have HB7 := hide hb7; clear b5 b6 hs5 hs7 hb7))
          go_roundw
          case rel => exact ⟨k + 1, by omega, by go_num, HA2, HS7, HB7⟩
          case measure => simp [intOf]; omega
    · have HX : Hid (R = true) := hide (by
        rw [unhide HR]
        have := unhide HA
        rwa [List.take_of_length_le (by simp; have := unhide HN; omega)] at this)
      go_wp2_with fail
      go_ret
      exact ⟨by rw [unhide HX]; rfl, unhide HB⟩

theorem umisnamedC2_any (x : EvV) (w : World) : Calls Tryz.prog 51 #[.agg x.v] w fun e w' => e = .returned (sv x.type) ∧ Below w.heap.size w w' := by
  have HB := hide ((Below.refl w.heap.size w).alloc (Nat.le_refl _) (.cells x.v 74))
  go_enter Tryz.func51, Tryz.ntmps51
  go_wp2_with fail
  go_ret
  exact ⟨rfl, unhide HB⟩

set_option maxRecDepth 20000 in
set_option maxHeartbeats 4000000 in
theorem apartE_any (a : Option Addr) (c : Nat) (l : List EvV) (w : World) (hl : SlOf 3 EvR w (.slice a l.length c) l) (hfit : ∀ x ∈ l, x.type.length ≤ 140737488355328) :
    Calls Tryz.prog 50 #[.slice a l.length c, .func (.func 51) #[] #[]] w fun e w' => e = .returned (.bool (apartT (l.map (fun x => x.type)))) ∧ Below w.heap.size w w' := by
  obtain ⟨-, hl1, hl2⟩ := hl.len
  have mm : (Instr.makeMap 140 none).run Tryz.prog w = .ok (.map (some w.heap.size)) (w.alloc (.map #[] 0)) := by simp [Instr.makeMap]
  have hb2 : Below w.heap.size w (w.alloc (.map #[] 0)) := (Below.refl _ _).alloc (Nat.le_refl _) _
  have HS : Hid (SsAt (w.alloc (.map #[] 0)) w.heap.size ((l.map (fun x => x.type)).take 0)) := hide (by simpa using SsAt.made w)
  have HL := hide hl
  have HFit := hide hfit
  obtain ⟨N, hN⟩ : ∃ N, N = l.length := ⟨_, rfl⟩
  have HN := hide hN
  obtain ⟨m, hm⟩ : ∃ m, m = w.heap.size := ⟨_, rfl⟩
  obtain ⟨w2, hw2⟩ : ∃ w2, w2 = w.alloc (.map #[] 0) := ⟨_, rfl⟩
  rw [← hw2] at mm hb2 HS
  rw [← hm] at mm HS
  have HB2 := hide hb2
  have hmw : w.heap.size ≤ m := by omega
  rw [← hN] at hl1 HL ⊢
  obtain ⟨R, hR⟩ : ∃ R, R = apartT (l.map (fun x => x.type)) := ⟨_, rfl⟩
  rw [← hR]
  have HR := hide hR
  clear hl hfit hb2 hN hm hw2 hR
  go_enter Tryz.func50, Tryz.ntmps50
  go_wp2_with fail
  clear mm
  go_loopw [7, 8, 9, 10, 14] (fun _ _ _ _ i wr => ∃ (k : Nat), k ≤ N ∧ i = .int .i64 k ∧ Hid (apartT ((l.map (fun x => x.type)).take k) = true) ∧ Hid (SsAt wr m ((l.map (fun x => x.type)).take k)) ∧ Hid (Below w.heap.size w wr)) (fun _ _ _ _ i _ => N - (intOf i).toNat)
  case atStart => exact ⟨0, by omega, rfl, hide (by simp [apartT, distinctT]), HS, HB2⟩
  case round =>
    obtain ⟨k, hk, rfl, HA, HSk, HB⟩ := hrel
    clear HS HB2
    by_cases hlt : k < N
    · obtain ⟨x, huk⟩ : ∃ u, l[k]? = some u := ⟨_, List.getElem?_eq_getElem (by have := unhide HN; omega)⟩
      have HUk := hide (show (l.map (fun x => x.type))[k]? = some x.type by rw [List.getElem?_map, huk]; rfl)
      have hfx := unhide HFit x (List.mem_of_getElem? huk)
      obtain ⟨b, off, hma, -, d0, d1, d2, -⟩ := ((unhide HL).grown (fun _ _ _ _ _ => EvR.grown) (unhide HB)).at huk
      rw [hma]
      clear huk
      go_upto_region 5 with fail
      have hb4 : Below wr.heap.size wr (wr.alloc (.cells x.v 74)) := (Below.refl _ _).alloc (Nat.le_refl _) _
      have hx4 : (wr.alloc (.cells x.v 74)).heap[wr.heap.size]? = some (.cells x.v 74) := heap_alloc_new _ _
      have hb24 := (unhide HB).trans (hb4.mono (unhide HB).size)
      have HS4 := hide ((unhide HSk).below hb4 (Nat.le_refl _))
      obtain ⟨w4, hw4⟩ : ∃ w4, w4 = wr.alloc (.cells x.v 74) := ⟨_, rfl⟩
      rw [show wr.alloc (.cells #[Value.string ⟨x.type.toArray⟩, .slice x.sa x.sets.length x.sc, .slice x.da x.drops.length x.dc] 74) = w4 from hw4.symm]
      rw [← hw4] at hx4 hb24 HS4
      obtain ⟨p4, hp4⟩ : ∃ p4, p4 = wr.heap.size := ⟨_, rfl⟩
      rw [← hp4] at hx4 ⊢
      have HB4 := hide hb24
      have z0 : w4.cell? ⟨p4, 0, none⟩ = some (sv x.type) := (cell_of_row _ _ _ _ _ _ hx4).trans rfl; have z1 : w4.cell? ⟨p4, 1, none⟩ = some (.slice x.sa x.sets.length x.sc) := (cell_of_row _ _ _ _ _ _ hx4).trans rfl; have z2 : w4.cell? ⟨p4, 2, none⟩ = some (.slice x.da x.drops.length x.dc) := (cell_of_row _ _ _ _ _ _ hx4).trans rfl
      have HC4 := hide (umisnamedC2_any x w4)
      clear hb4 hw4 hp4 d0 d1 d2 hx4 hb24
      cases hin : ((l.map (fun x => x.type)).take k).contains x.type with
      | true =>
        have HX := hide ((unhide HR).trans (apart_bad (unhide HUk) (.inl hin)))
        have HIn := hide hin
        clear hin
        go_wp2_with (go_at_call 51; refine (unhide HC4).mono ?_; rintro e w5 ⟨rfl, b5⟩; have HB5 := hide ((unhide HB4).trans (b5.mono (unhide HB4).size)); have lk := ((unhide HS4).below b5 (Nat.le_refl _)).look x.type (by unfold maxLen; omega); rw [unhide HIn] at lk; have HB6 : Hid (Below w.heap.size w (w5.alloc (.cells #[] 141))) := hide ((unhide HB5).alloc (unhide HB5).size _); clear b5)
        go_ret
        exact ⟨by rw [unhide HX]; rfl, unhide HB6⟩
      | false =>
        have HIn := hide hin
        have HNm : Hid (∀ W, Calls Tryz.prog 54 #[sv x.type] W fun e w' => e = .returned (.bool (nameB x.type)) ∧ W = w') := hide (fun W => Name_any x.type W (by omega))
        cases hnb : nameB x.type with
        | false =>
          have HX := hide ((unhide HR).trans (apart_bad (unhide HUk) (.inr hnb)))
          rw [hnb] at HNm
          clear hin hnb
          go_wp2_with (first | (go_at_call 54; refine (unhide HNm _).mono ?_; rintro e w6 ⟨rfl, rfl⟩) | (go_at_call 51; refine (unhide HC4).mono ?_; rintro e w5 ⟨rfl, b5⟩; have HB5 := hide ((unhide HB4).trans (b5.mono (unhide HB4).size)); have lk := ((unhide HS4).below b5 (Nat.le_refl _)).look x.type (by unfold maxLen; omega); rw [unhide HIn] at lk; have HB6 : Hid (Below w.heap.size w (w5.alloc (.cells #[] 141))) := hide ((unhide HB5).alloc (unhide HB5).size _); clear b5))
          go_ret
          exact ⟨by rw [unhide HX]; rfl, unhide HB6⟩
        | true =>
          have HA2 := hide (apart_next (unhide HUk) (unhide HA) hin hnb)
          have hlk : ((l.map (fun x => x.type)).take k).length = k := by simp; have := unhide HN; omega
          have hts : (l.map (fun x => x.type)).take (k + 1) = (l.map (fun x => x.type)).take k ++ [x.type] := by rw [List.take_add_one, unhide HUk]; rfl
          have HPut : Hid (∀ W, SsAt W m ((l.map (fun x => x.type)).take k) → Below w.heap.size w W → ∃ w', (Instr.mapUpdate 140 (.map (some m)) (sv x.type) (.agg #[])).run Tryz.prog W = .ok () w' ∧ SsAt w' m ((l.map (fun x => x.type)).take (k + 1)) ∧ Below w.heap.size w w') := hide (fun W h hbW => by
            obtain ⟨w', hrun, hf, hg⟩ := h.put x.type (by unfold maxLen; omega) hin (by rw [hlk]; omega)
            exact ⟨w', hrun, by rw [hts]; exact hf, hbW.grown hg hbW.size (fun k e => by cases e; exact hmw)⟩)
          rw [hnb] at HNm
          clear hin hnb hlk hts
          go_wp2_with (first | (go_at_call 54; refine (unhide HNm _).mono ?_; rintro e w6 ⟨rfl, rfl⟩) | (go_at_call 51; refine (unhide HC4).mono ?_; rintro e w5 ⟨rfl, b5⟩; have HB5 := hide ((unhide HB4).trans (b5.mono (unhide HB4).size)); have hs5 := (unhide HS4).below b5 (Nat.le_refl _); have lk := hs5.look x.type (by unfold maxLen; omega); rw [unhide HIn] at lk; have b6 : Below w5.heap.size w5 (w5.alloc (.cells #[] 141)) := (Below.refl _ _).alloc (Nat.le_refl _) _; obtain ⟨w7, hrun, hs7, hb7⟩ := unhide HPut (w5.alloc (.cells #[] 141)) (hs5.below b6 (Nat.le_refl _)) ((unhide HB5).trans (b6.mono (unhide HB5).size)); have HS7 := hide hs7; have HB7 := hide hb7; clear b5 b6 hs5 hs7 hb7))
          go_roundw
          case rel => exact ⟨k + 1, by omega, by go_num, HA2, HS7, HB7⟩
          case measure => simp [intOf]; omega
    · have HX : Hid (R = true) := hide (by
        rw [unhide HR]
        have := unhide HA
        rwa [List.take_of_length_le (by simp; have := unhide HN; omega)] at this)
      go_wp2_with fail
      go_ret
      exact ⟨by rw [unhide HX]; rfl, unhide HB⟩

theorem umisnamedC3_any (x : Ne) (w : World) : Calls Tryz.prog 53 #[.agg #[sv x.nm, .bool x.text]] w fun e w' => e = .returned (sv x.nm) ∧ Below w.heap.size w w' := by
  have HB := hide ((Below.refl w.heap.size w).alloc (Nat.le_refl _) (.cells #[sv x.nm, .bool x.text] 96))
  go_enter Tryz.func53, Tryz.ntmps53
  go_wp2_with fail
  go_ret
  exact ⟨rfl, unhide HB⟩

set_option maxRecDepth 20000 in
set_option maxHeartbeats 4000000 in
theorem apartN_any (a : Option Addr) (c : Nat) (l : List Ne) (w : World) (hl : SlOf 2 NeAt w (.slice a l.length c) l) (hfit : ∀ x ∈ l, x.nm.length ≤ 140737488355328) :
    Calls Tryz.prog 52 #[.slice a l.length c, .func (.func 53) #[] #[]] w fun e w' => e = .returned (.bool (apartT (l.map (fun x => x.nm)))) ∧ Below w.heap.size w w' := by
  obtain ⟨-, hl1, hl2⟩ := hl.len
  have mm : (Instr.makeMap 140 none).run Tryz.prog w = .ok (.map (some w.heap.size)) (w.alloc (.map #[] 0)) := by simp [Instr.makeMap]
  have hb2 : Below w.heap.size w (w.alloc (.map #[] 0)) := (Below.refl _ _).alloc (Nat.le_refl _) _
  have HS : Hid (SsAt (w.alloc (.map #[] 0)) w.heap.size ((l.map (fun x => x.nm)).take 0)) := hide (by simpa using SsAt.made w)
  have HL := hide hl
  have HFit := hide hfit
  obtain ⟨N, hN⟩ : ∃ N, N = l.length := ⟨_, rfl⟩
  have HN := hide hN
  obtain ⟨m, hm⟩ : ∃ m, m = w.heap.size := ⟨_, rfl⟩
  obtain ⟨w2, hw2⟩ : ∃ w2, w2 = w.alloc (.map #[] 0) := ⟨_, rfl⟩
  rw [← hw2] at mm hb2 HS
  rw [← hm] at mm HS
  have HB2 := hide hb2
  have hmw : w.heap.size ≤ m := by omega
  rw [← hN] at hl1 HL ⊢
  obtain ⟨R, hR⟩ : ∃ R, R = apartT (l.map (fun x => x.nm)) := ⟨_, rfl⟩
  rw [← hR]
  have HR := hide hR
  clear hl hfit hb2 hN hm hw2 hR
  go_enter Tryz.func52, Tryz.ntmps52
  go_wp2_with fail
  clear mm
  go_loopw [7, 8, 9, 10, 14] (fun _ _ _ _ i wr => ∃ (k : Nat), k ≤ N ∧ i = .int .i64 k ∧ Hid (apartT ((l.map (fun x => x.nm)).take k) = true) ∧ Hid (SsAt wr m ((l.map (fun x => x.nm)).take k)) ∧ Hid (Below w.heap.size w wr)) (fun _ _ _ _ i _ => N - (intOf i).toNat)
  case atStart => exact ⟨0, by omega, rfl, hide (by simp [apartT, distinctT]), HS, HB2⟩
  case round =>
    obtain ⟨k, hk, rfl, HA, HSk, HB⟩ := hrel
    clear HS HB2
    by_cases hlt : k < N
    · obtain ⟨x, huk⟩ : ∃ u, l[k]? = some u := ⟨_, List.getElem?_eq_getElem (by have := unhide HN; omega)⟩
      have HUk := hide (show (l.map (fun x => x.nm))[k]? = some x.nm by rw [List.getElem?_map, huk]; rfl)
      have hfx := unhide HFit x (List.mem_of_getElem? huk)
      obtain ⟨b, off, hma, -, d0, d1⟩ := ((unhide HL).grown (fun _ _ _ _ _ => NeAt.grown) (unhide HB)).at huk
      rw [hma]
      clear huk
      go_upto_region 5 with fail
      have hb4 : Below wr.heap.size wr (wr.alloc (.cells #[sv x.nm, .bool x.text] 96)) := (Below.refl _ _).alloc (Nat.le_refl _) _
      have hx4 : (wr.alloc (.cells #[sv x.nm, .bool x.text] 96)).heap[wr.heap.size]? = some (.cells #[sv x.nm, .bool x.text] 96) := heap_alloc_new _ _
      have hb24 := (unhide HB).trans (hb4.mono (unhide HB).size)
      have HS4 := hide ((unhide HSk).below hb4 (Nat.le_refl _))
      obtain ⟨w4, hw4⟩ : ∃ w4, w4 = wr.alloc (.cells #[sv x.nm, .bool x.text] 96) := ⟨_, rfl⟩
      rw [show wr.alloc (.cells #[Value.string ⟨x.nm.toArray⟩, .bool x.text] 96) = w4 from hw4.symm]
      rw [← hw4] at hx4 hb24 HS4
      obtain ⟨p4, hp4⟩ : ∃ p4, p4 = wr.heap.size := ⟨_, rfl⟩
      rw [← hp4] at hx4 ⊢
      have HB4 := hide hb24
      have z0 : w4.cell? ⟨p4, 0, none⟩ = some (sv x.nm) := (cell_of_row _ _ _ _ _ _ hx4).trans rfl; have z1 : w4.cell? ⟨p4, 1, none⟩ = some (.bool x.text) := (cell_of_row _ _ _ _ _ _ hx4).trans rfl
      have HC4 := hide (umisnamedC3_any x w4)
      clear hb4 hw4 hp4 d0 d1 hx4 hb24
      cases hin : ((l.map (fun x => x.nm)).take k).contains x.nm with
      | true =>
        have HX := hide ((unhide HR).trans (apart_bad (unhide HUk) (.inl hin)))
        have HIn := hide hin
        clear hin
        go_wp2_with (go_at_call 53; refine (unhide HC4).mono ?_; rintro e w5 ⟨rfl, b5⟩; have HB5 := hide ((unhide HB4).trans (b5.mono (unhide HB4).size)); have lk := ((unhide HS4).below b5 (Nat.le_refl _)).look x.nm (by unfold maxLen; omega); rw [unhide HIn] at lk; have HB6 : Hid (Below w.heap.size w (w5.alloc (.cells #[] 141))) := hide ((unhide HB5).alloc (unhide HB5).size _); clear b5)
        go_ret
        exact ⟨by rw [unhide HX]; rfl, unhide HB6⟩
      | false =>
        have HIn := hide hin
        have HNm : Hid (∀ W, Calls Tryz.prog 54 #[sv x.nm] W fun e w' => e = .returned (.bool (nameB x.nm)) ∧ W = w') := hide (fun W => Name_any x.nm W (by omega))
        cases hnb : nameB x.nm with
        | false =>
          have HX := hide ((unhide HR).trans (apart_bad (unhide HUk) (.inr hnb)))
          rw [hnb] at HNm
          clear hin hnb
          go_wp2_with (first | (go_at_call 54; refine (unhide HNm _).mono ?_; rintro e w6 ⟨rfl, rfl⟩) | (go_at_call 53; refine (unhide HC4).mono ?_; rintro e w5 ⟨rfl, b5⟩; have HB5 := hide ((unhide HB4).trans (b5.mono (unhide HB4).size)); have lk := ((unhide HS4).below b5 (Nat.le_refl _)).look x.nm (by unfold maxLen; omega); rw [unhide HIn] at lk; have HB6 : Hid (Below w.heap.size w (w5.alloc (.cells #[] 141))) := hide ((unhide HB5).alloc (unhide HB5).size _); clear b5))
          go_ret
          exact ⟨by rw [unhide HX]; rfl, unhide HB6⟩
        | true =>
          have HA2 := hide (apart_next (unhide HUk) (unhide HA) hin hnb)
          have hlk : ((l.map (fun x => x.nm)).take k).length = k := by simp; have := unhide HN; omega
          have hts : (l.map (fun x => x.nm)).take (k + 1) = (l.map (fun x => x.nm)).take k ++ [x.nm] := by rw [List.take_add_one, unhide HUk]; rfl
          have HPut : Hid (∀ W, SsAt W m ((l.map (fun x => x.nm)).take k) → Below w.heap.size w W → ∃ w', (Instr.mapUpdate 140 (.map (some m)) (sv x.nm) (.agg #[])).run Tryz.prog W = .ok () w' ∧ SsAt w' m ((l.map (fun x => x.nm)).take (k + 1)) ∧ Below w.heap.size w w') := hide (fun W h hbW => by
            obtain ⟨w', hrun, hf, hg⟩ := h.put x.nm (by unfold maxLen; omega) hin (by rw [hlk]; omega)
            exact ⟨w', hrun, by rw [hts]; exact hf, hbW.grown hg hbW.size (fun k e => by cases e; exact hmw)⟩)
          rw [hnb] at HNm
          clear hin hnb hlk hts
          go_wp2_with (first | (go_at_call 54; refine (unhide HNm _).mono ?_; rintro e w6 ⟨rfl, rfl⟩) | (go_at_call 53; refine (unhide HC4).mono ?_; rintro e w5 ⟨rfl, b5⟩; have HB5 := hide ((unhide HB4).trans (b5.mono (unhide HB4).size)); have hs5 := (unhide HS4).below b5 (Nat.le_refl _); have lk := hs5.look x.nm (by unfold maxLen; omega); rw [unhide HIn] at lk; have b6 : Below w5.heap.size w5 (w5.alloc (.cells #[] 141)) := (Below.refl _ _).alloc (Nat.le_refl _) _; obtain ⟨w7, hrun, hs7, hb7⟩ := unhide HPut (w5.alloc (.cells #[] 141)) (hs5.below b6 (Nat.le_refl _)) ((unhide HB5).trans (b6.mono (unhide HB5).size)); have HS7 := hide hs7; have HB7 := hide hb7; clear b5 b6 hs5 hs7 hb7))
          go_roundw
          case rel => exact ⟨k + 1, by omega, by go_num, HA2, HS7, HB7⟩
          case measure => simp [intOf]; omega
    · have HX : Hid (R = true) := hide (by
        rw [unhide HR]
        have := unhide HA
        rwa [List.take_of_length_le (by simp; have := unhide HN; omega)] at this)
      go_wp2_with fail
      go_ret
      exact ⟨by rw [unhide HX]; rfl, unhide HB⟩

theorem umisnamedC4_any (x : AsV) (w : World) : Calls Tryz.prog 56 #[.agg x.v] w fun e w' => e = .returned (sv x.nm) ∧ Below w.heap.size w w' := by
  have HB := hide ((Below.refl w.heap.size w).alloc (Nat.le_refl _) (.cells x.v 77))
  go_enter Tryz.func56, Tryz.ntmps56
  go_wp2_with fail
  go_ret
  exact ⟨rfl, unhide HB⟩

set_option maxRecDepth 20000 in
set_option maxHeartbeats 4000000 in
theorem apartA_any (a : Option Addr) (c : Nat) (l : List AsV) (w : World) (hl : SlOf 5 AsR w (.slice a l.length c) l) (hfit : ∀ x ∈ l, x.nm.length ≤ 140737488355328) :
    Calls Tryz.prog 55 #[.slice a l.length c, .func (.func 56) #[] #[]] w fun e w' => e = .returned (.bool (apartT (l.map (fun x => x.nm)))) ∧ Below w.heap.size w w' := by
  obtain ⟨-, hl1, hl2⟩ := hl.len
  have mm : (Instr.makeMap 140 none).run Tryz.prog w = .ok (.map (some w.heap.size)) (w.alloc (.map #[] 0)) := by simp [Instr.makeMap]
  have hb2 : Below w.heap.size w (w.alloc (.map #[] 0)) := (Below.refl _ _).alloc (Nat.le_refl _) _
  have HS : Hid (SsAt (w.alloc (.map #[] 0)) w.heap.size ((l.map (fun x => x.nm)).take 0)) := hide (by simpa using SsAt.made w)
  have HL := hide hl
  have HFit := hide hfit
  obtain ⟨N, hN⟩ : ∃ N, N = l.length := ⟨_, rfl⟩
  have HN := hide hN
  obtain ⟨m, hm⟩ : ∃ m, m = w.heap.size := ⟨_, rfl⟩
  obtain ⟨w2, hw2⟩ : ∃ w2, w2 = w.alloc (.map #[] 0) := ⟨_, rfl⟩
  rw [← hw2] at mm hb2 HS
  rw [← hm] at mm HS
  have HB2 := hide hb2
  have hmw : w.heap.size ≤ m := by omega
  rw [← hN] at hl1 HL ⊢
  obtain ⟨R, hR⟩ : ∃ R, R = apartT (l.map (fun x => x.nm)) := ⟨_, rfl⟩
  rw [← hR]
  have HR := hide hR
  clear hl hfit hb2 hN hm hw2 hR
  go_enter Tryz.func55, Tryz.ntmps55
  go_wp2_with fail
  clear mm
  go_loopw [7, 8, 9, 10, 14] (fun _ _ _ _ i wr => ∃ (k : Nat), k ≤ N ∧ i = .int .i64 k ∧ Hid (apartT ((l.map (fun x => x.nm)).take k) = true) ∧ Hid (SsAt wr m ((l.map (fun x => x.nm)).take k)) ∧ Hid (Below w.heap.size w wr)) (fun _ _ _ _ i _ => N - (intOf i).toNat)
  case atStart => exact ⟨0, by omega, rfl, hide (by simp [apartT, distinctT]), HS, HB2⟩
  case round =>
    obtain ⟨k, hk, rfl, HA, HSk, HB⟩ := hrel
    clear HS HB2
    by_cases hlt : k < N
    · obtain ⟨x, huk⟩ : ∃ u, l[k]? = some u := ⟨_, List.getElem?_eq_getElem (by have := unhide HN; omega)⟩
      have HUk := hide (show (l.map (fun x => x.nm))[k]? = some x.nm by rw [List.getElem?_map, huk]; rfl)
      have hfx := unhide HFit x (List.mem_of_getElem? huk)
      obtain ⟨b, off, hma, -, d0, d1, d2, d3, d4, -⟩ := ((unhide HL).grown (fun _ _ _ _ _ => AsR.grown) (unhide HB)).at huk
      replace d2 : wr.cell? ⟨b, off + k * 5 + 2, none⟩ = _ := d2
      replace d3 : wr.cell? ⟨b, off + k * 5 + 3, none⟩ = _ := d3
      replace d4 : wr.cell? ⟨b, off + k * 5 + 4, none⟩ = _ := d4
      rw [hma]
      clear huk
      go_upto_region 5 with fail
      have hb4 : Below wr.heap.size wr (wr.alloc (.cells x.v 77)) := (Below.refl _ _).alloc (Nat.le_refl _) _
      have hx4 : (wr.alloc (.cells x.v 77)).heap[wr.heap.size]? = some (.cells x.v 77) := heap_alloc_new _ _
      have hb24 := (unhide HB).trans (hb4.mono (unhide HB).size)
      have HS4 := hide ((unhide HSk).below hb4 (Nat.le_refl _))
      obtain ⟨w4, hw4⟩ : ∃ w4, w4 = wr.alloc (.cells x.v 77) := ⟨_, rfl⟩
      rw [show wr.alloc (.cells #[Value.string ⟨x.nm.toArray⟩, .int .i64 x.e.x.kind, .int .i64 x.e.x.n, .string ⟨x.e.x.s.toArray⟩, .slice x.e.a x.e.x.args.length x.e.c] 77) = w4 from hw4.symm]
      rw [← hw4] at hx4 hb24 HS4
      obtain ⟨p4, hp4⟩ : ∃ p4, p4 = wr.heap.size := ⟨_, rfl⟩
      rw [← hp4] at hx4 ⊢
      have HB4 := hide hb24
      have z0 : w4.cell? ⟨p4, 0, none⟩ = some (sv x.nm) := (cell_of_row _ _ _ _ _ _ hx4).trans rfl; have z1 : w4.cell? ⟨p4, 1, none⟩ = some (.int .i64 x.e.x.kind) := (cell_of_row _ _ _ _ _ _ hx4).trans rfl; have z2 : w4.cell? ⟨p4, 2, none⟩ = some (.int .i64 x.e.x.n) := (cell_of_row _ _ _ _ _ _ hx4).trans rfl; have z3 : w4.cell? ⟨p4, 3, none⟩ = some (sv x.e.x.s) := (cell_of_row _ _ _ _ _ _ hx4).trans rfl; have z4 : w4.cell? ⟨p4, 4, none⟩ = some (.slice x.e.a x.e.x.args.length x.e.c) := (cell_of_row _ _ _ _ _ _ hx4).trans rfl
      have HC4 := hide (umisnamedC4_any x w4)
      clear hb4 hw4 hp4 d0 d1 d2 d3 d4 hx4 hb24
      cases hin : ((l.map (fun x => x.nm)).take k).contains x.nm with
      | true =>
        have HX := hide ((unhide HR).trans (apart_bad (unhide HUk) (.inl hin)))
        have HIn := hide hin
        clear hin
        go_wp2_with (go_at_call 56; refine (unhide HC4).mono ?_; rintro e w5 ⟨rfl, b5⟩; have HB5 := hide ((unhide HB4).trans (b5.mono (unhide HB4).size)); have lk := ((unhide HS4).below b5 (Nat.le_refl _)).look x.nm (by unfold maxLen; omega); rw [unhide HIn] at lk; have HB6 : Hid (Below w.heap.size w (w5.alloc (.cells #[] 141))) := hide ((unhide HB5).alloc (unhide HB5).size _); clear b5)
        go_ret
        exact ⟨by rw [unhide HX]; rfl, unhide HB6⟩
      | false =>
        have HIn := hide hin
        have HNm : Hid (∀ W, Calls Tryz.prog 54 #[sv x.nm] W fun e w' => e = .returned (.bool (nameB x.nm)) ∧ W = w') := hide (fun W => Name_any x.nm W (by omega))
        cases hnb : nameB x.nm with
        | false =>
          have HX := hide ((unhide HR).trans (apart_bad (unhide HUk) (.inr hnb)))
          rw [hnb] at HNm
          clear hin hnb
          go_wp2_with (first | (go_at_call 54; refine (unhide HNm _).mono ?_; rintro e w6 ⟨rfl, rfl⟩) | (go_at_call 56; refine (unhide HC4).mono ?_; rintro e w5 ⟨rfl, b5⟩; have HB5 := hide ((unhide HB4).trans (b5.mono (unhide HB4).size)); have lk := ((unhide HS4).below b5 (Nat.le_refl _)).look x.nm (by unfold maxLen; omega); rw [unhide HIn] at lk; have HB6 : Hid (Below w.heap.size w (w5.alloc (.cells #[] 141))) := hide ((unhide HB5).alloc (unhide HB5).size _); clear b5))
          go_ret
          exact ⟨by rw [unhide HX]; rfl, unhide HB6⟩
        | true =>
          have HA2 := hide (apart_next (unhide HUk) (unhide HA) hin hnb)
          have hlk : ((l.map (fun x => x.nm)).take k).length = k := by simp; have := unhide HN; omega
          have hts : (l.map (fun x => x.nm)).take (k + 1) = (l.map (fun x => x.nm)).take k ++ [x.nm] := by rw [List.take_add_one, unhide HUk]; rfl
          have HPut : Hid (∀ W, SsAt W m ((l.map (fun x => x.nm)).take k) → Below w.heap.size w W → ∃ w', (Instr.mapUpdate 140 (.map (some m)) (sv x.nm) (.agg #[])).run Tryz.prog W = .ok () w' ∧ SsAt w' m ((l.map (fun x => x.nm)).take (k + 1)) ∧ Below w.heap.size w w') := hide (fun W h hbW => by
            obtain ⟨w', hrun, hf, hg⟩ := h.put x.nm (by unfold maxLen; omega) hin (by rw [hlk]; omega)
            exact ⟨w', hrun, by rw [hts]; exact hf, hbW.grown hg hbW.size (fun k e => by cases e; exact hmw)⟩)
          rw [hnb] at HNm
          clear hin hnb hlk hts
          go_wp2_with (first | (go_at_call 54; refine (unhide HNm _).mono ?_; rintro e w6 ⟨rfl, rfl⟩) | (go_at_call 56; refine (unhide HC4).mono ?_; rintro e w5 ⟨rfl, b5⟩; have HB5 := hide ((unhide HB4).trans (b5.mono (unhide HB4).size)); have hs5 := (unhide HS4).below b5 (Nat.le_refl _); have lk := hs5.look x.nm (by unfold maxLen; omega); rw [unhide HIn] at lk; have b6 : Below w5.heap.size w5 (w5.alloc (.cells #[] 141)) := (Below.refl _ _).alloc (Nat.le_refl _) _; obtain ⟨w7, hrun, hs7, hb7⟩ := unhide HPut (w5.alloc (.cells #[] 141)) (hs5.below b6 (Nat.le_refl _)) ((unhide HB5).trans (b6.mono (unhide HB5).size)); have HS7 := hide hs7; have HB7 := hide hb7; clear b5 b6 hs5 hs7 hb7))
          go_roundw
          case rel => exact ⟨k + 1, by omega, by go_num, HA2, HS7, HB7⟩
          case measure => simp [intOf]; omega
    · have HX : Hid (R = true) := hide (by
        rw [unhide HR]
        have := unhide HA
        rwa [List.take_of_length_le (by simp; have := unhide HN; omega)] at this)
      go_wp2_with fail
      go_ret
      exact ⟨by rw [unhide HX]; rfl, unhide HB⟩
end Go.Proofs.YtingpmgpjmlioaaGreatDoor

namespace Go.Proofs.YtingpmgpjmlioaaGreatDoor
open Go.RowKit
set_option linter.unusedVariables false

theorem NRow.slof {w : World} {base : Nat} {v : Value} {l : List Nd} (h : NRow w base v l) (hat : ∀ x ∈ l, x.at w) : ∃ a c, v = .slice a l.length c ∧ SlOf 4 NdR w (.slice a l.length c) l := by
  obtain ⟨h1, h2⟩ := h
  rcases h2 with ⟨rfl, e⟩ | ⟨g, cap, cur, rfl, hb, hg, hn, hm, hs, ht⟩
  · have : l = [] := List.length_eq_zero_iff.1 e
    subst this
    exact ⟨none, 0, rfl, SlOf.nil w⟩
  · refine ⟨_, cap, rfl, some ⟨g, 0, none⟩, cap, rfl, by omega, by unfold maxLen at hm; omega, fun _ => ⟨g, 0, rfl, lt_of_block hg, fun i x hi => ?_⟩⟩
    obtain ⟨hil, hix⟩ := List.getElem?_eq_some_iff.1 hi
    have at' : ∀ j u, j < l.length * 4 → (ncs l)[j]? = some u → w.cell? ⟨g, 0 + j, none⟩ = some u := by
      intro j u hj hu
      have e : (cur.toList.take (l.length * 4))[j]? = (ncs l)[j]? := by rw [ht]
      rw [List.getElem?_take_of_lt hj, hu] at e
      simp only [World.cell?, hg, Nat.zero_add]
      simpa using e
    obtain ⟨g0, g1, g2, g3⟩ := ncs_get l i hil
    rw [hix] at g0 g1 g2 g3
    exact ⟨at' _ _ (by omega) g0, at' _ _ (by omega) g1, at' _ _ (by omega) g2, at' _ _ (by omega) g3, hat x (List.mem_of_getElem? hi)⟩

set_option maxHeartbeats 2000000 in
theorem tooGreat_any (d : Nd) (w : World) (hd : d.at w) : Calls Tryz.prog 47 #[.agg (ndv d)] w fun e w' => e = .returned (.bool (manyX d.x)) ∧ Below w.heap.size w w' := by
  have hb1 : Below w.heap.size w (w.alloc (.cells (ndv d) 44)) := (Below.refl _ _).alloc (Nat.le_refl _) _
  have HC := hide (nodes_any d _ (Nd.grown hd hb1))
  have HB := hide hb1
  have HM : Hid (manyX d.x = decide (64 < (nodesX d.x).length)) := hide rfl
  clear hb1 hd
  simp only [ndv] at HC ⊢
  go_enter Tryz.func47, Tryz.ntmps47
  go_wp2_with (go_at_call 62; refine (unhide HC).mono ?_; rintro e w3 ⟨v, l, rfl, hr, hat, hl, b3⟩; obtain ⟨a, c, rfl, -⟩ := hr.slof (fun x hx => Nd.grown (hat x hx) b3); have HB3 := hide ((unhide HB).trans (b3.mono (unhide HB).size)); have HLn : Hid (l.length = (nodesX d.x).length) := hide (by rw [← hl]; simp); clear hr hat hl b3)
  go_ret
  refine ⟨?_, unhide HB3⟩
  rw [unhide HM, ← unhide HLn]
  show Ending.returned (.bool (decide ((64 : Int) < (l.length : Int)))) = _
  rw [show decide ((64 : Int) < (l.length : Int)) = decide (64 < l.length) from decide_eq_decide.2 (by omega)]

/-- Where the first one stands of which p holds; below 0: nowhere. -/
def ixB {α : Type} (p : α → Bool) (l : List α) : Int := match l.findIdx? p with
  | some i => (i : Nat)
  | none => -1
theorem ixB_ge {α : Type} (p : α → Bool) (l : List α) : decide (0 ≤ ixB p l) = l.any p := by
  unfold ixB
  cases h : l.findIdx? p with
  | none =>
    rw [List.findIdx?_eq_none_iff] at h
    have : l.any p = false := by rw [List.any_eq_false]; intro x hx; simp [h x hx]
    rw [this]; rfl
  | some i =>
    rw [List.findIdx?_eq_some_iff_getElem] at h
    obtain ⟨hl, hp, _⟩ := h
    have : l.any p = true := by rw [List.any_eq_true]; exact ⟨_, List.getElem_mem hl, hp⟩
    rw [this]; simp
theorem ixB_at {α : Type} {p : α → Bool} {l : List α} {k : Nat} {x : α} (h : ∀ a ∈ l.take k, p a = false) (hk : l[k]? = some x) (hx : p x = true) : ixB p l = (k : Int) := by
  obtain ⟨hl, he⟩ := List.getElem?_eq_some_iff.1 hk
  have hi : l.findIdx? p = some k := by
    rw [List.findIdx?_eq_some_iff_getElem]
    refine ⟨hl, by rw [he]; exact hx, fun j hj => ?_⟩
    have := h (l[j]'(by omega)) (by
      rw [List.mem_iff_getElem?]
      exact ⟨j, by rw [List.getElem?_take_of_lt hj, List.getElem?_eq_getElem (by omega)]⟩)
    simpa using this
  unfold ixB; rw [hi]
theorem ixB_none {α : Type} {p : α → Bool} {l : List α} (h : ∀ a ∈ l, p a = false) : ixB p l = -1 := by
  have hi : l.findIdx? p = none := by
    rw [List.findIdx?_eq_none_iff]; exact h
  unfold ixB; rw [hi]
theorem take_no {α : Type} {p : α → Bool} {l : List α} {k : Nat} {x : α} (h : ∀ a ∈ l.take k, p a = false) (hk : l[k]? = some x) (hx : p x = false) : ∀ a ∈ l.take (k + 1), p a = false := by
  intro u hu
  rw [List.take_add_one, hk] at hu
  rcases List.mem_append.1 hu with hu | hu
  · exact h u hu
  · simp at hu; rw [hu]; exact hx

theorem umisnamedC5_any (x : AsV) (w : World) : Calls Tryz.prog 58 #[.agg x.v] w fun e w' => e = .returned (.bool (!nameB x.nm)) ∧ Below w.heap.size w w' := by
  have HB := hide ((Below.refl w.heap.size w).alloc (Nat.le_refl _) (.cells x.v 77))
  have HN : Hid (∀ W, Calls Tryz.prog 54 #[sv x.nm] W fun e w' => e = .returned (.bool (nameB x.nm)) ∧ W = w') := hide (fun W => Name_any x.nm W (by have := x.fit; omega))
  go_enter Tryz.func58, Tryz.ntmps58
  go_wp2_with (go_at_call 54; refine (unhide HN _).mono ?_; rintro e w3 ⟨rfl, rfl⟩)
  go_ret
  exact ⟨rfl, unhide HB⟩
theorem umisnamedC6_any (x : List UInt8) (hx : x.length ≤ 140737488355328) (w : World) : Calls Tryz.prog 60 #[sv x] w fun e w' => e = .returned (.bool (!nameB x)) ∧ Below w.heap.size w w' := by
  have HB := hide (Below.refl w.heap.size w)
  have HN : Hid (∀ W, Calls Tryz.prog 54 #[sv x] W fun e w' => e = .returned (.bool (nameB x)) ∧ W = w') := hide (fun W => Name_any x W (by omega))
  go_enter Tryz.func60, Tryz.ntmps60
  go_wp2_with (go_at_call 54; refine (unhide HN _).mono ?_; rintro e w3 ⟨rfl, rfl⟩)
  go_ret
  exact ⟨rfl, unhide HB⟩
theorem Nd.text {d : Nd} {w : World} (h : d.at w) : d.x.s.length ≤ 140737488355328 := by
  unfold Nd.at at h
  cases h; assumption
theorem umisnamedC7_any (x : Nd) (w : World) (hx : x.at w) : Calls Tryz.prog 63 #[.agg (ndv x)] w fun e w' => e = .returned (.bool (nmsX x.x && !nameB x.x.s)) ∧ Below w.heap.size w w' := by
  have hb1 : Below w.heap.size w (w.alloc (.cells (ndv x) 44)) := (Below.refl _ _).alloc (Nat.le_refl _) _
  have hx1 : XBox (w.alloc (.cells (ndv x) 44)) w.heap.size x.x x.a x.c := heap_alloc_new _ _
  have HN : Hid (∀ W, Calls Tryz.prog 54 #[sv x.x.s] W fun e w' => e = .returned (.bool (nameB x.x.s)) ∧ W = w') := hide (fun W => Name_any x.x.s W (by have := Nd.text hx; omega))
  have HC := hide (namesField_any x.x x.a x.c (w.alloc (.cells (ndv x) 44)))
  have HB := hide hb1
  have HX := hide hx1
  clear hb1 hx1 hx
  simp only [ndv] at HC ⊢
  cases hn : nmsX x.x with
  | false =>
    rw [hn] at HC
    clear hn
    go_enter Tryz.func63, Tryz.ntmps63
    go_wp2_with (go_at_call 64; refine (unhide HC).mono ?_; rintro e w3 ⟨rfl, b3⟩; have HB3 := hide ((unhide HB).trans (b3.mono (unhide HB).size)); clear b3)
    go_ret
    exact ⟨rfl, unhide HB3⟩
  | true =>
    rw [hn] at HC
    clear hn
    go_enter Tryz.func63, Tryz.ntmps63
    go_wp2_with (first | (go_at_call 54; refine (unhide HN _).mono ?_; rintro e w4 ⟨rfl, rfl⟩) | (go_at_call 64; refine (unhide HC).mono ?_; rintro e w3 ⟨rfl, b3⟩; have HB3 := hide ((unhide HB).trans (b3.mono (unhide HB).size)); obtain ⟨-, -, x2, -, -⟩ := ((unhide HX).below b3 (Nat.le_refl _)).cells; clear b3))
    go_ret
    exact ⟨rfl, unhide HB3⟩
theorem umisformedC1_go (k n : Int) (s : List UInt8) (a : Option Addr) (m c : Nat) (w : World) (hle : s.length ≤ 140737488355328) : Calls Tryz.prog 67 #[.agg #[.int .i64 k, .int .i64 n, sv s, .slice a m c]] w fun e w' => e = .returned (.bool (decide (k = 2) && decide (200 < s.length))) ∧ Below w.heap.size w w' := by
  have HB := hide ((Below.refl w.heap.size w).alloc (Nat.le_refl _) (.cells #[.int .i64 k, .int .i64 n, sv s, .slice a m c] 44))
  by_cases hk : k = 2
  · subst hk
    go_enter Tryz.func67, Tryz.ntmps67
    go_wp2_with fail
    go_ret
    refine ⟨?_, unhide HB⟩
    simp only [decide_true, Bool.true_and]
    show Ending.returned (.bool (decide ((200 : Int) < (s.length : Int)))) = _
    rw [show decide ((200 : Int) < (s.length : Int)) = decide (200 < s.length) from decide_eq_decide.2 (by omega)]
  · have hk' : (k == 2) = false := by simp [hk]
    have hk2 : decide (k = 2) = false := by simp [hk]
    rw [hk2]
    go_enter Tryz.func67, Tryz.ntmps67
    go_wp2_with fail
    go_ret
    exact ⟨rfl, unhide HB⟩
theorem umisformedC1_any (x : Nd) (w : World) (hx : x.at w) : Calls Tryz.prog 67 #[.agg (ndv x)] w fun e w' => e = .returned (.bool (decide (x.x.kind = 2) && decide (200 < x.x.s.length))) ∧ Below w.heap.size w w' :=
  umisformedC1_go _ _ _ _ _ _ w (Nd.text hx)

set_option maxRecDepth 20000 in
set_option maxHeartbeats 4000000 in
theorem indexAssign_umisnamedC5 (a : Option Addr) (c : Nat) (l : List AsV) (p : AsV → Bool) (w : World) (hl : SlOf 5 AsR w (.slice a l.length c) l) (hf : ∀ (W : World) (x : AsV), x ∈ l → Below w.heap.size w W → Calls Tryz.prog 58 #[.agg x.v] W fun e w' => e = .returned (.bool (p x)) ∧ Below W.heap.size W w') :
    Calls Tryz.prog 91 #[.slice a l.length c, .func (.func 58) #[] #[]] w fun e w' => e = .returned (.int .i64 (ixB p l)) ∧ Below w.heap.size w w' := by
  obtain ⟨-, hl1, hl2⟩ := hl.len
  obtain ⟨N, hN⟩ : ∃ N, N = l.length := ⟨_, rfl⟩
  have HN := hide hN
  have HV := hide hl
  have HF := hide hf
  rw [← hN] at hl1 HV ⊢
  obtain ⟨R, hR⟩ : ∃ R, R = ixB p l := ⟨_, rfl⟩
  rw [← hR]
  have HR := hide hR
  clear hl hN hf hR
  go_enter Tryz.func91, Tryz.ntmps91
  go_wp2_with fail
  go_loopw [5, 8] (fun _ i wr => ∃ (k : Nat), k ≤ N ∧ i = .int .i64 k ∧ Hid (∀ v ∈ l.take k, p v = false) ∧ Hid (Below w.heap.size w wr)) (fun _ i _ => N - (intOf i).toNat)
  case atStart => exact ⟨0, by omega, rfl, hide (fun u hu => by simp at hu), hide (Below.refl _ _)⟩
  case round =>
    obtain ⟨k, hk, rfl, HA, HB⟩ := hrel
    by_cases hlt : k < N
    · obtain ⟨x, huk⟩ : ∃ u, l[k]? = some u := ⟨_, List.getElem?_eq_getElem (by have := unhide HN; omega)⟩
      obtain ⟨b, off, hma, -, d0, d1, d2, d3, d4, -⟩ := ((unhide HV).grown (fun _ _ _ _ _ => AsR.grown) (unhide HB)).at huk
      replace d2 : wr.cell? ⟨b, off + k * 5 + 2, none⟩ = _ := d2
      replace d3 : wr.cell? ⟨b, off + k * 5 + 3, none⟩ = _ := d3
      replace d4 : wr.cell? ⟨b, off + k * 5 + 4, none⟩ = _ := d4
      rw [hma]
      have HC := hide (unhide HF wr x (List.mem_of_getElem? huk) (unhide HB))
      cases hx : p x with
      | true =>
        have HX := hide ((unhide HR).trans (ixB_at (unhide HA) huk hx))
        rw [hx] at HC
        clear hx huk
        go_wp2_with (go_at_call 58; refine (unhide HC).mono ?_; rintro e w3 ⟨rfl, b3⟩; have HB3 := hide ((unhide HB).trans (b3.mono (unhide HB).size)); clear b3)
        go_ret
        exact ⟨by rw [unhide HX]; rfl, unhide HB3⟩
      | false =>
        have HA2 := hide (take_no (unhide HA) huk hx)
        rw [hx] at HC
        clear hx huk
        go_wp2_with (go_at_call 58; refine (unhide HC).mono ?_; rintro e w3 ⟨rfl, b3⟩; have HB3 := hide ((unhide HB).trans (b3.mono (unhide HB).size)); clear b3)
        go_roundw
        case rel => exact ⟨k + 1, by omega, by go_num, HA2, HB3⟩
        case measure => simp [intOf]; omega
    · have HX := hide ((unhide HR).trans (ixB_none (p := p) (l := l) (fun u hu => unhide HA u (by rw [List.take_of_length_le (by have := unhide HN; omega)]; exact hu))))
      go_wp2_with fail
      go_ret
      exact ⟨by rw [unhide HX]; rfl, unhide HB⟩

set_option maxHeartbeats 2000000 in
theorem containsAssign_umisnamedC5 (a : Option Addr) (c : Nat) (l : List AsV) (p : AsV → Bool) (w : World) (hl : SlOf 5 AsR w (.slice a l.length c) l) (hf : ∀ (W : World) (x : AsV), x ∈ l → Below w.heap.size w W → Calls Tryz.prog 58 #[.agg x.v] W fun e w' => e = .returned (.bool (p x)) ∧ Below W.heap.size W w') :
    Calls Tryz.prog 57 #[.slice a l.length c, .func (.func 58) #[] #[]] w fun e w' => e = .returned (.bool (l.any p)) ∧ Below w.heap.size w w' := by
  have HC := hide (indexAssign_umisnamedC5 a c l p w hl hf)
  have HG := hide (ixB_ge p l)
  obtain ⟨K, hK⟩ : ∃ K, K = ixB p l := ⟨_, rfl⟩
  rw [← hK] at HC HG
  clear hl hf hK
  go_enter Tryz.func57, Tryz.ntmps57
  go_wp2_with (go_at_call 91; refine (unhide HC).mono ?_; rintro e w3 ⟨rfl, b3⟩; have HB3 := hide b3; clear b3)
  go_ret
  exact ⟨by rw [← unhide HG]; rfl, unhide HB3⟩

set_option maxRecDepth 20000 in
set_option maxHeartbeats 4000000 in
theorem indexString_umisnamedC6 (a : Option Addr) (c : Nat) (l : List (List UInt8)) (p : (List UInt8) → Bool) (w : World) (hl : SlOf 1 StAt w (.slice a l.length c) l) (hf : ∀ (W : World) (x : (List UInt8)), x ∈ l → Below w.heap.size w W → Calls Tryz.prog 60 #[sv x] W fun e w' => e = .returned (.bool (p x)) ∧ Below W.heap.size W w') :
    Calls Tryz.prog 92 #[.slice a l.length c, .func (.func 60) #[] #[]] w fun e w' => e = .returned (.int .i64 (ixB p l)) ∧ Below w.heap.size w w' := by
  obtain ⟨-, hl1, hl2⟩ := hl.len
  obtain ⟨N, hN⟩ : ∃ N, N = l.length := ⟨_, rfl⟩
  have HN := hide hN
  have HV := hide hl
  have HF := hide hf
  rw [← hN] at hl1 HV ⊢
  obtain ⟨R, hR⟩ : ∃ R, R = ixB p l := ⟨_, rfl⟩
  rw [← hR]
  have HR := hide hR
  clear hl hN hf hR
  go_enter Tryz.func92, Tryz.ntmps92
  go_wp2_with fail
  go_loopw [5, 8] (fun _ i wr => ∃ (k : Nat), k ≤ N ∧ i = .int .i64 k ∧ Hid (∀ v ∈ l.take k, p v = false) ∧ Hid (Below w.heap.size w wr)) (fun _ i _ => N - (intOf i).toNat)
  case atStart => exact ⟨0, by omega, rfl, hide (fun u hu => by simp at hu), hide (Below.refl _ _)⟩
  case round =>
    obtain ⟨k, hk, rfl, HA, HB⟩ := hrel
    by_cases hlt : k < N
    · obtain ⟨x, huk⟩ : ∃ u, l[k]? = some u := ⟨_, List.getElem?_eq_getElem (by have := unhide HN; omega)⟩
      obtain ⟨b, off, hma, -, d0⟩ := ((unhide HV).grown (fun _ _ _ _ _ => StAt.grown) (unhide HB)).at huk
      unfold StAt at d0
      rw [Nat.mul_one] at d0
      rw [hma]
      have HC := hide (unhide HF wr x (List.mem_of_getElem? huk) (unhide HB))
      cases hx : p x with
      | true =>
        have HX := hide ((unhide HR).trans (ixB_at (unhide HA) huk hx))
        rw [hx] at HC
        clear hx huk
        go_wp2_with (go_at_call 60; refine (unhide HC).mono ?_; rintro e w3 ⟨rfl, b3⟩; have HB3 := hide ((unhide HB).trans (b3.mono (unhide HB).size)); clear b3)
        go_ret
        exact ⟨by rw [unhide HX]; rfl, unhide HB3⟩
      | false =>
        have HA2 := hide (take_no (unhide HA) huk hx)
        rw [hx] at HC
        clear hx huk
        go_wp2_with (go_at_call 60; refine (unhide HC).mono ?_; rintro e w3 ⟨rfl, b3⟩; have HB3 := hide ((unhide HB).trans (b3.mono (unhide HB).size)); clear b3)
        go_roundw
        case rel => exact ⟨k + 1, by omega, by go_num, HA2, HB3⟩
        case measure => simp [intOf]; omega
    · have HX := hide ((unhide HR).trans (ixB_none (p := p) (l := l) (fun u hu => unhide HA u (by rw [List.take_of_length_le (by have := unhide HN; omega)]; exact hu))))
      go_wp2_with fail
      go_ret
      exact ⟨by rw [unhide HX]; rfl, unhide HB⟩

set_option maxHeartbeats 2000000 in
theorem containsString_umisnamedC6 (a : Option Addr) (c : Nat) (l : List (List UInt8)) (p : (List UInt8) → Bool) (w : World) (hl : SlOf 1 StAt w (.slice a l.length c) l) (hf : ∀ (W : World) (x : (List UInt8)), x ∈ l → Below w.heap.size w W → Calls Tryz.prog 60 #[sv x] W fun e w' => e = .returned (.bool (p x)) ∧ Below W.heap.size W w') :
    Calls Tryz.prog 59 #[.slice a l.length c, .func (.func 60) #[] #[]] w fun e w' => e = .returned (.bool (l.any p)) ∧ Below w.heap.size w w' := by
  have HC := hide (indexString_umisnamedC6 a c l p w hl hf)
  have HG := hide (ixB_ge p l)
  obtain ⟨K, hK⟩ : ∃ K, K = ixB p l := ⟨_, rfl⟩
  rw [← hK] at HC HG
  clear hl hf hK
  go_enter Tryz.func59, Tryz.ntmps59
  go_wp2_with (go_at_call 92; refine (unhide HC).mono ?_; rintro e w3 ⟨rfl, b3⟩; have HB3 := hide b3; clear b3)
  go_ret
  exact ⟨by rw [← unhide HG]; rfl, unhide HB3⟩

set_option maxRecDepth 20000 in
set_option maxHeartbeats 4000000 in
theorem indexExpr_umisnamedC7 (a : Option Addr) (c : Nat) (l : List Nd) (p : Nd → Bool) (w : World) (hl : SlOf 4 NdR w (.slice a l.length c) l) (hf : ∀ (W : World) (x : Nd), x ∈ l → Below w.heap.size w W → Calls Tryz.prog 63 #[.agg (ndv x)] W fun e w' => e = .returned (.bool (p x)) ∧ Below W.heap.size W w') :
    Calls Tryz.prog 93 #[.slice a l.length c, .func (.func 63) #[] #[]] w fun e w' => e = .returned (.int .i64 (ixB p l)) ∧ Below w.heap.size w w' := by
  obtain ⟨-, hl1, hl2⟩ := hl.len
  obtain ⟨N, hN⟩ : ∃ N, N = l.length := ⟨_, rfl⟩
  have HN := hide hN
  have HV := hide hl
  have HF := hide hf
  rw [← hN] at hl1 HV ⊢
  obtain ⟨R, hR⟩ : ∃ R, R = ixB p l := ⟨_, rfl⟩
  rw [← hR]
  have HR := hide hR
  clear hl hN hf hR
  go_enter Tryz.func93, Tryz.ntmps93
  go_wp2_with fail
  go_loopw [5, 8] (fun _ i wr => ∃ (k : Nat), k ≤ N ∧ i = .int .i64 k ∧ Hid (∀ v ∈ l.take k, p v = false) ∧ Hid (Below w.heap.size w wr)) (fun _ i _ => N - (intOf i).toNat)
  case atStart => exact ⟨0, by omega, rfl, hide (fun u hu => by simp at hu), hide (Below.refl _ _)⟩
  case round =>
    obtain ⟨k, hk, rfl, HA, HB⟩ := hrel
    by_cases hlt : k < N
    · obtain ⟨x, huk⟩ : ∃ u, l[k]? = some u := ⟨_, List.getElem?_eq_getElem (by have := unhide HN; omega)⟩
      obtain ⟨b, off, hma, -, d0, d1, d2, d3, -⟩ := ((unhide HV).grown (fun _ _ _ _ _ => NdR.grown) (unhide HB)).at huk
      rw [hma]
      have HC := hide (unhide HF wr x (List.mem_of_getElem? huk) (unhide HB))
      cases hx : p x with
      | true =>
        have HX := hide ((unhide HR).trans (ixB_at (unhide HA) huk hx))
        rw [hx] at HC
        clear hx huk
        go_wp2_with (go_at_call 63; refine (unhide HC).mono ?_; rintro e w3 ⟨rfl, b3⟩; have HB3 := hide ((unhide HB).trans (b3.mono (unhide HB).size)); clear b3)
        go_ret
        exact ⟨by rw [unhide HX]; rfl, unhide HB3⟩
      | false =>
        have HA2 := hide (take_no (unhide HA) huk hx)
        rw [hx] at HC
        clear hx huk
        go_wp2_with (go_at_call 63; refine (unhide HC).mono ?_; rintro e w3 ⟨rfl, b3⟩; have HB3 := hide ((unhide HB).trans (b3.mono (unhide HB).size)); clear b3)
        go_roundw
        case rel => exact ⟨k + 1, by omega, by go_num, HA2, HB3⟩
        case measure => simp [intOf]; omega
    · have HX := hide ((unhide HR).trans (ixB_none (p := p) (l := l) (fun u hu => unhide HA u (by rw [List.take_of_length_le (by have := unhide HN; omega)]; exact hu))))
      go_wp2_with fail
      go_ret
      exact ⟨by rw [unhide HX]; rfl, unhide HB⟩

set_option maxHeartbeats 2000000 in
theorem containsExpr_umisnamedC7 (a : Option Addr) (c : Nat) (l : List Nd) (p : Nd → Bool) (w : World) (hl : SlOf 4 NdR w (.slice a l.length c) l) (hf : ∀ (W : World) (x : Nd), x ∈ l → Below w.heap.size w W → Calls Tryz.prog 63 #[.agg (ndv x)] W fun e w' => e = .returned (.bool (p x)) ∧ Below W.heap.size W w') :
    Calls Tryz.prog 61 #[.slice a l.length c, .func (.func 63) #[] #[]] w fun e w' => e = .returned (.bool (l.any p)) ∧ Below w.heap.size w w' := by
  have HC := hide (indexExpr_umisnamedC7 a c l p w hl hf)
  have HG := hide (ixB_ge p l)
  obtain ⟨K, hK⟩ : ∃ K, K = ixB p l := ⟨_, rfl⟩
  rw [← hK] at HC HG
  clear hl hf hK
  go_enter Tryz.func61, Tryz.ntmps61
  go_wp2_with (go_at_call 93; refine (unhide HC).mono ?_; rintro e w3 ⟨rfl, b3⟩; have HB3 := hide b3; clear b3)
  go_ret
  exact ⟨by rw [← unhide HG]; rfl, unhide HB3⟩

set_option maxRecDepth 20000 in
set_option maxHeartbeats 4000000 in
theorem indexExpr_umisformedC1 (a : Option Addr) (c : Nat) (l : List Nd) (p : Nd → Bool) (w : World) (hl : SlOf 4 NdR w (.slice a l.length c) l) (hf : ∀ (W : World) (x : Nd), x ∈ l → Below w.heap.size w W → Calls Tryz.prog 67 #[.agg (ndv x)] W fun e w' => e = .returned (.bool (p x)) ∧ Below W.heap.size W w') :
    Calls Tryz.prog 93 #[.slice a l.length c, .func (.func 67) #[] #[]] w fun e w' => e = .returned (.int .i64 (ixB p l)) ∧ Below w.heap.size w w' := by
  obtain ⟨-, hl1, hl2⟩ := hl.len
  obtain ⟨N, hN⟩ : ∃ N, N = l.length := ⟨_, rfl⟩
  have HN := hide hN
  have HV := hide hl
  have HF := hide hf
  rw [← hN] at hl1 HV ⊢
  obtain ⟨R, hR⟩ : ∃ R, R = ixB p l := ⟨_, rfl⟩
  rw [← hR]
  have HR := hide hR
  clear hl hN hf hR
  go_enter Tryz.func93, Tryz.ntmps93
  go_wp2_with fail
  go_loopw [5, 8] (fun _ i wr => ∃ (k : Nat), k ≤ N ∧ i = .int .i64 k ∧ Hid (∀ v ∈ l.take k, p v = false) ∧ Hid (Below w.heap.size w wr)) (fun _ i _ => N - (intOf i).toNat)
  case atStart => exact ⟨0, by omega, rfl, hide (fun u hu => by simp at hu), hide (Below.refl _ _)⟩
  case round =>
    obtain ⟨k, hk, rfl, HA, HB⟩ := hrel
    by_cases hlt : k < N
    · obtain ⟨x, huk⟩ : ∃ u, l[k]? = some u := ⟨_, List.getElem?_eq_getElem (by have := unhide HN; omega)⟩
      obtain ⟨b, off, hma, -, d0, d1, d2, d3, -⟩ := ((unhide HV).grown (fun _ _ _ _ _ => NdR.grown) (unhide HB)).at huk
      rw [hma]
      have HC := hide (unhide HF wr x (List.mem_of_getElem? huk) (unhide HB))
      cases hx : p x with
      | true =>
        have HX := hide ((unhide HR).trans (ixB_at (unhide HA) huk hx))
        rw [hx] at HC
        clear hx huk
        go_wp2_with (go_at_call 67; refine (unhide HC).mono ?_; rintro e w3 ⟨rfl, b3⟩; have HB3 := hide ((unhide HB).trans (b3.mono (unhide HB).size)); clear b3)
        go_ret
        exact ⟨by rw [unhide HX]; rfl, unhide HB3⟩
      | false =>
        have HA2 := hide (take_no (unhide HA) huk hx)
        rw [hx] at HC
        clear hx huk
        go_wp2_with (go_at_call 67; refine (unhide HC).mono ?_; rintro e w3 ⟨rfl, b3⟩; have HB3 := hide ((unhide HB).trans (b3.mono (unhide HB).size)); clear b3)
        go_roundw
        case rel => exact ⟨k + 1, by omega, by go_num, HA2, HB3⟩
        case measure => simp [intOf]; omega
    · have HX := hide ((unhide HR).trans (ixB_none (p := p) (l := l) (fun u hu => unhide HA u (by rw [List.take_of_length_le (by have := unhide HN; omega)]; exact hu))))
      go_wp2_with fail
      go_ret
      exact ⟨by rw [unhide HX]; rfl, unhide HB⟩

set_option maxHeartbeats 2000000 in
theorem containsExpr_umisformedC1 (a : Option Addr) (c : Nat) (l : List Nd) (p : Nd → Bool) (w : World) (hl : SlOf 4 NdR w (.slice a l.length c) l) (hf : ∀ (W : World) (x : Nd), x ∈ l → Below w.heap.size w W → Calls Tryz.prog 67 #[.agg (ndv x)] W fun e w' => e = .returned (.bool (p x)) ∧ Below W.heap.size W w') :
    Calls Tryz.prog 61 #[.slice a l.length c, .func (.func 67) #[] #[]] w fun e w' => e = .returned (.bool (l.any p)) ∧ Below w.heap.size w w' := by
  have HC := hide (indexExpr_umisformedC1 a c l p w hl hf)
  have HG := hide (ixB_ge p l)
  obtain ⟨K, hK⟩ : ∃ K, K = ixB p l := ⟨_, rfl⟩
  rw [← hK] at HC HG
  clear hl hf hK
  go_enter Tryz.func61, Tryz.ntmps61
  go_wp2_with (go_at_call 93; refine (unhide HC).mono ?_; rintro e w3 ⟨rfl, b3⟩; have HB3 := hide b3; clear b3)
  go_ret
  exact ⟨by rw [← unhide HG]; rfl, unhide HB3⟩
end Go.Proofs.YtingpmgpjmlioaaGreatDoor
