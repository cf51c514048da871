/-
  DERIVED. The walk of wrongChange.
-/
import Derived.Test.YtfgjbmpbailebaaDoorUpK
import Derived.Test.YtfgjbmpbailebaaDoorShR3
namespace Go.Proofs.YtfgjbmpbailebaaDoor
open Go.RowKit Go.Maps
set_option linter.unusedVariables false

theorem Nms.slice {w : World} {v : Value} {L : List (List UInt8)} (h : Nms w v L) : ∃ x, v = .slice x L.length L.length ∧ ∀ i nm, L[i]? = some nm → ∃ g, x = some ⟨g, 0, none⟩ ∧ w.cell? ⟨g, i, none⟩ = some (sv nm) := by
  rcases h with ⟨rfl, rfl⟩ | ⟨g, rfl, h⟩
  · exact ⟨none, rfl, fun i nm hi => by simp at hi⟩
  · exact ⟨_, rfl, fun i nm hi => ⟨g, rfl, h i nm hi⟩⟩
theorem chgE_none {c : Chg} (h : namesC c = []) : chgE c = 143 := by unfold chgE; rw [if_pos h]
theorem chgE_name {c : Chg} (h : namesC c ≠ []) {nm : List UInt8} (hm : nm ∈ namesC c) (hn : nameB nm = false) : chgE c = 141 := by
  unfold chgE
  rw [if_neg h, if_pos]
  rw [List.all_eq_false]
  exact ⟨nm, hm, by simp [hn]⟩
theorem chgE_all {c : Chg} (h : namesC c ≠ []) (ha : ∀ nm ∈ namesC c, nameB nm = true) : chgE c = if c.kind = 1 ∧ mayF c.f ≠ 0 then 143 else 0 := by
  unfold chgE
  rw [if_neg h, if_neg]
  rw [List.all_eq_true.2 (fun x hx => by simpa using ha x hx)]
  simp
theorem check_may {f : Fld} (hn : nameB f.name = true) : checkF [f] = mayF f := by
  unfold checkF
  rw [if_neg (by simp)]
  unfold chkL
  by_cases h : mayF f = 0
  · rw [if_neg (by simpa using h), if_neg (not_le_nil hn), h]; rfl
  · rw [if_pos h]
theorem names_kind1 {c : Chg} (h : c.kind = 1) : namesC c = [c.f.name] := by unfold namesC; rw [if_pos h]

set_option maxHeartbeats 4000000 in
theorem wrongChange_go (C : Chg) (kd : Int) (nm tn fn : List UInt8) (ft : Bool) (fi : Int) (fss : List UInt8) (hC : C = ⟨kd, nm, tn, ⟨fn, ft, fi, fss⟩⟩) (w : World) (hc : fitC C) : Calls Tryd.prog 26 #[.agg #[.int .i64 kd, sv nm, sv tn, sv fn, .bool ft, .int .i64 fi, sv fss]] w fun e w' => e = .returned (.int .i64 (chgE C)) ∧ Below w.heap.size w w' := by
  have HFc := hide hc.f
  have HNl : Hid (∀ nm ∈ namesC C, nm.length ≤ 9223372036854775807) := hide (fun nm hm => by
    obtain ⟨h1, h2, h3, _⟩ := hc
    unfold namesC at hm
    split at hm
    · simp at hm; subst hm; omega
    · split at hm
      · simp at hm; rcases hm with rfl | rfl <;> omega
      · split at hm
        · simp at hm; subst hm; omega
        · simp at hm)
  have hb1 : Below w.heap.size w (w.alloc (.cells (cgv ⟨kd, nm, tn, ⟨fn, ft, fi, fss⟩⟩) 49)) := (Below.refl _ _).alloc (Nat.le_refl _) _
  have hx1 := CBx.new w ⟨kd, nm, tn, ⟨fn, ft, fi, fss⟩⟩
  obtain ⟨w1, hw1⟩ : ∃ w1, w1 = w.alloc (.cells (cgv ⟨kd, nm, tn, ⟨fn, ft, fi, fss⟩⟩) 49) := ⟨_, rfl⟩
  have HW1 := hide hw1
  rw [← hw1] at hb1 hx1
  have HNo' : Hid (Calls Tryd.prog 44 #[.agg #[.int .i64 kd, sv nm, sv tn, sv fn, .bool ft, .int .i64 fi, sv fss]] w1 (NmPost w1 (namesC C))) := hide (by rw [hC]; exact namesOf_any ⟨kd, nm, tn, ⟨fn, ft, fi, fss⟩⟩ w1)
  have HCk : Hid (C.kind = kd) := hide (by rw [hC])
  have HCf : Hid (C.f = ⟨fn, ft, fi, fss⟩) := hide (by rw [hC])
  obtain ⟨B, hB⟩ : ∃ B, B = w.heap.size := ⟨_, rfl⟩
  rw [← hB] at hx1
  have HX1 := hide hx1
  have HB1 := hide hb1
  obtain ⟨x0, x1, x2, x3, x4, x5, x6⟩ := hx1.cells
  simp only at x0 x1 x2 x3 x4 x5 x6
  have HBB := hide hB
  clear hw1 hx1 hb1 hB hC hc
  obtain ⟨Ln, hLn⟩ : ∃ Ln, Ln = namesC C := ⟨_, rfl⟩
  have HLn := hide hLn
  rw [← hLn] at HNo' HNl
  by_cases hL : Ln = []
  · have HE := hide (chgE_none (c := C) (by rw [← hLn]; exact hL))
    subst hL
    rw [unhide HE]
    clear hLn
    go_enter Tryd.func26, Tryd.ntmps26
    go_upto_region 1 with fail
    rw [← unhide HW1, ← unhide HBB]
    go_wp2_with (go_at_call 44; refine (unhide HNo').mono ?_; rintro e w2 ⟨v2, rfl, n2, b2⟩; obtain ⟨y2, rfl, -⟩ := n2.slice; have HB2 := hide ((unhide HB1).trans (b2.mono (unhide HB1).size)); clear b2 n2)
    go_ret
    exact ⟨rfl, unhide HB2⟩
  · obtain ⟨N, hN⟩ : ∃ N, N = Ln.length := ⟨_, rfl⟩
    have HN := hide hN
    have hN0 : ((N : Int) == 0) = false := by
      have : 0 < Ln.length := List.length_pos_iff.2 hL
      simp; omega
    have hN2 : N ≤ 2 := by
      rw [hN, hLn]
      unfold namesC
      split
      · simp
      · split
        · simp
        · split <;> simp
    have HL := hide (show namesC C ≠ [] by rw [← hLn]; exact hL)
    clear hLn hL hN
    go_enter Tryd.func26, Tryd.ntmps26
    go_upto_region 1 with fail
    rw [← unhide HW1, ← unhide HBB]
    go_wp2_with (go_at_call 44; refine (unhide HNo').mono ?_; rintro e w2 ⟨v2, rfl, n2, b2⟩; obtain ⟨y2, rfl, hy⟩ := n2.slice; have HY := hide hy; have HB2 := hide ((unhide HB1).trans (b2.mono (unhide HB1).size)); have HX2 := hide ((unhide HX1).below b2 (Nat.le_refl _)); rw [← unhide HN]; clear b2 n2 hy)
    clear x0 x1 x2 x3 x4 x5 x6
    go_loopw [5, 13] (fun _ i wr => ∃ (k : Nat), k ≤ N ∧ i = .int .i64 k ∧ Hid (∀ nm ∈ Ln.take k, nameB nm = true) ∧ Hid (Below w2.heap.size w2 wr)) (fun _ i _ => N - (intOf i).toNat)
    case atStart => exact ⟨0, by omega, rfl, hide (fun u hu => by simp at hu), hide (Below.refl _ _)⟩
    case round =>
      obtain ⟨k, hk, rfl, HA, HB⟩ := hrel
      by_cases hlt : k < N
      · obtain ⟨xn, hxk⟩ : ∃ xn, Ln[k]? = some xn := ⟨_, List.getElem?_eq_getElem (by have := unhide HN; omega)⟩
        obtain ⟨g, rfl, hg⟩ := unhide HY k xn hxk
        have hg2 := cell_kept (unhide HB) (Nat.le_refl _) hg
        have hmem := List.mem_of_getElem? hxk
        have HNm := hide (Name_any xn wr (unhide HNl xn hmem))
        cases hn : nameB xn with
        | false =>
          have HE := hide (chgE_name (c := C) (unhide HL) (by rw [← unhide HLn]; exact hmem) hn)
          rw [hn] at HNm
          clear hxk hg hmem hn
          go_wp2_with (go_at_call 43; refine (unhide HNm).mono ?_; rintro e w' ⟨rfl, rfl⟩)
          go_ret
          exact ⟨by rw [unhide HE]; rfl, (unhide HB2).trans ((unhide HB).mono (unhide HB2).size)⟩
        | true =>
          have HA2 : Hid (∀ nm ∈ Ln.take (k + 1), nameB nm = true) := hide (fun y hy => by
            rw [List.take_add_one, hxk] at hy
            rcases List.mem_append.1 hy with hy | hy
            · exact unhide HA y hy
            · simp at hy; rw [hy]; exact hn)
          rw [hn] at HNm
          clear hxk hg hmem hn
          go_wp2_with (go_at_call 43; refine (unhide HNm).mono ?_; rintro e w' ⟨rfl, rfl⟩)
          go_roundw
          case rel => exact ⟨k + 1, by omega, by go_num, HA2, HB⟩
          case measure => simp [intOf]; omega
      · have HAll : Hid (∀ nm ∈ namesC C, nameB nm = true) := hide (fun y hy => unhide HA y (by rw [List.take_of_length_le (by have := unhide HN; omega), unhide HLn]; exact hy))
        have HE := hide (chgE_all (c := C) (unhide HL) (unhide HAll))
        have HX3 := hide ((unhide HX2).below (unhide HB) (Nat.le_refl _))
        have HB3 := hide ((unhide HB2).trans ((unhide HB).mono (unhide HB2).size))
        obtain ⟨x0, x1, x2, x3, x4, x5, x6⟩ := (unhide HX3).cells
        simp only at x0 x1 x2 x3 x4 x5 x6
        by_cases h1 : kd = 1
        · subst h1
          have hn1 : nameB fn = true := unhide HAll fn (by rw [names_kind1 (unhide HCk), unhide HCf]; simp)
          have hfit : fits ⟨fn, ft, fi, fss⟩ := by have := unhide HFc; rwa [unhide HCf] at this
          have HCh := hide (Check_any _ _ _ [⟨fn, ft, fi, fss⟩] (wr.alloc (.cells (fv ⟨fn, ft, fi, fss⟩) 30)) (one_fdn wr ⟨fn, ft, fi, fss⟩).1 (fun g hg => by rw [List.mem_singleton.1 hg]; exact hfit))
          rw [check_may (f := ⟨fn, ft, fi, fss⟩) hn1] at HCh
          have HR : Hid ((if C.kind = 1 ∧ mayF C.f ≠ 0 then (143 : Int) else 0) = if mayF ⟨fn, ft, fi, fss⟩ ≠ 0 then 143 else 0) := hide (by rw [unhide HCf]; simp [unhide HCk])
          have HE1 := hide ((unhide HE).trans (unhide HR))
          obtain ⟨q, hq⟩ : ∃ q, q = mayF ⟨fn, ft, fi, fss⟩ := ⟨_, rfl⟩
          rw [← hq] at HCh HE1
          clear hq hn1 hfit HR
          have HB4 := hide ((unhide HB3).alloc (unhide HB3).size (.cells (fv ⟨fn, ft, fi, fss⟩) 30))
          by_cases hm : q = 0
          · have hm' : (q != 0) = false := by simp [hm]
            rw [if_neg (by simp [hm])] at HE1
            clear hm
            go_wp2_with (go_at_call 45; refine (unhide HCh).mono ?_; rintro e w5 ⟨rfl, b5⟩; have HB5 := hide ((unhide HB4).trans (b5.mono (unhide HB4).size)); clear b5)
            go_ret
            exact ⟨by rw [unhide HE1]; rfl, unhide HB5⟩
          · have hm' : (q != 0) = true := by simp [hm]
            rw [if_pos hm] at HE1
            clear hm
            go_wp2_with (go_at_call 45; refine (unhide HCh).mono ?_; rintro e w5 ⟨rfl, b5⟩; have HB5 := hide ((unhide HB4).trans (b5.mono (unhide HB4).size)); clear b5)
            go_ret
            exact ⟨by rw [unhide HE1]; rfl, unhide HB5⟩
        · have h1' : (kd == 1) = false := by simp [h1]
          rw [if_neg (fun h => h1 ((unhide HCk).symm.trans h.1))] at HE
          clear h1
          go_wp2_with fail
          go_ret
          exact ⟨by rw [unhide HE]; rfl, unhide HB3⟩

theorem wrongChange_any (c : Chg) (w : World) (hc : fitC c) : Calls Tryd.prog 26 #[.agg (cgv c)] w fun e w' => e = .returned (.int .i64 (chgE c)) ∧ Below w.heap.size w w' :=
  wrongChange_go c c.kind c.name c.tn c.f.name c.f.text c.f.n c.f.s rfl w hc
end Go.Proofs.YtfgjbmpbailebaaDoor
