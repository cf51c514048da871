/-
  DERIVED. The document's Check.
-/
import Derived.Test.YtfgjbmpbailebaaDoorUpD3
import Derived.Test.YtfgjbmpbailebaaDoorUpH
import Derived.Deep.RegionLaw
namespace Go.Proofs.YtfgjbmpbailebaaDoor
open Go.RowKit Go.Maps
set_option linter.unusedVariables false

theorem manyU_len {us : List Upc} (h : 64 < us.length) : manyU us = true := by unfold manyU; simp [h]
theorem manyU_at {us : List Upc} {u : Upc} (h : u ∈ us) (hu : 16 < u.chs.length) : manyU us = true := by
  unfold manyU
  rw [Bool.or_eq_true]
  exact .inr (List.any_eq_true.2 ⟨u, h, by simpa using hu⟩)
theorem manyU_no {us : List Upc} (h : ¬ 64 < us.length) (h2 : ∀ u ∈ us, ¬ 16 < u.chs.length) : manyU us = false := by
  unfold manyU
  rw [Bool.or_eq_false_iff]
  exact ⟨by simpa using h, List.any_eq_false.2 (fun u hu => by simpa using h2 u hu)⟩
theorem checkU_many {us : List Upc} (h : manyU us = true) : checkU us = 140 := by unfold checkU; rw [if_pos h]
theorem checkU_few {us : List Upc} (h : manyU us = false) : checkU us = chkU [] us := by unfold checkU; rw [if_neg (by simp [h])]
theorem headE_name {u : Upc} (h : nameB u.type = false) : headE u = 141 := by unfold headE; rw [if_pos h]
theorem headE_form {u : Upc} (h : nameB u.type = true) (h2 : u.frm < 0 ∨ 1073741824 ≤ u.frm) : headE u = 143 := by unfold headE; rw [if_neg (by simp [h]), if_pos h2]
theorem headE_ok {u : Upc} (h : nameB u.type = true) (h2 : ¬ (u.frm < 0 ∨ 1073741824 ≤ u.frm)) : headE u = 0 := by unfold headE; rw [if_neg (by simp [h]), if_neg h2]
/-- find tells one ahead just where there is one ahead. -/
theorem fnd_twice {us : List Upc} {k : Nat} {u : Upc} (h : us[k]? = some u) : decide (fndU us u.type u.frm < (k : Int)) = (us.take k).any (isU u.type u.frm) := by
  have hh : hasU us u.type u.frm = true := List.any_eq_true.2 ⟨u, List.mem_of_getElem? h, isU_self u⟩
  rw [← idx_twice h, fndU_pos hh]
  have h2 : ¬ k < idxU us u.type u.frm := fun hl => by
    obtain ⟨x, hx, hf, hb⟩ := idxU_at hh
    have : u ∈ us.take (idxU us u.type u.frm) := by
      rw [List.mem_iff_getElem?]
      exact ⟨k, by rw [List.getElem?_take_of_lt hl]; exact h⟩
    have hs := isU_self u
    rw [hb u this] at hs; cases hs
  by_cases e : idxU us u.type u.frm = k
  · rw [e]; simp
  · rw [decide_eq_true (by omega), eq_comm, bne_iff_ne]; omega

set_option maxRecDepth 10000 in
set_option maxHeartbeats 16000000 in
theorem rvCheck_any (a : Option Addr) (n c : Nat) (us : List Upc) (w : World) (hv : UpL w (.slice a n c) us) (hfit : ∀ u ∈ us, fitU u) (hlen : us.length < 100000000000000000) :
    Calls Tryd.prog 12 #[.slice a n c] w fun e w' => e = .returned (.int .i64 (checkU us)) ∧ Below w.heap.size w w' := by
  obtain ⟨rfl, hl1, hl2⟩ := hv.len
  by_cases h64 : 64 < us.length
  · rw [checkU_many (manyU_len h64)]
    have h64' : decide ((64 : Int) < us.length) = true := decide_eq_true (by omega)
    clear hv hfit h64
    go_enter Tryd.func12, Tryd.ntmps12
    go_wp2_with fail
    go_ret
    exact ⟨rfl, Below.refl _ _⟩
  · have h64' : decide ((64 : Int) < us.length) = false := decide_eq_false (by omega)
    have H64 := hide h64
    obtain ⟨N, hN⟩ : ∃ N, N = us.length := ⟨_, rfl⟩
    have HN := hide hN
    have HV := hide hv
    have HFit := hide hfit
    have HFd : Hid (∀ tp ver W, Below w.heap.size w W → Calls Tryd.prog 20 #[.slice a us.length c, sv tp, .int .i64 ver] W fun e w' => e = .returned (.int .i64 (fndU us tp ver)) ∧ W = w') := hide (fun tp ver W hW => rvfind_any a us.length c us tp ver W (hv.below hW (Nat.le_refl _)) hlen)
    rw [← hN] at hl1 hlen h64' HFd ⊢
    clear hv hfit hN h64
    go_enter Tryd.func12, Tryd.ntmps12
    go_wp2_with fail
    go_loopw [3] (fun i wr => ∃ (k : Nat), k ≤ N ∧ i = .int .i64 k ∧ Hid (∀ u ∈ us.take k, ¬ 16 < u.chs.length) ∧ Hid (wr = w)) (fun i _ => N - (intOf i).toNat)
    case atStart => exact ⟨0, by omega, rfl, hide (fun u hu => by simp at hu), hide rfl⟩
    case round =>
      obtain ⟨k, hk, rfl, HA, HW⟩ := hrel
      by_cases hlt : k < N
      · have hkl : k < us.length := by have := unhide HN; omega
        obtain ⟨⟨tp, fr, chs⟩, huk⟩ : ∃ u, us[k]? = some u := ⟨_, List.getElem?_eq_getElem hkl⟩
        obtain ⟨b, off, rfl, hat⟩ := (unhide HV).at huk
        obtain ⟨d0, d1, ca, cc, d2, -⟩ := hat
        simp only at d0 d1 d2
        rw [← unhide HW] at d0 d1 d2
        have hts := take_snoc huk
        have hmem := List.mem_of_getElem? huk
        obtain ⟨cn, hcn⟩ : ∃ cn, cn = chs.length := ⟨_, rfl⟩
        rw [← hcn] at d2
        by_cases hx : 16 < cn
        · have hx' : decide ((16 : Int) < (cn : Int)) = true := decide_eq_true (by omega)
          have HE := hide (checkU_many (manyU_at hmem (by rw [← hcn]; exact hx)))
          clear hx hcn hts hmem huk
          go_wp2_with fail
          go_ret
          exact ⟨by rw [unhide HE]; rfl, by rw [unhide HW]; exact Below.refl _ _⟩
        · have hx' : decide ((16 : Int) < (cn : Int)) = false := decide_eq_false (by omega)
          have HA2 : Hid (∀ u ∈ us.take (k + 1), ¬ 16 < u.chs.length) := hide (fun u hu => by
            rw [hts] at hu
            rcases List.mem_append.1 hu with hu | hu
            · exact unhide HA u hu
            · rw [List.mem_singleton.1 hu]; simp only; rw [← hcn]; exact hx)
          clear hx hcn hts hmem huk
          go_wp2_with fail
          go_roundw
          case rel => exact ⟨k + 1, by omega, by go_num, HA2, HW⟩
          case measure => simp [intOf]; omega
      · have HE : Hid (checkU us = chkU (us.take 0) (us.drop 0)) := hide (checkU_few (manyU_no (unhide H64) (fun u hu => unhide HA u (by rw [List.take_of_length_le (by have := unhide HN; omega)]; exact hu))))
        rw [unhide HW]
        clear HW HA
        go_wp2_with fail
        clear hlt hk
        go_loopw [4, 5, 6, 7] (fun i _ _ _ wr => ∃ (k : Nat), k ≤ N ∧ i = .int .i64 k ∧ Hid (checkU us = chkU (us.take k) (us.drop k)) ∧ Hid (Below w.heap.size w wr)) (fun i _ _ _ _ => N - (intOf i).toNat)
        case atStart => exact ⟨0, by omega, rfl, HE, hide (Below.refl _ _)⟩
        case round =>
          obtain ⟨k, hk, rfl, HC, HB⟩ := hrel
          clear HE
          by_cases hlt : k < N
          · have hkl : k < us.length := by have := unhide HN; omega
            obtain ⟨⟨tp, fr, chs⟩, huk⟩ : ∃ u, us[k]? = some u := ⟨_, List.getElem?_eq_getElem hkl⟩
            have hfu := unhide HFit _ (List.mem_of_getElem? huk)
            have HCf := hide hfu.2.2
            simp only at HCf
            obtain ⟨b, off, rfl, hat⟩ := (unhide HV).at huk
            have HAt := hide hat
            obtain ⟨d0, d1, ca, cc, d2, hch⟩ := hat.below (unhide HB) (Nat.le_refl _)
            simp only at d0 d1 d2 hch
            have HAt2 : Hid (∀ W, Below wr.heap.size wr W → W.cell? ⟨b, off + k * 3 + 2, none⟩ = some (.slice ca chs.length cc) ∧ ChL W (.slice ca chs.length cc) chs) := hide (fun W hW => ⟨cell_kept hW (Nat.le_refl _) d2, hch.below hW (Nat.le_refl _)⟩)
            have hts := take_snoc huk
            have hdu := drop_up huk
            have htw := fnd_twice huk
            simp only at htw
            have hcl := hch.len.2
            obtain ⟨M, hM⟩ : ∃ M, M = chs.length := ⟨_, rfl⟩
            have HM := hide hM
            rw [← hM] at d2 hcl HAt2
            have HNm := hide (rName_any tp wr (by have := hfu.1; exact this))
            have HFk : Hid (∀ W, Below w.heap.size w W → Calls Tryd.prog 20 #[.slice (some ⟨b, off, none⟩) N c, sv tp, .int .i64 fr] W fun e w' => e = .returned (.int .i64 (fndU us tp fr)) ∧ w' = W) := hide (fun W hW => (unhide HFd tp fr W hW).mono fun e w' h => ⟨h.1, h.2.symm⟩)
            rw [hdu] at HC
            clear hfu hM hch hdu huk hat
            cases hn : nameB tp with
            | false =>
              have he : headE ⟨tp, fr, chs⟩ = 141 := headE_name hn
              have HE := hide ((unhide HC).trans (chkU_bad ((oneE_head (by rw [he]; decide)).trans he) (by decide)))
              rw [hn] at HNm
              clear hn he hts htw
              go_wp2_with (go_at_call 27; refine (unhide HNm).mono ?_; rintro e w' ⟨rfl, rfl⟩)
              go_ret
              exact ⟨by rw [unhide HE]; rfl, unhide HB⟩
            | true =>
              rw [hn] at HNm
              by_cases hf0 : fr < 0
              · have he : headE ⟨tp, fr, chs⟩ = 143 := headE_form hn (.inl hf0)
                have HE := hide ((unhide HC).trans (chkU_bad ((oneE_head (by rw [he]; decide)).trans he) (by decide)))
                have hf0' : decide (fr < 0) = true := decide_eq_true hf0
                clear hn he hts htw hf0
                go_wp2_with (go_at_call 27; refine (unhide HNm).mono ?_; rintro e w' ⟨rfl, rfl⟩)
                go_ret
                exact ⟨by rw [unhide HE]; rfl, unhide HB⟩
              · have hf0' : decide (fr < 0) = false := decide_eq_false hf0
                by_cases hf1 : 1073741824 ≤ fr
                · have he : headE ⟨tp, fr, chs⟩ = 143 := headE_form hn (.inr hf1)
                  have HE := hide ((unhide HC).trans (chkU_bad ((oneE_head (by rw [he]; decide)).trans he) (by decide)))
                  have hf1' : decide (1073741824 ≤ fr) = true := decide_eq_true hf1
                  clear hn he hts htw hf0 hf1
                  go_wp2_with (go_at_call 27; refine (unhide HNm).mono ?_; rintro e w' ⟨rfl, rfl⟩)
                  go_ret
                  exact ⟨by rw [unhide HE]; rfl, unhide HB⟩
                · have hf1' : decide (1073741824 ≤ fr) = false := decide_eq_false hf1
                  have hh0 : headE ⟨tp, fr, chs⟩ = 0 := headE_ok hn (by simp only; omega)
                  clear hn hf0 hf1
                  go_upto_region 16 with (go_at_call 27; refine (unhide HNm).mono ?_; rintro e w' ⟨rfl, rfl⟩)
                  have q0 : ∀ m, (wr.drewN m).cell? ⟨b, off + k * 3, none⟩ = some (sv tp) := fun m => cell_kept (below_drewN (Below.refl wr.heap.size wr) m) (Nat.le_refl _) d0
                  have q1 : ∀ m, (wr.drewN m).cell? ⟨b, off + k * 3 + 1, none⟩ = some (.int .i64 fr) := fun m => cell_kept (below_drewN (Below.refl wr.heap.size wr) m) (Nat.le_refl _) d1
                  obtain ⟨iq, hiq⟩ : ∃ iq, iq = fndU us tp fr := ⟨_, rfl⟩
                  rw [← hiq] at htw HFk
                  clear d0 d1 d2 hiq HNm HFd
                  cases ht : (us.take k).any (isU tp fr) with
                  | true =>
                    have HE := hide ((unhide HC).trans (chkU_bad (oneE_twice (u := ⟨tp, fr, chs⟩) hh0 ht) (by decide)))
                    rw [ht] at htw
                    clear ht hh0 hts
                    go_quiet ((go_at_call 20; exact Calls.quiet_of_same (unhide HFk _ (below_drewN (unhide HB) _))))
                    go_wp2
                    go_ret
                    exact ⟨by rw [unhide HE]; rfl, below_drewN (unhide HB) _⟩
                  | false =>
                    have HO := hide (oneE_chs (u := ⟨tp, fr, chs⟩) hh0 ht)
                    simp only at HO
                    rw [ht] at htw
                    have HTs := hide hts
                    clear ht hh0 hts
                    go_quiet ((go_at_call 20; exact Calls.quiet_of_same (unhide HFk _ (below_drewN (unhide HB) _))))
                    have HB5 := hide (below_drewN (Below.refl wr.heap.size wr) nq)
                    obtain ⟨w5, hw5⟩ : ∃ w5, w5 = wr.drewN nq := ⟨_, rfl⟩
                    rw [← hw5] at HB5 ⊢
                    clear hw5 q0 q1
                    go_wp2_with fail
                    go_loopw [6, 7] (fun j _ W => ∃ (i : Nat), i ≤ M ∧ j = .int .i64 i ∧ Hid (chsE chs = chsE (chs.drop i)) ∧ Hid (Below wr.heap.size wr W)) (fun j _ _ => M - (intOf j).toNat)
                    case atStart => exact ⟨0, by omega, rfl, hide rfl, HB5⟩
                    case round =>
                      obtain ⟨i, hi, rfl, HCs, HB6⟩ := hrel
                      obtain ⟨d2, hch⟩ := unhide HAt2 wr (unhide HB6)
                      by_cases hlt2 : i < M
                      · obtain ⟨⟨kd, cn, ct, ⟨fn, ft, fi, fss⟩⟩, hci⟩ : ∃ c, chs[i]? = some c := ⟨_, List.getElem?_eq_getElem (by have := unhide HM; omega)⟩
                        have hfc := unhide HCf _ (List.mem_of_getElem? hci)
                        obtain ⟨cb, coff, rfl, hcat⟩ := hch.at hci
                        obtain ⟨e0, e1, e2, e3, e4, e5, e6⟩ := hcat
                        simp only at e0 e1 e2 e3 e4 e5 e6
                        have hdc := drop_ch hci
                        rw [hdc] at HCs
                        have HWc := hide (rvchange_any ⟨kd, cn, ct, ⟨fn, ft, fi, fss⟩⟩ wr hfc)
                        clear hfc hci hdc hch
                        obtain ⟨ce, hce⟩ : ∃ ce, ce = chgE ⟨kd, cn, ct, ⟨fn, ft, fi, fss⟩⟩ := ⟨_, rfl⟩
                        rw [← hce] at HWc
                        by_cases hc0 : ce = 0
                        · have hc0' : (ce != 0) = false := by simp [hc0]
                          have HCs2 := hide ((unhide HCs).trans (chsE_good (hce.symm.trans hc0)))
                          clear hc0 hce
                          go_wp2_with (go_at_call 28; refine (unhide HWc).mono ?_; rintro e w8 ⟨rfl, b8⟩; have HB8 := hide ((unhide HB6).trans (b8.mono (unhide HB6).size)); clear b8)
                          go_roundw
                          case rel => exact ⟨i + 1, by omega, by go_num, HCs2, HB8⟩
                          case measure => simp [intOf]; omega
                        · have hc0' : (ce != 0) = true := by simp [hc0]
                          have hcs := (unhide HCs).trans (chsE_bad (by rw [← hce]; exact hc0))
                          rw [← hce] at hcs
                          have HE := hide ((unhide HC).trans (chkU_bad ((unhide HO).trans hcs) hc0))
                          clear hc0 hce hcs
                          go_wp2_with (go_at_call 28; refine (unhide HWc).mono ?_; rintro e w8 ⟨rfl, b8⟩; have HB8 := hide ((unhide HB6).trans (b8.mono (unhide HB6).size)); clear b8)
                          go_ret
                          exact ⟨by rw [unhide HE]; rfl, (unhide HB).trans ((unhide HB8).mono (unhide HB).size)⟩
                      · have hc0 : chsE chs = 0 := by rw [unhide HCs, List.drop_of_length_le (by have := unhide HM; omega)]; rfl
                        have HC2 := hide ((unhide HC).trans (chkU_good ((unhide HO).trans hc0)))
                        rw [← unhide HTs] at HC2
                        have HB9 := hide ((unhide HB).trans ((unhide HB6).mono (unhide HB).size))
                        clear hc0 hch
                        go_wp2_with fail
                        go_roundw
                        case rel => exact ⟨k + 1, by omega, by go_num, HC2, HB9⟩
                        case measure => simp [intOf]; omega
          · have HE : Hid (checkU us = 0) := hide (by rw [unhide HC, List.drop_of_length_le (by have := unhide HN; omega)]; rfl)
            go_wp2_with fail
            go_ret
            exact ⟨by rw [unhide HE]; rfl, unhide HB⟩
end Go.Proofs.YtfgjbmpbailebaaDoor
