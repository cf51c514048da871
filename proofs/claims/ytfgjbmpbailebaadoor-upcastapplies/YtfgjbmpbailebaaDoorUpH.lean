/-
  DERIVED. The walk of Check.
-/
import Derived.Test.YtfgjbmpbailebaaDoorUpJ
namespace Go.Proofs.YtfgjbmpbailebaaDoor
open Go.RowKit Go.Maps
set_option linter.unusedVariables false

theorem idx_twice {us : List Upc} {k : Nat} {u : Upc} (h : us[k]? = some u) : ((idxU us u.type u.frm : Int) != (k : Int)) = (us.take k).any (isU u.type u.frm) := by
  have hk := (List.getElem?_eq_some_iff.1 h).1
  have hh : hasU us u.type u.frm = true := List.any_eq_true.2 ⟨u, List.mem_of_getElem? h, isU_self u⟩
  obtain ⟨x, hx, hf, hb⟩ := idxU_at hh
  have hxu : isU u.type u.frm x = true := List.find?_some hf
  cases ha : (us.take k).any (isU u.type u.frm) with
  | true =>
    obtain ⟨y, hy, hp⟩ := List.any_eq_true.1 ha
    simp only [bne_iff_ne, ne_eq]
    intro e
    have e' : idxU us u.type u.frm = k := by omega
    rw [e'] at hb
    rw [hb y hy] at hp; cases hp
  | false =>
    rw [List.any_eq_false] at ha
    simp only [bne_eq_false_iff_eq]
    have h1 : ¬ idxU us u.type u.frm < k := fun hl => by
      have : x ∈ us.take k := by
        rw [List.mem_iff_getElem?]
        exact ⟨_, by rw [List.getElem?_take_of_lt hl]; exact hx⟩
      exact ha x this hxu
    have h2 : ¬ k < idxU us u.type u.frm := fun hl => by
      have : u ∈ us.take (idxU us u.type u.frm) := by
        rw [List.mem_iff_getElem?]
        exact ⟨k, by rw [List.getElem?_take_of_lt hl]; exact h⟩
      have hs := isU_self u
      rw [hb u this] at hs; cases hs
    omega
theorem drop_up {us : List Upc} {k : Nat} {u : Upc} (h : us[k]? = some u) : us.drop k = u :: us.drop (k + 1) := by
  obtain ⟨h1, h2⟩ := List.getElem?_eq_some_iff.1 h
  rw [← h2]; exact List.drop_eq_getElem_cons h1
theorem drop_ch {us : List Chg} {k : Nat} {u : Chg} (h : us[k]? = some u) : us.drop k = u :: us.drop (k + 1) := by
  obtain ⟨h1, h2⟩ := List.getElem?_eq_some_iff.1 h
  rw [← h2]; exact List.drop_eq_getElem_cons h1
theorem oneE_head {pre : List Upc} {u : Upc} (h : headE u ≠ 0) : oneE pre u = headE u := by unfold oneE; rw [if_pos h]
theorem oneE_twice {pre : List Upc} {u : Upc} (h : headE u = 0) (h2 : pre.any (isU u.type u.frm) = true) : oneE pre u = 142 := by unfold oneE; rw [if_neg (by simpa using h), if_pos h2]
theorem oneE_chs {pre : List Upc} {u : Upc} (h : headE u = 0) (h2 : pre.any (isU u.type u.frm) = false) : oneE pre u = chsE u.chs := by unfold oneE; rw [if_neg (by simpa using h), if_neg (by simp [h2])]
theorem chkU_bad {pre r : List Upc} {u : Upc} {e : Int} (h : oneE pre u = e) (he : e ≠ 0) : chkU pre (u :: r) = e := by rw [chkU, if_pos (by rw [h]; exact he), h]
theorem chkU_good {pre r : List Upc} {u : Upc} (h : oneE pre u = 0) : chkU pre (u :: r) = chkU (pre ++ [u]) r := by rw [chkU, if_neg (by simpa using h)]
theorem chsE_bad {r : List Chg} {c : Chg} (h : chgE c ≠ 0) : chsE (c :: r) = chgE c := by rw [chsE, if_pos h]
theorem chsE_good {r : List Chg} {c : Chg} (h : chgE c = 0) : chsE (c :: r) = chsE r := by rw [chsE, if_neg (by simpa using h)]

set_option maxHeartbeats 16000000 in
theorem vCheck_any (a : Option Addr) (n c : Nat) (us : List Upc) (w : World) (hv : UpL w (.slice a n c) us) (hfit : ∀ u ∈ us, fitU u) (hlen : us.length < 100000000000000000) :
    Calls Tryd.prog 11 #[.slice a n c] w fun e w' => e = .returned (.int .i64 (checkU us)) ∧ Below w.heap.size w w' := by
  have HTo := hide (tooMany_any a n c us w hv hlen)
  cases hm : manyU us with
  | true =>
    have HE : Hid (checkU us = 140) := hide (by unfold checkU; rw [if_pos hm])
    rw [hm] at HTo
    clear hm hv hfit
    go_enter Tryd.func11, Tryd.ntmps11
    go_wp2_with (go_at_call 23; refine (unhide HTo).mono ?_; rintro e w2 ⟨rfl, b2⟩; have HB2 := hide b2; clear b2)
    go_ret
    exact ⟨by rw [unhide HE]; rfl, unhide HB2⟩
  | false =>
    have HE : Hid (checkU us = chkU (us.take 0) (us.drop 0)) := hide (by unfold checkU; rw [if_neg (by simp [hm])]; rfl)
    rw [hm] at HTo
    have HFi : Hid (∀ W, Below w.heap.size w W → Calls Tryd.prog 17 #[.slice a n c] W fun e w' => ∃ m, e = .returned (.map (some m)) ∧ FsSt W w' m us) := hide (fun W hW => firsts_any a n c us W (hv.below hW (Nat.le_refl _)) hfit (by omega))
    obtain ⟨rfl, hl1, hl2⟩ := hv.len
    obtain ⟨N, hN⟩ : ∃ N, N = us.length := ⟨_, rfl⟩
    have HN := hide hN
    have HV := hide hv
    have HFit := hide hfit
    rw [← hN] at hl1 hlen HTo HFi ⊢
    clear hv hfit hN hm
    go_enter Tryd.func11, Tryd.ntmps11
    go_wp2_with (first | (go_at_call 23; refine (unhide HTo).mono ?_; rintro e w2 ⟨rfl, b2⟩; have HB2 := hide b2; clear b2) | (go_at_call 17; refine (unhide HFi _ (unhide HB2)).mono ?_; rintro e w3 ⟨m, rfl, f3⟩; have HF3 : Hid (FsSt w w3 m us) := hide ⟨(unhide HB2).trans (f3.bel.mono (unhide HB2).size), f3.mp, Nat.le_trans (unhide HB2).size f3.ge⟩; clear f3))
    go_loopw [4, 5, 6, 8, 9, 16] (fun _ _ _ _ _ i wr => ∃ (k : Nat), k ≤ N ∧ i = .int .i64 k ∧ Hid (checkU us = chkU (us.take k) (us.drop k)) ∧ Hid (FsSt w wr m us)) (fun _ _ _ _ _ i _ => N - (intOf i).toNat)
    case atStart => exact ⟨0, by omega, rfl, HE, HF3⟩
    case round =>
      obtain ⟨k, hk, rfl, HC, HP⟩ := hrel
      clear HE HF3 HFi HTo
      by_cases hlt : k < N
      · have hkl : k < us.length := by have := unhide HN; omega
        obtain ⟨⟨tp, fr, chs⟩, huk⟩ : ∃ u, us[k]? = some u := ⟨_, List.getElem?_eq_getElem hkl⟩
        have hfu := unhide HFit _ (List.mem_of_getElem? huk)
        have hok : okKey tp fr := ⟨hfu.1, hfu.2.1⟩
        have HCf := hide hfu.2.2
        simp only at HCf
        obtain ⟨b, off, rfl, hat⟩ := ((unhide HV).below (unhide HP).bel (Nat.le_refl _)).at huk
        obtain ⟨d0, d1, ca, cc, d2, hch⟩ := hat
        simp only at d0 d1 d2 hch
        have hts := take_snoc huk
        have hdu := drop_up huk
        have htw := idx_twice huk
        simp only at htw
        have hsz := (unhide HP).bel.size
        have HCh := hide hch
        have hcl := hch.len.2
        obtain ⟨M, hM⟩ : ∃ M, M = chs.length := ⟨_, rfl⟩
        have HM := hide hM
        rw [← hM] at d2 hcl HCh
        have HWh : Hid (∀ W, Calls Tryd.prog 24 #[.agg (uv tp fr (.slice ca M cc))] W fun e w' => e = .returned (.int .i64 (headE ⟨tp, fr, chs⟩)) ∧ Below W.heap.size W w') := hide (fun W => wrongHead_any tp fr chs ca M cc W hok.1)
        have HSt : Hid (∀ W, Calls Tryd.prog 25 #[.agg (uv tp fr (.slice ca M cc))] W fun e w' => e = .returned (stepV tp fr) ∧ Below W.heap.size W w') := hide (stepOf_any tp fr ca M cc)
        rw [hdu] at HC
        clear hfu hM hch hdu huk
        go_upto_region 7 with fail
        have hb2 : Below wr.heap.size wr (wr.alloc (.cells (uv tp fr (.slice ca M cc)) 38)) := (Below.refl _ _).alloc (Nat.le_refl _) _
        have HX2 := hide (UBx.new wr tp fr (.slice ca M cc))
        have HP2 := hide ((unhide HP).grown hb2)
        have HCh2 := hide ((unhide HCh).below hb2 (Nat.le_refl _))
        obtain ⟨w4, hw4⟩ : ∃ w4, w4 = wr.alloc (.cells (uv tp fr (.slice ca M cc)) 38) := ⟨_, rfl⟩
        rw [show wr.alloc (.cells #[Value.string ⟨tp.toArray⟩, .int .i64 fr, .slice ca M cc] 38) = w4 from hw4.symm]
        rw [← hw4] at HX2 HP2 HCh2
        obtain ⟨q, hq⟩ : ∃ q, q = wr.heap.size := ⟨_, rfl⟩
        rw [← hq] at HX2 ⊢
        obtain ⟨x0, x1, x2⟩ := (unhide HX2).cells
        clear hb2 hw4 hq d0 d1 d2 hsz HCh
        obtain ⟨he, hhe⟩ : ∃ he, he = headE ⟨tp, fr, chs⟩ := ⟨_, rfl⟩
        rw [← hhe] at HWh
        by_cases h0 : he = 0
        · have h0' : (he != 0) = false := by simp [h0]
          have hh0 : headE ⟨tp, fr, chs⟩ = 0 := hhe.symm.trans h0
          clear h0 hhe
          go_upto_region 10 with (go_at_call 24; refine (unhide HWh _).mono ?_; rintro e w5 ⟨rfl, b5⟩; have HP5 := hide ((unhide HP2).grown b5); have HX5 := hide ((unhide HX2).below b5 (Nat.le_refl _)); have HCh5 := hide ((unhide HCh2).below b5 (Nat.le_refl _)); clear b5)
          clear x0 x1 x2
          obtain ⟨x0, x1, x2⟩ := (unhide HX5).cells
          obtain ⟨iq, hiq⟩ : ∃ iq, iq = idxU us tp fr := ⟨_, rfl⟩
          rw [← hiq] at htw
          cases ht : (us.take k).any (isU tp fr) with
          | true =>
            have HE := hide ((unhide HC).trans (chkU_bad (oneE_twice (u := ⟨tp, fr, chs⟩) hh0 ht) (by decide)))
            rw [ht] at htw
            have HIq := hide hiq
            clear ht hh0 hts hiq
            go_wp2_with (go_at_call 25; refine (unhide HSt _).mono ?_; rintro e w6 ⟨rfl, b6⟩; have HP6 := hide ((unhide HP5).grown b6); have lk := (unhide HP6).mp.look1 hok; rw [← unhide HIq] at lk; clear b6)
            go_ret
            exact ⟨by rw [unhide HE]; rfl, (unhide HP6).bel⟩
          | false =>
            have HO := hide (oneE_chs (u := ⟨tp, fr, chs⟩) hh0 ht)
            simp only at HO
            rw [ht] at htw
            have HIq := hide hiq
            have HTs := hide hts
            clear ht hh0 hts hiq
            go_upto_region 12 with (go_at_call 25; refine (unhide HSt _).mono ?_; rintro e w6 ⟨rfl, b6⟩; have HP6 := hide ((unhide HP5).grown b6); have HX6 := hide ((unhide HX5).below b6 (Nat.le_refl _)); have HCh6 := hide ((unhide HCh5).below b6 (Nat.le_refl _)); have lk := (unhide HP6).mp.look1 hok; rw [← unhide HIq] at lk; clear b6)
            clear x0 x1 x2 lk
            obtain ⟨x0, x1, x2⟩ := (unhide HX6).cells
            go_wp2_with fail
            go_loopw [8, 9, 35] (fun _ _ j wr => ∃ (i : Nat), i ≤ M ∧ j = .int .i64 i ∧ Hid (chsE chs = chsE (chs.drop i)) ∧ Hid (Below w6.heap.size w6 wr)) (fun _ _ j _ => M - (intOf j).toNat)
            case atStart => exact ⟨0, by omega, rfl, hide rfl, hide (Below.refl _ _)⟩
            case round =>
              obtain ⟨i, hi, rfl, HCs, HB⟩ := hrel
              clear x0 x1 x2
              by_cases hlt2 : i < M
              · obtain ⟨⟨kd, cn, ct, ⟨fn, ft, fi, fss⟩⟩, hci⟩ : ∃ c, chs[i]? = some c := ⟨_, List.getElem?_eq_getElem (by have := unhide HM; omega)⟩
                have hfc := unhide HCf _ (List.mem_of_getElem? hci)
                obtain ⟨cb, coff, rfl, hcat⟩ := ((unhide HCh6).below (unhide HB) (Nat.le_refl _)).at hci
                obtain ⟨e0, e1, e2, e3, e4, e5, e6⟩ := hcat
                simp only at e0 e1 e2 e3 e4 e5 e6
                have hdc := drop_ch hci
                rw [hdc] at HCs
                have HWc : Hid (∀ W, Calls Tryd.prog 26 #[.agg (cgv ⟨kd, cn, ct, ⟨fn, ft, fi, fss⟩⟩)] W fun e w' => e = .returned (.int .i64 (chgE ⟨kd, cn, ct, ⟨fn, ft, fi, fss⟩⟩)) ∧ Below W.heap.size W w') := hide (fun W => wrongChange_any _ W hfc)
                have hsz := (unhide HB).size
                clear hfc hci hdc
                go_upto_region 15 with fail
                have hb7 : Below wr.heap.size wr (wr.alloc (.cells (cgv ⟨kd, cn, ct, ⟨fn, ft, fi, fss⟩⟩) 49)) := (Below.refl _ _).alloc (Nat.le_refl _) _
                have HX7 := hide (CBx.new wr ⟨kd, cn, ct, ⟨fn, ft, fi, fss⟩⟩)
                have HB7 := hide ((unhide HB).trans (hb7.mono (unhide HB).size))
                obtain ⟨w7, hw7⟩ : ∃ w7, w7 = wr.alloc (.cells (cgv ⟨kd, cn, ct, ⟨fn, ft, fi, fss⟩⟩) 49) := ⟨_, rfl⟩
                rw [show wr.alloc (.cells #[Value.int .i64 kd, .string ⟨cn.toArray⟩, .string ⟨ct.toArray⟩, .string ⟨fn.toArray⟩, .bool ft, .int .i64 fi, .string ⟨fss.toArray⟩] 49) = w7 from hw7.symm]
                rw [← hw7] at HX7 HB7
                obtain ⟨p7, hp7⟩ : ∃ p7, p7 = wr.heap.size := ⟨_, rfl⟩
                rw [← hp7] at HX7 ⊢
                clear hb7 hw7 hp7 e0 e1 e2 e3 e4 e5 e6 hsz
                obtain ⟨z0, z1, z2, z3, z4, z5, z6⟩ := (unhide HX7).cells
                simp only at z0 z1 z2 z3 z4 z5 z6
                obtain ⟨ce, hce⟩ : ∃ ce, ce = chgE ⟨kd, cn, ct, ⟨fn, ft, fi, fss⟩⟩ := ⟨_, rfl⟩
                rw [← hce] at HWc
                by_cases hc0 : ce = 0
                · have hc0' : (ce != 0) = false := by simp [hc0]
                  have HCs2 := hide ((unhide HCs).trans (chsE_good (hce.symm.trans hc0)))
                  clear hc0 hce
                  go_wp2_with (go_at_call 26; refine (unhide HWc _).mono ?_; rintro e w8 ⟨rfl, b8⟩; have HB8 := hide ((unhide HB7).trans (b8.mono (unhide HB7).size)); clear b8)
                  go_roundw
                  case rel => exact ⟨i + 1, by omega, by go_num, HCs2, HB8⟩
                  case measure => simp [intOf]; omega
                · have hc0' : (ce != 0) = true := by simp [hc0]
                  have hcs := (unhide HCs).trans (chsE_bad (by rw [← hce]; exact hc0))
                  rw [← hce] at hcs
                  have HE := hide ((unhide HC).trans (chkU_bad ((unhide HO).trans hcs) hc0))
                  clear hc0 hce hcs
                  go_wp2_with (go_at_call 26; refine (unhide HWc _).mono ?_; rintro e w8 ⟨rfl, b8⟩; have HB8 := hide ((unhide HB7).trans (b8.mono (unhide HB7).size)); clear b8)
                  go_ret
                  exact ⟨by rw [unhide HE]; rfl, ((unhide HP6).grown (unhide HB8)).bel⟩
              · have hc0 : chsE chs = 0 := by rw [unhide HCs, List.drop_of_length_le (by have := unhide HM; omega)]; rfl
                have HC2 := hide ((unhide HC).trans (chkU_good ((unhide HO).trans hc0)))
                rw [← unhide HTs] at HC2
                have HP9 := hide ((unhide HP6).grown (unhide HB))
                clear hc0
                go_wp2_with fail
                go_roundw
                case rel => exact ⟨k + 1, by omega, by go_num, HC2, HP9⟩
                case measure => simp [intOf]; omega
        · have h0' : (he != 0) = true := by simp [h0]
          have HE := hide ((unhide HC).trans (chkU_bad (oneE_head (u := ⟨tp, fr, chs⟩) (by rw [← hhe]; exact h0)) (by rw [← hhe]; exact h0)))
          rw [← hhe] at HE
          clear h0 hhe
          go_wp2_with (go_at_call 24; refine (unhide HWh _).mono ?_; rintro e w5 ⟨rfl, b5⟩; have HP5 := hide ((unhide HP2).grown b5); clear b5)
          go_ret
          exact ⟨by rw [unhide HE]; rfl, (unhide HP5).bel⟩
      · have HE : Hid (checkU us = 0) := hide (by rw [unhide HC, List.drop_of_length_le (by have := unhide HN; omega)]; rfl)
        go_wp2_with fail
        go_ret
        exact ⟨by rw [unhide HE]; rfl, (unhide HP).bel⟩
end Go.Proofs.YtfgjbmpbailebaaDoor
