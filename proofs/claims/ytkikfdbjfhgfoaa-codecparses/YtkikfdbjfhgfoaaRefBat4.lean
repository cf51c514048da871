/-
  DERIVED. The walk of the document's Batch.
-/
import Derived.Test.YtkikfdbjfhgfoaaRefBat3
import Derived.Test.YtkikfdbjfhgfoaaRefPutB
namespace Go.Proofs.Ytkikfdbjfhgfoaa
open Go.RowKit
set_option linter.unusedVariables false

theorem FBox.same6 {w w' : World} {q : Nat} {f : Fld} (h : FBox w q f) (hb : Below w.heap.size w w') : FBox w' q f := (hb.block q (lt_of_block h)).trans h
set_option maxRecDepth 20000 in
set_option maxHeartbeats 16000000 in
theorem rBatch_any (a : Option Addr) (m0 c0 : Nat) (l : List UInt8) (w : World) (hv : Sl w (.slice a m0 c0) l) :
    Calls Try.prog 13 #[.slice a m0 c0] w (Reads w l) := by
  obtain ⟨w2, hw2⟩ : ∃ w2, w2 = (w.alloc (.cells (bt [] [] 0 none 0 0) 25)).alloc (.cells #[.slice a m0 c0, .bool false] 70) := ⟨_, rfl⟩
  have g2 : w.grownBy w2 none := by rw [hw2]; exact (World.grownBy_alloc _ _ _).trans (World.grownBy_alloc _ _ _)
  have HC2 : Hid (CuAt w w2 (w.heap.size + 1) false l) := hide ⟨⟨_, by
    rw [hw2]
    have := heap_alloc_self (w.alloc (.cells (bt [] [] 0 none 0 0) 25)) (.cells #[.slice a m0 c0, .bool false] 70)
    simpa using this, hv⟩, Nat.le_succ _, g2⟩
  have HX : Hid (BBox w2 w.heap.size [] [] 0 (.slice none 0 0)) := hide (by
    unfold BBox; rw [hw2, Below.heap_alloc _ _ _ (by simp)]; exact heap_alloc_self _ _)
  have HW2 := hide hw2
  have HV := hide hv
  obtain ⟨cb, hcb⟩ : ∃ cb, cb = w.heap.size + 1 := ⟨_, rfl⟩
  rw [← hcb] at HC2
  have HCB := hide hcb
  clear hw2 hv g2 hcb
  go_enter Try.func13, Try.ntmps13
  go_wp2_with fail
  rw [← unhide HW2, ← unhide HCB]
  refine (cText_any w w2 cb false l (unhide HC2)).mono ?_
  rintro e w3 ⟨s, l3, bad3, rfl, cu3, g3, hn3, hc3⟩
  have X3 : BBox w3 w.heap.size [] [] 0 (.slice none 0 0) := (unhide HX).same (g3.block _ (lt_of_block (unhide HX)) (fun e => by have := Option.some.inj e; have := unhide HCB; omega))
  obtain ⟨w4, hw4⟩ : ∃ w4, w4 = w3.alloc (.cells (bt s [] 0 none 0 0) 25) := ⟨_, rfl⟩
  have O4 : Hid (Out w w4 cb w3.heap.size bad3 s [] 0 (.slice none 0 0) [] l3) := hide (by rw [hw4]; exact Out.first s cu3 X3)
  obtain ⟨xb, hxb⟩ : ∃ xb, xb = w3.heap.size := ⟨_, rfl⟩
  rw [← hxb] at O4
  have HXB := hide hxb
  have HW4 := hide hw4
  have HC3 := hide hc3
  clear cu3 g3 hc3 X3 hw4 hxb HX HC2 HW2 HCB
  go_wp2_with fail
  rw [← unhide HW4, ← unhide HXB]
  refine (cText_any w w4 cb bad3 l3 (unhide O4).cu).mono ?_
  rintro e w5 ⟨ky, l5, bad5, rfl, cu5, g5, hn5, hc5⟩
  have O5 := (unhide O4).cursor cu5 g5
  have p5 := O5.box.cells.2.1
  have f5 := O5.box.cells.2.2.2.2 1
  have O6 := hide (O5.set1 ky)
  have HC5 := hide hc5
  clear cu5 g5 hc5 O5 O4 HW4 HXB
  go_wp2_with fail
  obtain ⟨w6, hw6⟩ : ∃ w6, w6 = w5.setCell ⟨xb, 1, none⟩ (sv ky) := ⟨_, rfl⟩
  rw [← hw6] at O6 ⊢
  clear hw6 p5 f5
  refine (cNumber_any w w6 cb bad5 l5 (unhide O6).cu 1099511627776 (by decide)).mono ?_
  rintro e w7 ⟨fi, l7, bad7, rfl, cu7, g7, hn7, hc7⟩
  have O7 := (unhide O6).cursor cu7 g7
  have p7 := O7.box.cells.2.2.1
  have f7 := O7.box.cells.2.2.2.2 2
  have O8 := hide (O7.set2 (fi : Int))
  have HC7 := hide hc7
  clear cu7 g7 hc7 O7 O6
  go_wp2_with fail
  obtain ⟨w8, hw8⟩ : ∃ w8, w8 = w7.setCell ⟨xb, 2, none⟩ (.int .i64 (fi : Int)) := ⟨_, rfl⟩
  rw [← hw8] at O8 ⊢
  clear hw8 p7 f7
  refine (cNumber_any w w8 cb bad7 l7 (unhide O8).cu 16 (by decide)).mono ?_
  rintro e w9 ⟨n, l9, bad9, rfl, cu9, g9, hn9, hc9⟩
  have O9 := hide ((unhide O8).cursor cu9 g9)
  have B9 : Hid (BBack l n 0 bad9 s ky fi [] l9) := hide fun y hl hy => by
    obtain ⟨⟨o1, o2, o3, o4, o5, o6⟩, _⟩ := hy
    unfold layBt at hl
    simp only [List.append_assoc] at hl
    obtain ⟨e1, e2, e3⟩ := unhide HC3 y.stream _ hl (by have := o1.2; omega)
    obtain ⟨d1, d2, d3⟩ := unhide HC5 y.key _ e2 (by omega)
    obtain ⟨e4, e5, e6⟩ := unhide HC7 y.first.toNat _ d2 (by omega)
    obtain ⟨e7, e8, e9⟩ := hc9 y.events.length _ e5 (by omega)
    exact ⟨by rw [e9, e6, d3, e3], e1, d1, by omega, e7, by simp, by simpa using e8⟩
  clear cu9 g9 hc9 HC3 HC5 HC7 O8 hn7
  go_wp2_with fail
  go_loopw [7] (fun i wr => ∃ (k : Nat) (xs : List (Evn × Value)) (vE : Value) (bad : Bool) (l' : List UInt8), i = .int .i64 (k : Int) ∧ k ≤ n ∧ xs.length = k ∧ Hid (Out w wr cb xb bad s ky fi vE xs l') ∧ Hid (BBack l n k bad s ky fi (xs.map (·.1)) l') ∧ Hid (∀ x ∈ xs, fitE x.1)) (fun i _ => n - (intOf i).toNat)
  case atStart => exact ⟨0, [], _, bad9, l9, rfl, Nat.zero_le _, rfl, O9, B9, hide (fun x hx => by simp at hx)⟩
  case round =>
    obtain ⟨k, xs, vE, bad, l', rfl, hk, hxk, HO, HB, HF⟩ := hrel
    clear O9 B9
    have b1 := (unhide HO).cu.flag.1
    by_cases hgo : k < n ∧ bad = false
    · obtain ⟨hlt, rfl⟩ := hgo
      have hltI : (k : Int) < (n : Int) := by omega
      go_wp2_with fail
      refine (cText_any w wr cb false l' (unhide HO).cu).mono ?_
      rintro e wa ⟨t, la, bada, rfl, cua, ga, hna, hca⟩
      obtain ⟨wb, hwb⟩ : ∃ wb, wb = wa.alloc (.cells (ev t 0 none 0 0) 59) := ⟨_, rfl⟩
      have Mb : Hid (Mid w wr wb cb wa.heap.size bada la t 0 (.slice none 0 0) []) := hide (by rw [hwb]; exact (unhide HO).event cua ga t)
      obtain ⟨eb, heb⟩ : ∃ eb, eb = wa.heap.size := ⟨_, rfl⟩
      rw [← heb] at Mb
      have HEB := hide heb
      have HWb := hide hwb
      have HCa := hide hca
      clear cua ga hca hwb heb b1
      go_wp2_with fail
      rw [← unhide HWb, ← unhide HEB]
      refine (cNumber_any w wb cb bada la (unhide Mb).cu 1073741824 (by decide)).mono ?_
      rintro e wd ⟨ver, ld, badd, rfl, cud, gd, hnd, hcd⟩
      have Md := (unhide Mb).cursor cud gd
      have pd := Md.box.cells.2.1
      have fd := Md.box.cells.2.2.2 1
      have Me := hide (Md.set1 (ver : Int))
      have HCd := hide hcd
      clear cud gd hcd Md Mb HWb HEB
      go_wp2_with fail
      obtain ⟨we, hwe⟩ : ∃ we, we = wd.setCell ⟨eb, 1, none⟩ (.int .i64 (ver : Int)) := ⟨_, rfl⟩
      rw [← hwe] at Me ⊢
      clear hwe pd fd
      refine (cNumber_any w we cb badd ld (unhide Me).cu 16 (by decide)).mono ?_
      rintro e wf ⟨m, lf, badf, rfl, cuf, gf, hnf, hcf⟩
      have Mf := hide ((unhide Me).cursor cuf gf)
      have Bf : Hid (FBack l' m 0 badf t ver [] lf) := hide fun g r hl hok hfit => by
        obtain ⟨o1, o2, o3, o4, o5⟩ := hok
        unfold layEv at hl
        simp only [List.append_assoc] at hl
        obtain ⟨e1, e2, e3⟩ := unhide HCa g.type _ hl (by have := o1.2; omega)
        obtain ⟨e4, e5, e6⟩ := unhide HCd g.ver.toNat _ e2 (by omega)
        obtain ⟨e7, e8, e9⟩ := hcf g.fields.length _ e5 (by omega)
        exact ⟨by rw [e9, e6, e3], e1, by omega, e7, by simp, by simpa using e8⟩
      have HTn := hide hna
      obtain ⟨W0, hW0⟩ : ∃ W0, W0 = wr := ⟨_, rfl⟩
      rw [← hW0] at HO Mf
      clear cuf gf hcf HCa HCd Me hW0 hnd hna
      go_wp2_with fail
      go_loopw [10] (fun i W => ∃ (j : Nat) (fs : List Fld) (vF : Value) (badj : Bool) (lj : List UInt8), i = .int .i64 (j : Int) ∧ j ≤ m ∧ fs.length = j ∧ Hid (Mid w W0 W cb eb badj lj t ver vF fs) ∧ Hid (FBack l' m j badj t ver fs lj) ∧ Hid (∀ f ∈ fs, fits f ∧ fitN f)) (fun i _ => m - (intOf i).toNat)
      case atStart => exact ⟨0, [], _, badf, lf, rfl, Nat.zero_le _, rfl, Mf, Bf, hide (fun x hx => by simp at hx)⟩
      case round =>
        obtain ⟨j, fs, vF, badj, lj, rfl, hj, hfj, HM, HFB, HFF⟩ := hrel
        clear Mf Bf
        have b1 := (unhide HM).cu.flag.1
        by_cases hgo2 : j < m ∧ badj = false
        · obtain ⟨hlt2, rfl⟩ := hgo2
          have hlt2I : (j : Int) < (m : Int) := by omega
          have FBK := hide (unhide HFB)
          go_wp2_with fail
          refine (cText_any w wr cb false lj (unhide HM).cu).mono ?_
          rintro e w3 ⟨nm, l3, bad3, rfl, cu3, g3, hn3, hc3⟩
          have M3 := (unhide HM).cursor cu3 g3
          obtain ⟨w4, hw4⟩ : ∃ w4, w4 = w3.alloc (.cells (fv ⟨nm, false, 0, []⟩) 62) := ⟨_, rfl⟩
          have g4 : w3.grownBy w4 none := by rw [hw4]; exact World.grownBy_alloc _ _ _
          have M4 := hide (M3.grown g4)
          have F4 : Hid (FBox w4 w3.heap.size ⟨nm, false, 0, []⟩) := hide (by unfold FBox; rw [hw4]; exact heap_alloc_self _ _)
          obtain ⟨fb, hfb⟩ : ∃ fb, fb = w3.heap.size := ⟨_, rfl⟩
          have hefb : eb < fb := by rw [hfb]; exact lt_of_block M3.box
          have hcfb : cb < fb := by rw [hfb]; exact M3.cu.lt
          have hvfb : ∀ q, vF.ownBlock = some q → q < fb := fun q hq => by rw [hfb]; exact (rowL M3.row hq).1
          have HVF := hide hvfb
          rw [← hfb] at F4
          have HFBk := hide hfb
          have HW4 := hide hw4
          have HC3 := hide hc3
          clear cu3 g3 hc3 M3 hw4 hfb g4 b1 hvfb
          go_wp2_with fail
          rw [← unhide HW4, ← unhide HFBk]
          refine (cByte_any w w4 cb bad3 l3 (unhide M4).cu).mono ?_
          rintro e w5 ⟨c, l5, bad5, rfl, cu5, g5, hc5⟩
          have M5 := hide ((unhide M4).cursor cu5 g5)
          have F5 := hide ((unhide F4).far g5 (by omega))
          have HC5 := hide hc5
          have STP : Hid (∀ (f : Fld) badz lz, (bad5 = false → ∀ g r, lj = layFld g ++ r → okField g → fitN g → l3 = (if g.text then (1 : UInt8) else 0) :: ((if g.text then layT g.s else lay (zig g.n)) ++ r) → nm = g.name → badz = false ∧ f = g ∧ lz = r) → FBack l' m (j + 1) badz t ver (fs ++ [f]) lz) := hide (fun f badz lz hcc => by
            refine (unhide FBK).step hlt2 f (fun _ g r hl hok hfit => ?_)
            have hl' := hl
            unfold layFld at hl
            rw [List.append_assoc] at hl
            obtain ⟨e1, e2, e3⟩ := unhide HC3 g.name _ hl (by have := hok.1.2; omega)
            have e4 : l3 = (if g.text then (1 : UInt8) else 0) :: ((if g.text then layT g.s else lay (zig g.n)) ++ r) := by rw [e2]; cases g.text <;> rfl
            obtain ⟨d1, d2, d3⟩ := unhide HC5 _ _ e4
            exact hcc (by rw [d3, e3]) g r hl' hok hfit e4 e1)
          clear cu5 g5 hc5 M4 F4 HW4 HFBk HC3 HFB FBK
          by_cases hc0 : c = 0
          · subst hc0
            obtain ⟨ao, cap, q0, q1, hr1, hr2, hsl⟩ := (unhide M5).cu.bytes
            have IN := hide (rInt_any (.slice ao l5.length cap) l5 w5 (hsl.kept (unhide M5).cu.grown))
            have hrf := (rd_facts l5).2.2
            have STP0 : Hid (∀ badz (I : Int) lz, (bad5 = false → ∀ i r, l5 = lay (zig i) ++ r → (-9223372036854775808 ≤ i ∧ i ≤ 9223372036854775807) → badz = false ∧ I = i ∧ lz = r) → FBack l' m (j + 1) badz t ver (fs ++ [⟨nm, false, I, []⟩]) lz) := hide (fun badz I lz hcc => by
              refine unhide STP _ _ _ (fun hb5 g r hl hok hfit e4 en => ?_)
              obtain ⟨d1, d2, d3⟩ := unhide HC5 _ _ e4
              obtain ⟨gn, gt, gi, gs⟩ := g
              cases gt with
              | true => exact absurd (show (0 : UInt8) = 1 from d1) (by decide)
              | false =>
                obtain ⟨p1, p2, p3⟩ := hcc hb5 gi r d2 hfit
                have := hok.2.2 rfl
                simp only at en this
                subst en this p2
                exact ⟨p1, rfl, p3⟩)
            have hIr := rdI_range l5
            have HIB : Hid (∀ i r, l5 = lay (zig i) ++ r → (-9223372036854775808 ≤ i ∧ i ≤ 9223372036854775807) → (rd l5).2.2 = 0 ∧ rdI l5 = i ∧ l5.drop (rd l5).2.1 = r) := hide (fun i r hl hi => by
              have q := rd_lay (zig i) (zig_lt i hi.1 hi.2) r
              rw [← hl] at q
              refine ⟨by rw [q], ?_, by rw [q, hl]; exact List.drop_left⟩
              unfold rdI
              rw [q, if_pos rfl]
              exact unz_zig i)
            obtain ⟨I, hI⟩ : ∃ I, I = rdI l5 := ⟨_, rfl⟩
            obtain ⟨K, hK⟩ : ∃ K, K = (rd l5).2.1 := ⟨_, rfl⟩
            obtain ⟨E, hE⟩ : ∃ E, E = (rd l5).2.2 := ⟨_, rfl⟩
            rw [← hI, ← hK, ← hE] at IN
            rw [← hI, ← hK, ← hE] at HIB
            rw [← hK, ← hE] at hrf
            rw [← hI] at hIr
            have hKl : K ≤ l5.length := by
              by_cases h0 : E = 0
              · exact (hrf.2 h0).2.1
              · rw [(hrf.1 h0).2]; exact Nat.zero_le _
            have HSd : Hid (∀ (A : Option Addr) (mm c2 : Nat), mm = l5.length - K → c2 = cap - K → (A = ao.map (fun x => x.add K) ∨ c2 = 0) → Sl w (.slice A mm c2) (l5.drop K)) := hide fun A mm c2 => hsl.dropv K hKl A mm c2
            have FITF : Hid (fits ⟨nm, false, I, []⟩ ∧ fitN ⟨nm, false, I, []⟩) := hide ⟨⟨by show nm.length ≤ _; omega, by simp⟩, hIr⟩
            obtain ⟨n5, hn5'⟩ : ∃ n5, n5 = l5.length := ⟨_, rfl⟩
            rw [← hn5'] at IN
            rw [← hn5'] at HSd
            rw [← hn5'] at hr1 q0 hKl
            clear hI hK hE hn5' hsl STP
            go_wp2_with fail
            refine (unhide IN).mono ?_
            rintro e w6 ⟨rfl, b6⟩
            have M6 := hide ((unhide M5).grown (grown_of_below b6))
            have F6 := hide ((unhide F5).same6 b6)
            have q0' := (b6.cell (p := ⟨cb, 0, none⟩) (unhide M5).cu.lt).trans q0
            have q1' := (World.grownBy.frozen_far (grown_of_below b6) ⟨cb, 0, none⟩ (unhide M5).cu.lt (by simp)).trans q1
            clear b6 M5 F5 IN q0 q1
            obtain ⟨x0, x1, x2, x3, x4⟩ := (unhide F6).cells
            simp only at x2
            have x42 := x4 2
            have M7 := hide ((unhide M6).setF hefb (unhide HVF) 2 (.int .i64 I))
            have F7 := hide ((unhide F6).set2 I)
            clear x0 x1 x3 x4
            have hKI : (K : Int) ≤ (n5 : Int) := by omega
            have hnI : (n5 : Int) ≤ (cap : Int) := by omega
            have hcapI : (cap : Int) ≤ 9223372036854775807 := by omega
            by_cases hE0 : E = 0
            · subst hE0
              have hk0 : ¬ K = 0 := by have := (hrf.2 rfl).1; omega
              by_cases hkc : cap = K
              · obtain rfl : n5 = K := by omega
                subst hkc
                clear hKI hnI hcapI hk0 hrf
                go_upto_region 27 with fail
                obtain ⟨W, hW⟩ : ∃ W, W = (w6.setCell ⟨fb, 2, none⟩ (.int .i64 I)).setCell ⟨cb, 0, none⟩ (.slice ao 0 0) := ⟨_, rfl⟩
                rw [← hW]
                have MW : Hid (Mid w W0 W cb eb bad5 (l5.drop cap) t ver vF fs) := hide (by rw [hW]; exact (unhide M7).cursor ((unhide M7).cu.setB _ _ (unhide HSd _ _ _ (by omega) (by omega) (.inr rfl))) (setCell_grown _ _ _ _))
                have FW : Hid (FBox W fb ⟨nm, false, I, []⟩) := hide (by rw [hW]; exact (unhide F7).far (setCell_grown _ cb _ _) (by omega))
                have KW : Hid (FBack l' m (j + 1) bad5 t ver (fs ++ [⟨nm, false, I, []⟩]) (l5.drop cap)) := hide (unhide STP0 _ _ _ (fun hb i r hl hi => ⟨hb, (unhide HIB i r hl hi).2⟩))
                clear hW
                have v2 := (unhide MW).box.cells.2.2.1
                obtain ⟨u0, u1, u2', u3', u4'⟩ := (unhide FW).cells
                simp only at u0 u1 u2' u3'
                have lteb := lt_of_block (unhide MW).box
                have ltfb := lt_of_block (unhide FW)
                have RW : Hid (FdRow (W.alloc (.cells (fv ⟨nm, false, I, []⟩) 62)) w.heap.size vF fs) := hide (World.ownsRow.alloc (unhide MW).row _)
                have zW : w.heap.size ≤ W.heap.size := (unhide MW).cu.grown.size
                go_wp2_with (at_builtin; refine wpList_append_fld rfl (.tmp 105) (.tmp 107) rfl w.heap.size vF fs ⟨nm, false, I, []⟩ rfl (unhide RW) (by omega) zW rfl ?_)
                intro v' W' row' grow' loc'
                obtain ⟨sa, sn, sc, rfl⟩ := row_shape row'
                obtain ⟨E', M'⟩ := (unhide MW).put ⟨nm, false, I, []⟩ row' grow' loc'
                have v2' := E'.cells.2.2.1
                have z2' := E'.cells.2.2.2 2
                have HM' := hide M'
                have HFF' : Hid (∀ f ∈ fs ++ [(⟨nm, false, I, []⟩ : Fld)], fits f ∧ fitN f) := hide (fun f hf => by
                  rcases List.mem_append.1 hf with h' | h'
                  · exact unhide HFF f h'
                  · rw [List.mem_singleton.1 h']; exact unhide FITF)
                clear row' grow' loc' E' M' v2 u0 u1 u2' u3' u4' lteb ltfb RW MW FW
                go_wp2
                go_roundw
                case rel => exact ⟨j + 1, _, _, _, _, by go_num, by omega, by simp [hfj], HM', KW, HFF'⟩
                case measure => simp [intOf]; omega
              · clear hrf
                go_upto_region 27 with fail
                obtain ⟨W, hW⟩ : ∃ W, W = (w6.setCell ⟨fb, 2, none⟩ (.int .i64 I)).setCell ⟨cb, 0, none⟩ (.slice (ao.map (fun x => x.add K)) (n5 - K) (cap - K)) := ⟨_, rfl⟩
                rw [← hW]
                have MW : Hid (Mid w W0 W cb eb bad5 (l5.drop K) t ver vF fs) := hide (by rw [hW]; exact (unhide M7).cursor ((unhide M7).cu.setB _ _ (unhide HSd _ _ _ rfl rfl (.inl rfl))) (setCell_grown _ _ _ _))
                have FW : Hid (FBox W fb ⟨nm, false, I, []⟩) := hide (by rw [hW]; exact (unhide F7).far (setCell_grown _ cb _ _) (by omega))
                have KW : Hid (FBack l' m (j + 1) bad5 t ver (fs ++ [⟨nm, false, I, []⟩]) (l5.drop K)) := hide (unhide STP0 _ _ _ (fun hb i r hl hi => ⟨hb, (unhide HIB i r hl hi).2⟩))
                clear hW
                have v2 := (unhide MW).box.cells.2.2.1
                obtain ⟨u0, u1, u2', u3', u4'⟩ := (unhide FW).cells
                simp only at u0 u1 u2' u3'
                have lteb := lt_of_block (unhide MW).box
                have ltfb := lt_of_block (unhide FW)
                have RW : Hid (FdRow (W.alloc (.cells (fv ⟨nm, false, I, []⟩) 62)) w.heap.size vF fs) := hide (World.ownsRow.alloc (unhide MW).row _)
                have zW : w.heap.size ≤ W.heap.size := (unhide MW).cu.grown.size
                go_wp2_with (at_builtin; refine wpList_append_fld rfl (.tmp 105) (.tmp 107) rfl w.heap.size vF fs ⟨nm, false, I, []⟩ rfl (unhide RW) (by omega) zW rfl ?_)
                intro v' W' row' grow' loc'
                obtain ⟨sa, sn, sc, rfl⟩ := row_shape row'
                obtain ⟨E', M'⟩ := (unhide MW).put ⟨nm, false, I, []⟩ row' grow' loc'
                have v2' := E'.cells.2.2.1
                have z2' := E'.cells.2.2.2 2
                have HM' := hide M'
                have HFF' : Hid (∀ f ∈ fs ++ [(⟨nm, false, I, []⟩ : Fld)], fits f ∧ fitN f) := hide (fun f hf => by
                  rcases List.mem_append.1 hf with h' | h'
                  · exact unhide HFF f h'
                  · rw [List.mem_singleton.1 h']; exact unhide FITF)
                clear row' grow' loc' E' M' v2 u0 u1 u2' u3' u4' lteb ltfb RW MW FW
                go_wp2
                go_roundw
                case rel => exact ⟨j + 1, _, _, _, _, by go_num, by omega, by simp [hfj], HM', KW, HFF'⟩
                case measure => simp [intOf]; omega
            · have hEI : ¬ (E : Int) = 0 := by omega
              obtain rfl : K = 0 := (hrf.1 hE0).2
              obtain ⟨y1, y2⟩ := (unhide M6).cu.flag
              by_cases hkc : cap = 0
              · obtain rfl : n5 = 0 := by omega
                subst hkc
                clear hKI hnI hcapI hrf
                go_upto_region 27 with fail
                obtain ⟨W, hW⟩ : ∃ W, W = ((w6.setCell ⟨fb, 2, none⟩ (.int .i64 I)).setCell ⟨cb, 1, none⟩ (.bool true)).setCell ⟨cb, 0, none⟩ (.slice ao 0 0) := ⟨_, rfl⟩
                rw [← hW]
                have MB : Mid w W0 ((w6.setCell ⟨fb, 2, none⟩ (.int .i64 I)).setCell ⟨cb, 1, none⟩ (.bool true)) cb eb true l5 t ver vF fs := (unhide M7).cursor (unhide M7).cu.setBad (setCell_grown _ _ _ _)
                have MW : Hid (Mid w W0 W cb eb true (l5.drop 0) t ver vF fs) := hide (by rw [hW]; exact MB.cursor (MB.cu.setB _ _ (unhide HSd _ _ _ (by omega) (by omega) (.inr rfl))) (setCell_grown _ _ _ _))
                have FW : Hid (FBox W fb ⟨nm, false, I, []⟩) := hide (by rw [hW]; exact ((unhide F7).far (setCell_grown _ cb _ _) (by omega)).far (setCell_grown _ cb _ _) (by omega))
                have KW : Hid (FBack l' m (j + 1) true t ver (fs ++ [⟨nm, false, I, []⟩]) (l5.drop 0)) := hide (unhide STP0 _ _ _ (fun hb i r hl hi => absurd (unhide HIB i r hl hi).1 hE0))
                clear MB
                clear hW
                have v2 := (unhide MW).box.cells.2.2.1
                obtain ⟨u0, u1, u2', u3', u4'⟩ := (unhide FW).cells
                simp only at u0 u1 u2' u3'
                have lteb := lt_of_block (unhide MW).box
                have ltfb := lt_of_block (unhide FW)
                have RW : Hid (FdRow (W.alloc (.cells (fv ⟨nm, false, I, []⟩) 62)) w.heap.size vF fs) := hide (World.ownsRow.alloc (unhide MW).row _)
                have zW : w.heap.size ≤ W.heap.size := (unhide MW).cu.grown.size
                go_wp2_with (at_builtin; refine wpList_append_fld rfl (.tmp 105) (.tmp 107) rfl w.heap.size vF fs ⟨nm, false, I, []⟩ rfl (unhide RW) (by omega) zW rfl ?_)
                intro v' W' row' grow' loc'
                obtain ⟨sa, sn, sc, rfl⟩ := row_shape row'
                obtain ⟨E', M'⟩ := (unhide MW).put ⟨nm, false, I, []⟩ row' grow' loc'
                have v2' := E'.cells.2.2.1
                have z2' := E'.cells.2.2.2 2
                have HM' := hide M'
                have HFF' : Hid (∀ f ∈ fs ++ [(⟨nm, false, I, []⟩ : Fld)], fits f ∧ fitN f) := hide (fun f hf => by
                  rcases List.mem_append.1 hf with h' | h'
                  · exact unhide HFF f h'
                  · rw [List.mem_singleton.1 h']; exact unhide FITF)
                clear row' grow' loc' E' M' v2 u0 u1 u2' u3' u4' lteb ltfb RW MW FW
                go_wp2
                go_roundw
                case rel => exact ⟨j + 1, _, _, _, _, by go_num, by omega, by simp [hfj], HM', KW, HFF'⟩
                case measure => simp [intOf]; omega
              · clear hrf
                go_upto_region 27 with fail
                obtain ⟨W, hW⟩ : ∃ W, W = ((w6.setCell ⟨fb, 2, none⟩ (.int .i64 I)).setCell ⟨cb, 1, none⟩ (.bool true)).setCell ⟨cb, 0, none⟩ (.slice ao n5 cap) := ⟨_, rfl⟩
                rw [← hW]
                have MB : Mid w W0 ((w6.setCell ⟨fb, 2, none⟩ (.int .i64 I)).setCell ⟨cb, 1, none⟩ (.bool true)) cb eb true l5 t ver vF fs := (unhide M7).cursor (unhide M7).cu.setBad (setCell_grown _ _ _ _)
                have MW : Hid (Mid w W0 W cb eb true (l5.drop 0) t ver vF fs) := hide (by rw [hW]; exact MB.cursor (MB.cu.setB _ _ (unhide HSd _ _ _ (by omega) (by omega) (.inl (by cases ao <;> simp [Addr.add])))) (setCell_grown _ _ _ _))
                have FW : Hid (FBox W fb ⟨nm, false, I, []⟩) := hide (by rw [hW]; exact ((unhide F7).far (setCell_grown _ cb _ _) (by omega)).far (setCell_grown _ cb _ _) (by omega))
                have KW : Hid (FBack l' m (j + 1) true t ver (fs ++ [⟨nm, false, I, []⟩]) (l5.drop 0)) := hide (unhide STP0 _ _ _ (fun hb i r hl hi => absurd (unhide HIB i r hl hi).1 hE0))
                clear MB
                clear hW
                have v2 := (unhide MW).box.cells.2.2.1
                obtain ⟨u0, u1, u2', u3', u4'⟩ := (unhide FW).cells
                simp only at u0 u1 u2' u3'
                have lteb := lt_of_block (unhide MW).box
                have ltfb := lt_of_block (unhide FW)
                have RW : Hid (FdRow (W.alloc (.cells (fv ⟨nm, false, I, []⟩) 62)) w.heap.size vF fs) := hide (World.ownsRow.alloc (unhide MW).row _)
                have zW : w.heap.size ≤ W.heap.size := (unhide MW).cu.grown.size
                go_wp2_with (at_builtin; refine wpList_append_fld rfl (.tmp 105) (.tmp 107) rfl w.heap.size vF fs ⟨nm, false, I, []⟩ rfl (unhide RW) (by omega) zW rfl ?_)
                intro v' W' row' grow' loc'
                obtain ⟨sa, sn, sc, rfl⟩ := row_shape row'
                obtain ⟨E', M'⟩ := (unhide MW).put ⟨nm, false, I, []⟩ row' grow' loc'
                have v2' := E'.cells.2.2.1
                have z2' := E'.cells.2.2.2 2
                have HM' := hide M'
                have HFF' : Hid (∀ f ∈ fs ++ [(⟨nm, false, I, []⟩ : Fld)], fits f ∧ fitN f) := hide (fun f hf => by
                  rcases List.mem_append.1 hf with h' | h'
                  · exact unhide HFF f h'
                  · rw [List.mem_singleton.1 h']; exact unhide FITF)
                clear row' grow' loc' E' M' v2 u0 u1 u2' u3' u4' lteb ltfb RW MW FW
                go_wp2
                go_roundw
                case rel => exact ⟨j + 1, _, _, _, _, by go_num, by omega, by simp [hfj], HM', KW, HFF'⟩
                case measure => simp [intOf]; omega
          · by_cases hc1 : c = 1
            · subst hc1
              obtain ⟨x0, x1, x2, x3, x4⟩ := (unhide F5).cells
              simp only at x1
              have x41 := x4 1
              have M6 := hide ((unhide M5).setF hefb (unhide HVF) 1 (.bool true))
              have F6 := hide ((unhide F5).set1 true)
              clear x0 x2 x3 x4
              go_wp2_with fail
              obtain ⟨w6, hw6⟩ : ∃ w6, w6 = w5.setCell ⟨fb, 1, none⟩ (.bool true) := ⟨_, rfl⟩
              rw [← hw6] at M6 F6 ⊢
              clear hw6 x1 x41 M5 F5
              refine (cText_any w w6 cb bad5 l5 (unhide M6).cu).mono ?_
              rintro e w7 ⟨s7, l7, bad7, rfl, cu7, g7, hn7, hc7⟩
              have M7' := (unhide M6).cursor cu7 g7
              have F7' := (unhide F6).far g7 (by omega)
              obtain ⟨x0, x1, x2, x3, x4⟩ := F7'.cells
              simp only at x3
              have x43 := x4 3
              have M7 := hide (M7'.setF hefb (unhide HVF) 3 (sv s7))
              have F7 := hide (F7'.set3 s7)
              have FITF : Hid (fits ⟨nm, true, 0, s7⟩ ∧ fitN ⟨nm, true, 0, s7⟩) := hide ⟨⟨by show nm.length ≤ _; omega, by show s7.length ≤ _; omega⟩, by unfold fitN; simp⟩
              have KW0 : Hid (FBack l' m (j + 1) bad7 t ver (fs ++ [⟨nm, true, 0, s7⟩]) l7) := hide (unhide STP _ _ _ (fun hb5 g r hl hok hfit e4 en => by
                obtain ⟨d1, d2, d3⟩ := unhide HC5 _ _ e4
                obtain ⟨gn, gt, gi, gs⟩ := g
                cases gt with
                | false => exact absurd (show (1 : UInt8) = 0 from d1) (by decide)
                | true =>
                  have h2 := hok.2.1 rfl
                  obtain ⟨p1, p2, p3⟩ := hc7 gs r d2 (by have := h2.1; simp only at this; omega)
                  have h3 := h2.2
                  simp only at en h3
                  subst en p1 h3
                  exact ⟨by rw [p3, hb5], rfl, p2⟩))
              clear x0 x1 x2 x4 M7' F7' cu7 g7 hc7 M6 F6
              go_upto_region 27 with fail
              obtain ⟨W, hW⟩ : ∃ W, W = w7.setCell ⟨fb, 3, none⟩ (sv s7) := ⟨_, rfl⟩
              rw [← hW]
              have MW : Hid (Mid w W0 W cb eb bad7 l7 t ver vF fs) := hide (by rw [hW]; exact unhide M7)
              have FW : Hid (FBox W fb ⟨nm, true, 0, s7⟩) := hide (by rw [hW]; exact unhide F7)
              have KW := KW0
              clear hW
              have v2 := (unhide MW).box.cells.2.2.1
              obtain ⟨u0, u1, u2', u3', u4'⟩ := (unhide FW).cells
              simp only at u0 u1 u2' u3'
              have lteb := lt_of_block (unhide MW).box
              have ltfb := lt_of_block (unhide FW)
              have RW : Hid (FdRow (W.alloc (.cells (fv ⟨nm, true, 0, s7⟩) 62)) w.heap.size vF fs) := hide (World.ownsRow.alloc (unhide MW).row _)
              have zW : w.heap.size ≤ W.heap.size := (unhide MW).cu.grown.size
              go_wp2_with (at_builtin; refine wpList_append_fld rfl (.tmp 105) (.tmp 107) rfl w.heap.size vF fs ⟨nm, true, 0, s7⟩ rfl (unhide RW) (by omega) zW rfl ?_)
              intro v' W' row' grow' loc'
              obtain ⟨sa, sn, sc, rfl⟩ := row_shape row'
              obtain ⟨E', M'⟩ := (unhide MW).put ⟨nm, true, 0, s7⟩ row' grow' loc'
              have v2' := E'.cells.2.2.1
              have z2' := E'.cells.2.2.2 2
              have HM' := hide M'
              have HFF' : Hid (∀ f ∈ fs ++ [(⟨nm, true, 0, s7⟩ : Fld)], fits f ∧ fitN f) := hide (fun f hf => by
                rcases List.mem_append.1 hf with h' | h'
                · exact unhide HFF f h'
                · rw [List.mem_singleton.1 h']; exact unhide FITF)
              clear row' grow' loc' E' M' v2 u0 u1 u2' u3' u4' lteb ltfb RW MW FW
              go_wp2
              go_roundw
              case rel => exact ⟨j + 1, _, _, _, _, by go_num, by omega, by simp [hfj], HM', KW, HFF'⟩
              case measure => simp [intOf]; omega
            · obtain ⟨y1, y2⟩ := (unhide M5).cu.flag
              have n0 : ((c.toNat : Int) == 0) = false := beq_eq_false_iff_ne.2 (fun h => hc0 (by apply UInt8.toNat_inj.1; show c.toNat = 0; omega))
              have n1 : ((c.toNat : Int) == 1) = false := beq_eq_false_iff_ne.2 (fun h => hc1 (by apply UInt8.toNat_inj.1; show c.toNat = 1; omega))
              have FITF : Hid (fits ⟨nm, false, 0, []⟩ ∧ fitN ⟨nm, false, 0, []⟩) := hide ⟨⟨by show nm.length ≤ _; omega, by simp⟩, by unfold fitN; simp⟩
              have KW0 : Hid (FBack l' m (j + 1) true t ver (fs ++ [⟨nm, false, 0, []⟩]) l5) := hide (unhide STP _ _ _ (fun hb5 g r hl hok hfit e4 en => by
                obtain ⟨d1, d2, d3⟩ := unhide HC5 _ _ e4
                obtain ⟨gn, gt, gi, gs⟩ := g
                cases gt with
                | false => exact absurd d1 hc0
                | true => exact absurd d1 hc1))
              go_upto_region 27 with fail
              obtain ⟨W, hW⟩ : ∃ W, W = w5.setCell ⟨cb, 1, none⟩ (.bool true) := ⟨_, rfl⟩
              rw [← hW]
              have MW : Hid (Mid w W0 W cb eb true l5 t ver vF fs) := hide (by rw [hW]; exact (unhide M5).cursor (unhide M5).cu.setBad (setCell_grown _ _ _ _))
              have FW : Hid (FBox W fb ⟨nm, false, 0, []⟩) := hide (by rw [hW]; exact (unhide F5).far (setCell_grown _ cb _ _) (by omega))
              have KW := KW0
              clear hW
              have v2 := (unhide MW).box.cells.2.2.1
              obtain ⟨u0, u1, u2', u3', u4'⟩ := (unhide FW).cells
              simp only at u0 u1 u2' u3'
              have lteb := lt_of_block (unhide MW).box
              have ltfb := lt_of_block (unhide FW)
              have RW : Hid (FdRow (W.alloc (.cells (fv ⟨nm, false, 0, []⟩) 62)) w.heap.size vF fs) := hide (World.ownsRow.alloc (unhide MW).row _)
              have zW : w.heap.size ≤ W.heap.size := (unhide MW).cu.grown.size
              go_wp2_with (at_builtin; refine wpList_append_fld rfl (.tmp 105) (.tmp 107) rfl w.heap.size vF fs ⟨nm, false, 0, []⟩ rfl (unhide RW) (by omega) zW rfl ?_)
              intro v' W' row' grow' loc'
              obtain ⟨sa, sn, sc, rfl⟩ := row_shape row'
              obtain ⟨E', M'⟩ := (unhide MW).put ⟨nm, false, 0, []⟩ row' grow' loc'
              have v2' := E'.cells.2.2.1
              have z2' := E'.cells.2.2.2 2
              have HM' := hide M'
              have HFF' : Hid (∀ f ∈ fs ++ [(⟨nm, false, 0, []⟩ : Fld)], fits f ∧ fitN f) := hide (fun f hf => by
                rcases List.mem_append.1 hf with h' | h'
                · exact unhide HFF f h'
                · rw [List.mem_singleton.1 h']; exact unhide FITF)
              clear row' grow' loc' E' M' v2 u0 u1 u2' u3' u4' lteb ltfb RW MW FW
              go_wp2
              go_roundw
              case rel => exact ⟨j + 1, _, _, _, _, by go_num, by omega, by simp [hfj], HM', KW, HFF'⟩
              case measure => simp [intOf]; omega
        · by_cases hjm : j < m
          · have hjI : (j : Int) < (m : Int) := by omega
            cases badj with
            | false => exact absurd ⟨hjm, rfl⟩ hgo2
            | true =>
              have v3 := ((unhide HO).mid (unhide HM)).box.cells.2.2.2.1
              obtain ⟨fa, fn, fc, hvF⟩ := row_shape (unhide HM).row
              subst hvF
              obtain ⟨u0, u1, u2', u3'⟩ := (unhide HM).box.cells
              have RW : Hid ((wr.alloc (.cells #[sv t, .int .i64 (ver : Int), .slice fa fn fc] 59)).ownsRow w.heap.size 59 3 vE xs.length (evC xs)) := hide (World.ownsRow.alloc ((unhide HO).mid (unhide HM)).rows.row _)
              have zW : w.heap.size ≤ wr.heap.size := (unhide HM).cu.grown.size
              have ltxb := lt_of_block ((unhide HO).mid (unhide HM)).box
              have lteb := lt_of_block (unhide HM).box
              have EFIT : Hid (fitE ⟨t, ver, fs⟩) := hide ⟨by show t.length ≤ _; have := unhide HTn; omega, unhide HFF⟩
              have BB2 : Hid (BBack l n (k + 1) true s ky fi ((xs ++ [((⟨t, ver, fs⟩ : Evn), Value.slice fa fn fc)]).map (·.1)) lj) := hide (by
                rw [List.map_append]
                refine (unhide HB).step hlt ⟨t, ver, fs⟩ (fun g r hl hok hfit => ?_)
                obtain ⟨q0, q1, q2, q3, q4, q5⟩ := unhide HFB g r hl hok hfit
                have hjm : j = m := by
                  by_cases h : j < m
                  · exact absurd ⟨h, q0⟩ hgo2
                  · omega
                obtain ⟨gt, gv, gf⟩ := g
                simp only at q1 q2 q3 q4 q5
                rw [hjm, q3] at q4 q5
                rw [List.take_of_length_le (Nat.le_refl _)] at q4
                rw [List.drop_eq_nil_of_le (Nat.le_refl _)] at q5
                subst q1 q2 q4
                exact ⟨q0, rfl, by simpa [laysL] using q5⟩)
              go_wp2_with (at_builtin; refine wpList_append_evn rfl (.tmp 111) (.tmp 113) rfl w.heap.size vE xs t (ver : Int) (.slice fa fn fc) rfl (unhide RW) (by omega) zW rfl rfl ?_)
              intro v' W' row' grow' loc'
              obtain ⟨sa, sn, sc, rfl⟩ := row_shape row'
              rw [← hxk] at row'
              obtain ⟨E', O'⟩ := (unhide HO).put (unhide HM) (by omega) row' grow' loc'
              have v3' := E'.cells.2.2.2.1
              have z3' := E'.cells.2.2.2.2 3
              have HO' := hide O'
              have HF' : Hid (∀ x ∈ xs ++ [((⟨t, ver, fs⟩ : Evn), Value.slice fa fn fc)], fitE x.1) := hide (fun x hx => by
                rcases List.mem_append.1 hx with h' | h'
                · exact unhide HF x h'
                · rw [List.mem_singleton.1 h']; exact unhide EFIT)
              clear row' grow' loc' E' O' v3 u0 u1 u2' u3' ltxb lteb RW HM HO
              go_wp2
              go_roundw
              case rel => exact ⟨k + 1, _, _, _, _, by go_num, by omega, by simp [hxk], HO', BB2, HF'⟩
              case measure => simp [intOf]; omega
          · have hjI : ¬ (j : Int) < (m : Int) := by omega
            have v3 := ((unhide HO).mid (unhide HM)).box.cells.2.2.2.1
            obtain ⟨fa, fn, fc, hvF⟩ := row_shape (unhide HM).row
            subst hvF
            obtain ⟨u0, u1, u2', u3'⟩ := (unhide HM).box.cells
            have RW : Hid ((wr.alloc (.cells #[sv t, .int .i64 (ver : Int), .slice fa fn fc] 59)).ownsRow w.heap.size 59 3 vE xs.length (evC xs)) := hide (World.ownsRow.alloc ((unhide HO).mid (unhide HM)).rows.row _)
            have zW : w.heap.size ≤ wr.heap.size := (unhide HM).cu.grown.size
            have ltxb := lt_of_block ((unhide HO).mid (unhide HM)).box
            have lteb := lt_of_block (unhide HM).box
            have EFIT : Hid (fitE ⟨t, ver, fs⟩) := hide ⟨by show t.length ≤ _; have := unhide HTn; omega, unhide HFF⟩
            have BB2 : Hid (BBack l n (k + 1) badj s ky fi ((xs ++ [((⟨t, ver, fs⟩ : Evn), Value.slice fa fn fc)]).map (·.1)) lj) := hide (by
              rw [List.map_append]
              refine (unhide HB).step hlt ⟨t, ver, fs⟩ (fun g r hl hok hfit => ?_)
              obtain ⟨q0, q1, q2, q3, q4, q5⟩ := unhide HFB g r hl hok hfit
              have hjm : j = m := by
                by_cases h : j < m
                · exact absurd ⟨h, q0⟩ hgo2
                · omega
              obtain ⟨gt, gv, gf⟩ := g
              simp only at q1 q2 q3 q4 q5
              rw [hjm, q3] at q4 q5
              rw [List.take_of_length_le (Nat.le_refl _)] at q4
              rw [List.drop_eq_nil_of_le (Nat.le_refl _)] at q5
              subst q1 q2 q4
              exact ⟨q0, rfl, by simpa [laysL] using q5⟩)
            go_wp2_with (at_builtin; refine wpList_append_evn rfl (.tmp 111) (.tmp 113) rfl w.heap.size vE xs t (ver : Int) (.slice fa fn fc) rfl (unhide RW) (by omega) zW rfl rfl ?_)
            intro v' W' row' grow' loc'
            obtain ⟨sa, sn, sc, rfl⟩ := row_shape row'
            rw [← hxk] at row'
            obtain ⟨E', O'⟩ := (unhide HO).put (unhide HM) (by omega) row' grow' loc'
            have v3' := E'.cells.2.2.2.1
            have z3' := E'.cells.2.2.2.2 3
            have HO' := hide O'
            have HF' : Hid (∀ x ∈ xs ++ [((⟨t, ver, fs⟩ : Evn), Value.slice fa fn fc)], fitE x.1) := hide (fun x hx => by
              rcases List.mem_append.1 hx with h' | h'
              · exact unhide HF x h'
              · rw [List.mem_singleton.1 h']; exact unhide EFIT)
            clear row' grow' loc' E' O' v3 u0 u1 u2' u3' ltxb lteb RW HM HO
            go_wp2
            go_roundw
            case rel => exact ⟨k + 1, _, _, _, _, by go_num, by omega, by simp [hxk], HO', BB2, HF'⟩
            case measure => simp [intOf]; omega
    · cases bad with
      | true =>
        have NOY : ∀ y, goodB y → (layBt y).length ≤ 2000 → layBt y ≠ l := fun y hy _ he => by have := (unhide HB y he.symm hy).1; cases this
        by_cases hkn : k < n
        · have hkI : (k : Int) < (n : Int) := by omega
          obtain ⟨d0, d1, d2, d3, d4⟩ := (unhide HO).res.cells
          have F := hide (reads_none (unhide HO).cu.grown (unhide HO).res NOY)
          clear HO HB HF NOY
          go_wp2
          refine bodyPost_ret (v := .tuple #[.agg (bt [] [] 0 none 0 0), .int .i64 11]) ?_ rfl (unhide F).1
          obtain ⟨t0, t1, t2, t3, t4⟩ := (unhide F).2.cells
          simp [results, Try.results13, go_sem, t0, t1, t2, t3]
        · have hkI : ¬ (k : Int) < (n : Int) := by omega
          obtain ⟨d0, d1, d2, d3, d4⟩ := (unhide HO).res.cells
          have F := hide (reads_none (unhide HO).cu.grown (unhide HO).res NOY)
          clear HO HB HF NOY
          go_wp2
          refine bodyPost_ret (v := .tuple #[.agg (bt [] [] 0 none 0 0), .int .i64 11]) ?_ rfl (unhide F).1
          obtain ⟨t0, t1, t2, t3, t4⟩ := (unhide F).2.cells
          simp [results, Try.results13, go_sem, t0, t1, t2, t3]
      | false =>
        obtain rfl : k = n := by
          by_cases h : k < n
          · exact absurd ⟨h, rfl⟩ hgo
          · omega
        have hkI : ¬ (k : Int) < (k : Int) := by omega
        obtain ⟨bo, bc, y0, y1, hb1, hb2, hbs⟩ := (unhide HO).cu.bytes
        by_cases hll : l' = []
        · subst hll
          simp only [List.length_nil] at y0
          clear hbs hb1
          obtain ⟨va, vn, vc, hvE⟩ := row_shape (unhide HO).rows.row
          subst hvE
          obtain ⟨va', vn', vc', e1, e2, EV⟩ := (unhide HO).rows.evl (by omega)
          clear e1 e2 va' vn' vc'
          obtain ⟨es, hes⟩ : ∃ es, es = xs.map (·.1) := ⟨_, rfl⟩
          rw [← hes] at EV HB
          have HFE : Hid (∀ e ∈ es, fitE e) := hide (fun e he => by
            rw [hes] at he
            obtain ⟨x, hx, rfl⟩ := List.mem_map.1 he
            exact unhide HF x hx)
          have HEV := hide EV
          obtain ⟨d0, d1, d2, d3, d4⟩ := (unhide HO).box.cells
          obtain ⟨z, hz⟩ : ∃ z, putE ⟨s, ky, fi, es⟩ = z := ⟨_, rfl⟩
          have PB := hide (rPutBatch_any s ky fi va vn vc es wr (by omega) EV (unhide HFE))
          rw [hz] at PB
          have HYY : Hid (∀ y, layBt y = l → goodB y → (⟨s, ky, fi, es⟩ : Bat) = y) := hide (fun y hl hy => by
            obtain ⟨q0, q1, q2, q3, q4, q5, q6⟩ := unhide HB y hl.symm hy
            obtain ⟨ys, yk, yf, ye⟩ := y
            simp only at q1 q2 q3 q4 q5
            rw [q4, List.take_of_length_le (Nat.le_refl _)] at q5
            rw [q1, q2, q3, q5])
          have HZ := hide hz
          have HES := hide hes
          clear EV hz hes HB
          go_wp2_with fail
          refine (unhide PB).mono ?_
          rintro e wp ⟨vp, rfl, bp, op, np⟩
          have HO2 := hide ((unhide HO).cursor ((unhide HO).cu.kept (grown_of_below bp)) ((grown_of_below bp).but _))
          have HOP := hide op
          have HNP := hide np
          have VP := hide ((unhide HV).kept (unhide HO2).cu.grown)
          clear bp op np d0 d1 d2 d3 d4 y0 y1 HO
          have HO := HO2
          clear HO2
          by_cases hz0 : z = 0
          · subst hz0
            have OP := unhide HOP rfl
            obtain ⟨T, hT⟩ : ∃ T, T = layBt ⟨s, ky, fi, es⟩ := ⟨_, rfl⟩
            rw [← hT] at OP
            obtain ⟨pa, pn, pc, rfl⟩ := row_shape OP
            have sp := OP.sl.str
            have sb := (unhide VP).str
            have HT := hide hT
            clear OP HOP HNP hT
            by_cases hTl : T = l
            · have tb : (T == l) = true := beq_iff_eq.2 hTl
              obtain ⟨d0, d1, d2, d3, d4⟩ := (unhide HO).res.cells
              obtain ⟨x0, x1, x2, x3, x4⟩ := (unhide HO).box.cells
              have hgl := put_good' (unhide HFE) (unhide HZ)
              have F := hide (reads_some (l := l) (unhide HO) (by omega) (by rw [← unhide HES]; exact hgl.1) (by rw [← unhide HES]; exact hgl.2) (by rw [← unhide HES, ← unhide HT]; exact hTl))
              clear HO HF HFE HYY hTl hgl HEV
              go_wp2
              refine bodyPost_ret (v := .tuple #[.agg (bt s ky fi va vn vc), .int .i64 0]) ?_ rfl (unhide F).1
              obtain ⟨t0, t1, t2, t3, t4⟩ := (unhide F).2.cells
              simp [results, Try.results13, go_sem, t0, t1, t2, t3]
            · have tb : (T == l) = false := beq_eq_false_iff_ne.2 hTl
              have NOY : ∀ y, goodB y → (layBt y).length ≤ 2000 → layBt y ≠ l := fun y hy _ he => by
                have := unhide HYY y he hy
                apply hTl
                rw [unhide HT, this]; exact he
              clear hTl
              obtain ⟨d0, d1, d2, d3, d4⟩ := (unhide HO).res.cells
              have F := hide (reads_none (unhide HO).cu.grown (unhide HO).res NOY)
              clear HO HF NOY HYY HFE HEV
              go_wp2
              refine bodyPost_ret (v := .tuple #[.agg (bt [] [] 0 none 0 0), .int .i64 11]) ?_ rfl (unhide F).1
              obtain ⟨t0, t1, t2, t3, t4⟩ := (unhide F).2.cells
              simp [results, Try.results13, go_sem, t0, t1, t2, t3]
          · have hne : (z != 0) = true := by rw [bne_iff_ne]; exact hz0
            have evp := unhide HNP hz0
            subst evp
            have NOY : ∀ y, goodB y → (layBt y).length ≤ 2000 → layBt y ≠ l := fun y hy hyl he => by
              have := unhide HYY y he hy
              apply hz0
              rw [← unhide HZ, this]
              unfold putE
              rw [batE_ok hy.1 (fun e he => (hy.2 e he).1), if_neg (by simp), if_neg (by omega)]
            clear HNP HOP hz0
            obtain ⟨d0, d1, d2, d3, d4⟩ := (unhide HO).res.cells
            have F := hide (reads_none (unhide HO).cu.grown (unhide HO).res NOY)
            clear HO HF NOY HYY HFE HEV
            go_wp2
            refine bodyPost_ret (v := .tuple #[.agg (bt [] [] 0 none 0 0), .int .i64 11]) ?_ rfl (unhide F).1
            obtain ⟨t0, t1, t2, t3, t4⟩ := (unhide F).2.cells
            simp [results, Try.results13, go_sem, t0, t1, t2, t3]
        · have hlp : ¬ ((l'.length : Int) = 0) := by have := List.length_pos_iff.2 hll; omega
          have hlp2 : (0 : Int) < (l'.length : Int) := by have := List.length_pos_iff.2 hll; omega
          have NOY : ∀ y, goodB y → (layBt y).length ≤ 2000 → layBt y ≠ l := fun y hy _ he => by
            obtain ⟨q0, q1, q2, q3, q4, q5, q6⟩ := unhide HB y he.symm hy
            rw [q4, List.drop_eq_nil_of_le (Nat.le_refl _)] at q6
            exact hll q6
          have hll' := hide hll
          clear hll hbs
          obtain ⟨d0, d1, d2, d3, d4⟩ := (unhide HO).res.cells
          have F := hide (reads_none (unhide HO).cu.grown (unhide HO).res NOY)
          clear HO HB HF NOY
          go_wp2
          refine bodyPost_ret (v := .tuple #[.agg (bt [] [] 0 none 0 0), .int .i64 11]) ?_ rfl (unhide F).1
          obtain ⟨t0, t1, t2, t3, t4⟩ := (unhide F).2.cells
          simp [results, Try.results13, go_sem, t0, t1, t2, t3]
end Go.Proofs.Ytkikfdbjfhgfoaa
