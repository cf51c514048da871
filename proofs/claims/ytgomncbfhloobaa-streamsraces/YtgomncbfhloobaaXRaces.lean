/-
  StreamsRaces: for every calls, text and two lists of events it returns true, and its arguments read as before. Conditions: none.
-/
import Derived.Test.YtgomncbfhloobaaXfill
namespace Go.Proofs.Ytgomncbfhloobaa
open Go.ChangeShapes Go.WideShapes Go.ChangeAt Go.RowKit Go.Maps
open Go.ChangeMaps (open_string shut_string)
set_option linter.unusedVariables false

theorem LSt.nil {w W : World} {G : Nat → Prop} {x N : Nat} {I : Ix} (h : LSt w W G x N I) : I.key [] = none := by
  obtain ⟨F, ⟨st, _, _, mp, mk, xs, av, pf, D1, D2, hin⟩, _⟩ := h.ix
  exact hin.nil
theorem tryA_plain {s : List UInt8} {ex : Int} {k : List UInt8} {es : List Evn} {I : Ix} (hk : I.key k = none) (h : ¬ tryOk I s ex k es) : ∃ err : Int, tryA I s ex k es = (apV 0 0 0 false, err) ∧ err ≠ 0 := by
  unfold tryA
  by_cases h1 : okNames s k
  · rw [if_neg (fun h' => h' h1), hk]
    simp only []
    by_cases h3 : okEvs es
    · rw [if_neg (fun h' => h' h3)]
      by_cases h4 : ex < -1
      · rw [if_pos h4]; exact ⟨_, rfl, by decide⟩
      · rw [if_neg h4]
        by_cases h5 : ex ≠ -1 ∧ ex ≠ (I.ver s : Int)
        · rw [if_pos h5]; exact ⟨_, rfl, by decide⟩
        · exact absurd ⟨h1, hk, h3, h4, by
            by_cases h6 : ex = -1
            · exact .inl h6
            · by_cases h7 : ex = (I.ver s : Int)
              · exact .inr h7
              · exact absurd ⟨h6, h7⟩ h5⟩ h
    · rw [if_pos h3]; exact ⟨_, rfl, by decide⟩
  · rw [if_pos h1]; exact ⟨_, rfl, by decide⟩

set_option maxRecDepth 100000 in
set_option maxHeartbeats 8000000 in
theorem XRaces.walk (ca : Option Addr) (cn cc : Nat) (cl : List SCl) (s : List UInt8) (la : Option Addr) (ln lc : Nat) (ls : List Evn) (ma : Option Addr) (mn mc : Nat) (ms : List Evn) (w : World) (hc : SClL w (.slice ca cn cc) cl) (hs : s.length ≤ maxLen) (hl : EvL w (.slice la ln lc) ls) (hlf : ∀ e ∈ ls, fitE e) (hm : EvL w (.slice ma mn mc) ms) (hmf : ∀ e ∈ ms, fitE e) :
    Calls Try.prog 7 #[.slice ca cn cc, sv s, .slice la ln lc, .slice ma mn mc] w fun e w' => e = .returned (.bool true) ∧ Below w.heap.size w w' := by
  have HS := hide hs
  have HL := hide (And.intro hl hlf)
  have HM := hide (And.intro hm hmf)
  have HC := hide hc
  have hln : ln = ls.length := by obtain ⟨_, _, e, _⟩ := hl; cases e; rfl
  have HLN := hide hln
  clear hs hl hlf hc hm hmf hln
  go_enter Try.func7, Try.ntmps7
  go_wp2_with fail
  refine (awake_go _).mono ?_
  rintro e w1 ⟨rfl, b1⟩
  have B1 := hide b1
  clear b1
  go_wp2_with fail
  refine (filled_go ca cn cc cl w1 ((unhide HC).below (unhide B1))).mono ?_
  rintro e W0 ⟨x, I, rfl, st0⟩
  have ST0 := hide (st0.back (unhide B1))
  clear st0 B1 HC
  obtain ⟨vs, hvs⟩ : ∃ vs : Nat, vs = I.ver s := ⟨_, rfl⟩
  have hv7 : vs ≤ 700 := by rw [hvs]; exact Nat.le_trans (ver_le I s) (unhide ST0).len
  have HVS := hide hvs
  have CV : Hid (Calls Try.prog 17 #[.pointer (some ⟨x, 0, none⟩), sv s] W0 fun e w' => e = .returned (.int .i64 (vs : Int)) ∧ Below W0.heap.size W0 w') := hide (by obtain ⟨F, hi, _⟩ := (unhide ST0).ix; rw [hvs]; exact Version_go hi s (unhide HS))
  clear hvs
  go_wp2_with fail
  refine (unhide CV).mono ?_
  clear CV
  rintro e W1 ⟨rfl, b1⟩
  have B1 := hide b1
  clear b1
  have KN := hide (unhide ST0).nil
  by_cases hok1 : tryOk I s vs [] ls
  · have C1 := hide ((unhide ST0).try_ok s (unhide HS) vs [] (by decide) la ln lc ls (unhide HL).1 (unhide HL).2 hok1 W1 (unhide B1))
    have OK1 := hide hok1
    obtain ⟨LN, hLN⟩ : ∃ LN, LN = ls.length := ⟨_, rfl⟩
    obtain ⟨al, hal⟩ : ∃ al : Nat, al = I.all.length := ⟨_, rfl⟩
    have HLL := hide hLN
    rw [← unhide HVS, ← hLN, ← hal] at C1
    clear hok1 hLN hal
    go_wp2_with fail
    refine (unhide C1).mono ?_
    clear C1
    rintro e W2 ⟨q1, ys1, rfl, b2, g2⟩
    obtain ⟨W3, hW3⟩ : ∃ W3, W3 = (W2.alloc (.cells (apV vs al LN false) 27)).alloc (.cells (bt s [] vs (some ⟨q1, 0, none⟩) LN LN) 30) := ⟨_, rfl⟩
    have b3 : Below W2.heap.size W2 W3 := by rw [hW3]; exact ((Below.refl _ _).alloc (Nat.le_refl _) _).alloc (by simp) _
    have t3 : BBox W3 (W2.heap.size + 1) s [] vs (.slice (some ⟨q1, 0, none⟩) LN LN) := by unfold BBox; rw [hW3, show W2.heap.size + 1 = (W2.alloc (.cells (apV vs al LN false) 27)).heap.size by simp]; exact heap_alloc_self _ _
    have z02 : W0.heap.size ≤ W2.heap.size := Nat.le_trans (unhide B1).size b2.size
    have B3 : Hid (Below W0.heap.size W0 W3) := hide (((unhide B1).trans (b2.mono (unhide B1).size)).trans (b3.mono z02))
    have K3 : Hid (EvBlk W3 q1 ls.length ys1 ∧ ys1.map (·.1) = ls ∧ (∀ y ∈ ys1, W0.heap.size ≤ y.2) ∧ W0.heap.size ≤ q1) := hide ⟨g2.blk.same (b3.block q1 g2.blk.lt) (fun y hy => b3.block y.2 (g2.blk.2 y hy).1.lt), g2.evs, fun y hy => Nat.le_trans (unhide B1).size (g2.new y hy), Nat.le_trans (unhide B1).size g2.hq⟩
    have T3 := hide t3
    obtain ⟨u1, hu1⟩ : ∃ u1, u1 = W2.heap.size := ⟨_, rfl⟩
    rw [← hu1] at T3
    have zu : Hid (W0.heap.size ≤ u1) := hide (by omega)
    by_cases hok2 : tryOk I s vs [] ms
    · have C2 := hide ((unhide ST0).try_ok s (unhide HS) vs [] (by decide) ma mn mc ms (unhide HM).1 (unhide HM).2 hok2 W3 (unhide B3))
      have OK2 := hide hok2
      obtain ⟨MN, hMN⟩ : ∃ MN, MN = ms.length := ⟨_, rfl⟩
      obtain ⟨al2, hal2⟩ : ∃ al2 : Nat, al2 = I.all.length := ⟨_, rfl⟩
      have HMM := hide hMN
      rw [← unhide HVS, ← hMN, ← hal2] at C2
      clear hok2 hMN hal2 b2 g2 b3 t3 z02
      go_wp2_with fail
      rw [← hW3, ← hu1]
      clear hW3 hu1
      refine (unhide C2).mono ?_
      clear C2
      rintro e W4 ⟨q2, ys2, rfl, b4, g4⟩
      obtain ⟨W5, hW5⟩ : ∃ W5, W5 = (W4.alloc (.cells (apV vs al2 MN false) 27)).alloc (.cells (bt s [] vs (some ⟨q2, 0, none⟩) MN MN) 30) := ⟨_, rfl⟩
      have b5 : Below W4.heap.size W4 W5 := by rw [hW5]; exact ((Below.refl _ _).alloc (Nat.le_refl _) _).alloc (by simp) _
      have t5 : BBox W5 (W4.heap.size + 1) s [] vs (.slice (some ⟨q2, 0, none⟩) MN MN) := by unfold BBox; rw [hW5, show W4.heap.size + 1 = (W4.alloc (.cells (apV vs al2 MN false) 27)).heap.size by simp]; exact heap_alloc_self _ _
      have z5 : W5.heap.size = W4.heap.size + 2 := by rw [hW5]; simp
      obtain ⟨u2, hu2⟩ : ∃ u2, u2 = W4.heap.size := ⟨_, rfl⟩
      rw [← hu2] at t5
      have b35 : Below W3.heap.size W3 W5 := b4.trans (b5.mono b4.size)
      have B5 : Below W0.heap.size W0 W5 := (unhide B3).trans (b35.mono (unhide B3).size)
      have z03 := (unhide B3).size
      have k1 := unhide K3
      have e1 : EvBlk W5 q1 ls.length ys1 := k1.1.same (b35.block q1 k1.1.lt) (fun y hy => b35.block y.2 (k1.1.2 y hy).1.lt)
      have e2 : EvBlk W5 q2 ms.length ys2 := g4.blk.same (b5.block q2 g4.blk.lt) (fun y hy => b5.block y.2 (g4.blk.2 y hy).1.lt)
      have hH : Held w W5 (fun q => W0.heap.size ≤ q ∧ q < W5.heap.size) x 700 I q1 ls.length ls := ((unhide ST0).held B5 e1 k1.2.1 k1.2.2.1 k1.2.2.2 (unhide OK1).2.2.1.2.1).less (fun q hq => .inr hq.1)
      have CA := hide (hH.add s (unhide HS) [] (by decide) (unhide HL).2 (unhide OK1) (by decide) (fun q hq => hq.2))
      have t3' : BBox W5 (u1 + 1) s [] vs (.slice (some ⟨q1, 0, none⟩) LN LN) := (unhide T3).same (b35.block _ (lt_of_block (unhide T3)))
      obtain ⟨c0, c1, c2, c3, c4⟩ := t3'.cells
      have lt1 : u1 + 1 < W5.heap.size := lt_of_block t3'
      have T5 := hide (And.intro t5 (And.intro e2 (And.intro g4.evs (And.intro (fun y hy => (Nat.le_trans z03 (g4.new y hy) : W0.heap.size ≤ (y : Evn × Nat).2)) (And.intro (Nat.le_trans z03 g4.hq) (Nat.le_trans z03 b4.size))))))
      rw [← unhide HVS, ← unhide HLL] at CA
      have Z5 := hide (And.intro z5 hu2)
      clear b4 g4 b5 t5 z5 b35 B5 z03 k1 e1 e2 hH t3' T3 K3 lt1
      go_upto_region 8 with fail
      rw [← hW5, ← hu2]
      clear hW5 hu2
      go_wp2_with fail
      refine (unhide CA).mono ?_
      clear CA
      rintro e W6 ⟨rfl, st6, k6⟩
      have ST6 := hide st6
      obtain ⟨I1, hI1⟩ : ∃ I1, I1 = I.added s [] vs ls := ⟨_, rfl⟩
      rw [← hI1] at ST6
      have HI1 := hide hI1
      have t6 := unhide T5
      have hz5 := unhide Z5
      have kk : ∀ z, W0.heap.size ≤ z → z < W5.heap.size → W6.heap[z]? = W5.heap[z]? := fun z h1 h2 => k6 z ⟨h1, h2⟩
      have bx6 : BBox W6 (u2 + 1) s [] vs (.slice (some ⟨q2, 0, none⟩) MN MN) := t6.1.same (kk _ (by omega) (lt_of_block t6.1))
      have ev6 : EvBlk W6 q2 ms.length ys2 := t6.2.1.same (kk q2 t6.2.2.2.2.1 t6.2.1.lt) (fun y hy => kk y.2 (t6.2.2.2.1 y hy) (t6.2.1.2 y hy).1.lt)
      have hl2 : ys2.length = ms.length := by have := congrArg List.length t6.2.2.1; simpa using this
      have evl6 : EvL W6 (.slice (some ⟨q2, 0, none⟩) ms.length ms.length) ms := by have := ev6.evl hl2 (unhide OK2).2.2.1.2.1; rwa [t6.2.2.1] at this
      have hver : I1.ver s = vs + LN := by rw [hI1, added_ver, if_pos rfl, ← unhide HVS, ← unhide HLL]
      have hl1 : 1 ≤ LN := by rw [unhide HLL]; exact (unhide OK1).2.2.1.1
      have hl16 : LN ≤ 16 := by rw [unhide HLL]; exact (unhide OK1).2.2.1.2.1
      have key1 : I1.key [] = none := by rw [hI1, added_key, if_neg (fun h => h.1 rfl)]; exact unhide KN
      have chk : chkA I1 s [] (vs : Int) ms = 103 := by
        unfold chkA
        rw [if_neg (fun h => h (unhide OK2).1), if_neg (by rw [key1]; simp), if_neg (fun h => h (unhide OK2).2.2.1), if_pos (by rw [hver]; omega)]
      have try1 : tryA I1 s (vs : Int) [] ms = (apV 0 0 0 false, 103) := by
        unfold tryA
        rw [if_neg (fun h => h (unhide OK2).1), key1]
        simp only []
        rw [if_neg (fun h => h (unhide OK2).2.2.1), if_neg (by omega), if_pos ⟨by omega, by rw [hver]; omega⟩]
      have try2 : tryOk I1 s ((vs + LN : Nat) : Int) [] ms := ⟨(unhide OK2).1, key1, (unhide OK2).2.2.1, by omega, .inr (by rw [hver])⟩
      have CB : Hid (Calls Try.prog 12 #[.pointer (some ⟨x, 0, none⟩), .agg (bt s [] vs (some ⟨q2, 0, none⟩) MN MN)] W6 fun e w' => e = .returned (.int .i64 103) ∧ Below W6.heap.size W6 w') := hide (by
        obtain ⟨F, hi, _⟩ := (unhide ST6).ix
        rw [unhide HMM]
        exact Add_bad hi s (unhide HS) vs [] (by decide) _ _ _ ms evl6 (unhide HM).2 103 chk (by decide))
      obtain ⟨d0, d1, d2, d3, d4⟩ := bx6.cells
      have HTR := hide (And.intro try1 try2)
      have HVER := hide hver
      have hwrap : IntKind.i64.wrap ((vs : Int) + (LN : Int)) = ((vs + LN : Nat) : Int) := by rw [IntKind.wrap_i64]; omega
      have hln2 : ln = LN := (unhide HLN).trans (unhide HLL).symm
      subst hln2
      clear st6 k6 t6 kk bx6 ev6 evl6 hl2 key1 chk try1 try2 T5 c0 c1 c2 c3 c4 hI1 hver hz5 Z5
      go_wp2_with fail
      refine (unhide CB).mono ?_
      clear CB
      rintro e W7 ⟨rfl, b7⟩
      have C3 := hide ((unhide ST6).try_bad s (unhide HS) vs [] (by decide) ma mn mc ms (unhide HM).1 (unhide HM).2 _ _ _ _ _ (unhide HTR).1 (.inl (by decide)) W7 b7)
      have B7 := hide b7
      clear b7 d0 d1 d2 d3 d4
      go_wp2_with fail
      refine (unhide C3).mono ?_
      clear C3
      rintro e W8 ⟨rfl, b8⟩
      obtain ⟨W9, hW9⟩ : ∃ W9, W9 = (W8.alloc (.cells (apV 0 0 0 false) 27)).alloc (.cells (bt [] [] 0 none 0 0) 30) := ⟨_, rfl⟩
      have b9 : Below W6.heap.size W6 W9 := by
        have t := (unhide B7).trans (b8.mono (unhide B7).size)
        rw [hW9]; exact (t.alloc t.size _).alloc (Nat.le_trans t.size (by simp)) _
      have C4 := hide ((unhide ST6).try_ok s (unhide HS) ((vs + ln : Nat) : Int) [] (by decide) ma mn mc ms (unhide HM).1 (unhide HM).2 (unhide HTR).2 W9 b9)
      have B9 := hide b9
      clear b8 b9 B7
      go_upto_region 13 with fail
      rw [← hW9]
      clear hW9
      go_wp2_with fail
      refine (unhide C4).mono ?_
      clear C4
      rintro e W10 ⟨q3, ys3, rfl, b10, _⟩
      obtain ⟨A3, hA3⟩ : ∃ A3 : Array Value, A3 = apV (I1.ver s) I1.all.length ms.length false := ⟨_, rfl⟩
      obtain ⟨W11, hW11⟩ : ∃ W11, W11 = (W10.alloc (.cells (apV (I1.ver s) I1.all.length ms.length false) 27)).alloc (.cells (bt s [] (I1.ver s) (some ⟨q3, 0, none⟩) ms.length ms.length) 30) := ⟨_, rfl⟩
      have b11 : Below W6.heap.size W6 W11 := by
        have t := (unhide B9).trans (b10.mono (unhide B9).size)
        rw [hW11]; exact (t.alloc t.size _).alloc (Nat.le_trans t.size (by simp)) _
      have CV2 : Hid (Calls Try.prog 17 #[.pointer (some ⟨x, 0, none⟩), sv s] W11 fun e w' => e = .returned (.int .i64 ((vs + ln : Nat) : Int)) ∧ Below W11.heap.size W11 w') := hide (by
        obtain ⟨F, hi, _⟩ := (unhide ST6).ix
        rw [← unhide HVER]
        exact Version_go (hi.grown b11) s (unhide HS))
      have BF := hide ((unhide ST6).bel.trans (b11.mono (unhide ST6).bel.size))
      clear b10 b11 B9 hA3
      go_upto_region 14 with fail
      rw [← hW11]
      clear hW11
      go_wp2_with fail
      refine (unhide CV2).mono ?_
      clear CV2
      rintro e W12 ⟨rfl, b12⟩
      have BG := hide ((unhide BF).trans (b12.mono (unhide BF).size))
      clear b12 BF
      go_wp2
      go_ret
      exact ⟨rfl, unhide BG⟩
    · obtain ⟨err, hA, he⟩ := tryA_plain (unhide KN) hok2
      have C2 := hide ((unhide ST0).try_bad s (unhide HS) vs [] (by decide) ma mn mc ms (unhide HM).1 (unhide HM).2 _ _ _ _ _ hA (.inl he) W3 (unhide B3))
      have hne : (err != 0) = true := by simpa [bne] using he
      clear hok2 hA he b2 g2 b3 t3 z02
      go_wp2_with fail
      rw [← hW3]
      clear hW3
      refine (unhide C2).mono ?_
      clear C2
      rintro e W4 ⟨rfl, b4⟩
      have t := ((unhide ST0).bel.trans ((unhide B3).mono (unhide ST0).bel.size))
      have t2 := t.trans (b4.mono t.size)
      have BG := hide ((t2.alloc t2.size (.cells (apV 0 0 0 false) 27)).alloc (Nat.le_trans t2.size (by simp)) (.cells (bt [] [] 0 none 0 0) 30))
      clear t t2 b4
      go_wp2
      go_ret
      exact ⟨rfl, unhide BG⟩
  · obtain ⟨err, hA, he⟩ := tryA_plain (unhide KN) hok1
    have C1 := hide ((unhide ST0).try_bad s (unhide HS) vs [] (by decide) la ln lc ls (unhide HL).1 (unhide HL).2 _ _ _ _ _ hA (.inl he) W1 (unhide B1))
    have hne : (err != 0) = true := by simpa [bne] using he
    clear hok1 hA he
    go_wp2_with fail
    refine (unhide C1).mono ?_
    clear C1
    rintro e W2 ⟨rfl, b2⟩
    obtain ⟨W3, hW3⟩ : ∃ W3, W3 = (W2.alloc (.cells (apV 0 0 0 false) 27)).alloc (.cells (bt [] [] 0 none 0 0) 30) := ⟨_, rfl⟩
    have B3 : Hid (Below W0.heap.size W0 W3) := hide (by
      have t := (unhide B1).trans (b2.mono (unhide B1).size)
      rw [hW3]; exact (t.alloc t.size _).alloc (Nat.le_trans t.size (by simp)) _)
    clear b2
    by_cases hok2 : tryOk I s vs [] ms
    · have C2 := hide ((unhide ST0).try_ok s (unhide HS) vs [] (by decide) ma mn mc ms (unhide HM).1 (unhide HM).2 hok2 W3 (unhide B3))
      clear hok2
      go_wp2_with fail
      rw [← hW3]
      clear hW3
      refine (unhide C2).mono ?_
      clear C2
      rintro e W4 ⟨q2, ys2, rfl, b4, _⟩
      have t := ((unhide ST0).bel.trans ((unhide B3).mono (unhide ST0).bel.size))
      have t2 := t.trans (b4.mono t.size)
      have BG := hide ((t2.alloc t2.size (.cells (apV (I.ver s) I.all.length ms.length false) 27)).alloc (Nat.le_trans t2.size (by simp)) (.cells (bt s [] (I.ver s) (some ⟨q2, 0, none⟩) ms.length ms.length) 30))
      clear t t2 b4
      go_wp2
      go_ret
      exact ⟨rfl, unhide BG⟩
    · obtain ⟨err2, hA, he⟩ := tryA_plain (unhide KN) hok2
      have C2 := hide ((unhide ST0).try_bad s (unhide HS) vs [] (by decide) ma mn mc ms (unhide HM).1 (unhide HM).2 _ _ _ _ _ hA (.inl he) W3 (unhide B3))
      clear hok2 hA he
      go_wp2_with fail
      rw [← hW3]
      clear hW3
      refine (unhide C2).mono ?_
      clear C2
      rintro e W4 ⟨rfl, b4⟩
      have t := ((unhide ST0).bel.trans ((unhide B3).mono (unhide ST0).bel.size))
      have t2 := t.trans (b4.mono t.size)
      have BG := hide ((t2.alloc t2.size (.cells (apV 0 0 0 false) 27)).alloc (Nat.le_trans t2.size (by simp)) (.cells (bt [] [] 0 none 0 0) 30))
      clear t t2 b4
      go_wp2
      go_ret
      exact ⟨rfl, unhide BG⟩

set_option maxRecDepth 100000 in
theorem XRaces.lifted (os : Os) (started : os.Started) (H : Type) (enc : TypeId × Value → H) :
    ReturnsInHanded {} Try.checked os 7 .any (Rows.streamsRacesSpec.pre6 enc Try.prog Try.f7 Rows.streamsRacesRow.domain false) (Rows.streamsRacesSpec.post enc Try.prog Try.f7 false true false false) := by
  refine returnsInHanded_of_change (C := Try.checked) own_knob started (by kernel_rfl) Try.func7
    (ChangeSpec.witness6 (enc := enc) (C := Try.checked) false ⟨#[], #[.slice none 0 0, .string ⟨#[]⟩, .slice none 0 0, .slice none 0 0], []⟩ 8 (by kernel_rfl) (by kernel_rfl) (by kernel_rfl) (by kernel_rfl)) ?_
  intro W base args ds gs before hval0 hW hcnd _
  have hval : ∀ (j : Nat) t v, Try.f7.params[j]? = some t → args[j]? = some v → Value.okWide Try.prog W .any base t v := hval0
  have hW' := hW
  obtain ⟨p, q, hA0, hV, rfl, hfz, hnd⟩ := hW
  have hA : DataW.TrodAll enc Try.prog W 0 (fun _ => true) true Try.f7.params.toList args.toList ds p := hA0
  rw [Try.params7] at hA hval
  obtain ⟨v0, vs0, d0, ds0, p0, q0, e0, rfl, rfl, h0, hA⟩ := trodAll_cons hA
  obtain ⟨v1, vs1, d1, ds1, p1, q1, rfl, rfl, rfl, h1, hA⟩ := trodAll_cons hA
  obtain ⟨v2, vs2, d2, ds2, p2, q2, rfl, rfl, rfl, h2, hA⟩ := trodAll_cons hA
  obtain ⟨v3, vs3, d3, ds3, p3, q3, rfl, rfl, rfl, h3, hA⟩ := trodAll_cons hA
  obtain ⟨rfl, rfl, rfl⟩ := trodAll_nil hA
  obtain rfl : args = #[v0, v1, v2, v3] := by cases args; simp_all
  obtain ⟨rfl, rfl⟩ := trodVars_none hV
  obtain ⟨a0, n0, c0, rfl⟩ := okWide_slice Try.underlying22 (hval 0 22 v0 rfl rfl)
  obtain ⟨s1, rfl, rfl, rfl, hs1⟩ := open_string Try.underlying9 (hval 1 9 v1 rfl rfl) h1
  obtain ⟨a2, n2, c2, rfl⟩ := okWide_slice Try.underlying28 (hval 2 28 v2 rfl rfl)
  obtain ⟨a3, n3, c3, rfl⟩ := okWide_slice Try.underlying28 (hval 3 28 v3 rfl rfl)
  have k0 := h0
  have lt0 : ∀ x ∈ p0, x.block < W.heap.size := by obtain ⟨m, hm⟩ := k0; exact DataW.trod_lt m _ _ _ hm
  obtain ⟨l0, g0⟩ := open_scalls h0
  have k2 := h2
  have lt2 : ∀ x ∈ p2, x.block < W.heap.size := by obtain ⟨m, hm⟩ := k2; exact DataW.trod_lt m _ _ _ hm
  obtain ⟨l2, g2, f2⟩ := open_evs h2
  have k3 := h3
  have lt3 : ∀ x ∈ p3, x.block < W.heap.size := by obtain ⟨m, hm⟩ := k3; exact DataW.trod_lt m _ _ _ hm
  obtain ⟨l3, g3, f3⟩ := open_evs h3
  clear hA0 hval0
  refine (XRaces.walk a0 n0 c0 l0 s1.data.toList a2 n2 c2 l2 a3 n3 c3 l3 W g0 hs1 g2 f2 g3 f3).mono fun e W' ⟨he, bel⟩ => ?_
  subst he
  exact ⟨_, rfl, _, _, _, [], _, [], hW', trodAll_mk1 (shut_bool Try.underlying4 _), (trodAll_cons_mk (Below.trod laid_out (by kernel_rfl) (of_decide_eq_true (by kernel_rfl)) k0 bel lt0) (trodAll_cons_mk (shut_string Try.underlying9 hs1) (trodAll_cons_mk (Below.trod laid_out (by kernel_rfl) (of_decide_eq_true (by kernel_rfl)) k2 bel lt2) (trodAll_cons_mk (Below.trod laid_out (by kernel_rfl) (of_decide_eq_true (by kernel_rfl)) k3 bel lt3) trodAll_mk0)))), rfl, bel.frame _, fun h => by cases h⟩

theorem streamsRaces_holds : Rows.StreamsRacesSaid :=
  OpenClaim.holds_of_wide 7 Try.f7 rfl rfl rfl rfl rfl rfl rfl ⟨rfl, rfl, rfl, rfl, rfl⟩ rfl rfl rfl rfl rfl (by kernel_rfl) Try.func7 (by kernel_rfl)
    (of_decide_eq_true (by kernel_rfl)) (by unfold Func.isWrapper; first | (rw [if_pos (by decide +kernel)]; kernel_rfl) | (rw [if_neg (by decide +kernel)]; exact ⟨rfl, rfl⟩))
    (fun os started H enc _ => XRaces.lifted os started H enc)
#print axioms streamsRaces_holds
end Go.Proofs.Ytgomncbfhloobaa
