/-
  DERIVED. The law's asked.
-/
import Derived.Test.YtabcmmhmghgliaaSq12
import Derived.BigQuiet
namespace Go.Proofs.Ytabcmmhmghgliaa
open Go.RowKit Go.Maps
set_option linter.unusedVariables false

theorem kd_lit (o : Option Kd) : ∃ (ks : List UInt8) (f p c : Int) (ok : Bool), kdS o = ks ∧ kdF o = apV f p c false ∧ o.isSome = ok := by
  cases o with
  | none => exact ⟨_, _, _, _, _, rfl, rfl, rfl⟩
  | some d => exact ⟨_, _, _, _, _, rfl, rfl, rfl⟩

set_option maxRecDepth 20000 in
set_option maxHeartbeats 8000000 in
theorem asked_go {w W : World} {x N rb : Nat} {F E : Nat → Prop} {Bs : List Bat} (h : PSt w W x N rb F E Bs Bs) (kd : Int) (s k : List UInt8) (hs : s.length ≤ maxLen) (hk : k.length ≤ maxLen) (n m : Int) (ea : Option Addr) (en ec : Nat) (bs bk : List UInt8) (bf : Int) (ba : Option Addr) (bn bc : Nat) :
    Calls Try.prog 10 #[.pointer (some ⟨x, 0, none⟩), .pointer (some ⟨rb, 0, none⟩), .agg (cA kd s k n m ea en ec bs bk bf ba bn bc)] W fun e W' => e = .returned (.bool true) ∧ Below W.heap.size W W' := by
  obtain ⟨w1, hw1⟩ : ∃ w1, w1 = W.alloc (.cells (cA kd s k n m ea en ec bs bk bf ba bn bc) 35) := ⟨_, rfl⟩
  have b1 : Below W.heap.size W w1 := by rw [hw1]; exact (Below.refl _ _).alloc (Nat.le_refl _) _
  obtain ⟨cb, hcb⟩ : ∃ cb, cb = W.heap.size := ⟨_, rfl⟩
  have x1 : w1.heap[cb]? = some (.cells (cA kd s k n m ea en ec bs bk bf ba bn bc) 35 (0, 0)) := by rw [hw1, hcb]; exact heap_alloc_self _ _
  have HBx : Hid (∀ V, Below w1.heap.size w1 V → V.cell? ⟨cb, 1, none⟩ = some (sv s) ∧ V.cell? ⟨cb, 2, none⟩ = some (sv k)) := hide (fun V hV => ⟨keptQ hV ((cell_of_row _ _ _ _ _ _ x1).trans rfl), keptQ hV ((cell_of_row _ _ _ _ _ _ x1).trans rfl)⟩)
  have HP : Hid (∀ V, Below w1.heap.size w1 V → PSt w V x N rb F E Bs Bs) := hide (fun V hV => (h.grown b1).grown hV)
  have HB1 := hide b1
  have hN : N ≤ 100000 := by have := h.num; have := h.len; omega
  have HOk := hide h.ok
  have HBat := hide h.bat
  have hsz : s.length ≤ 9223372036854775807 := by unfold maxLen at hs; omega
  have hkz : k.length ≤ 9223372036854775807 := by unfold maxLen at hk; omega
  have HB0 : Hid (Below w1.heap.size w1 w1) := hide (Below.refl _ _)
  have CN := hide (Names_row (unhide HP w1 (unhide HB0)).ix hN)
  have CK : Hid (∀ V, Below w1.heap.size w1 V → Calls Try.prog 31 #[.pointer (some ⟨x, 0, none⟩), sv k] V fun e w' => e = .returned (.tuple #[sv (kdS ((ixD Bs).key k)), .agg (kdF ((ixD Bs).key k)), .bool ((ixD Bs).key k).isSome]) ∧ Below V.heap.size V w') := hide (fun V hV => Keyed_go (unhide HP V hV).ix k hk)
  have CR : Hid (∀ V, Below w1.heap.size w1 V → Calls Try.prog 32 #[.pointer (some ⟨rb, 0, none⟩), sv k] V fun e w' => e = .returned (.tuple #[sv (kdS ((ixD Bs).key k)), .agg (kdF ((ixD Bs).key k)), .bool ((ixD Bs).key k).isSome]) ∧ Below V.heap.size V w') := hide (fun V hV => rKeyed_go rb Bs k V (unhide HP V hV).rd (unhide HOk) hkz)
  obtain ⟨ks, f, p, c, ok, e1, e2, e3⟩ := kd_lit ((ixD Bs).key k)
  rw [e1, e2, e3] at CK CR
  have CL : Hid (∀ V, Below w1.heap.size w1 V → Calls Try.prog 14 #[.pointer (some ⟨x, 0, none⟩)] V fun e w' => e = .returned (.int .i64 ((ixD Bs).all.length : Int)) ∧ Below V.heap.size V w') := hide (fun V hV => Len_go (unhide HP V hV).ix)
  have CE : Hid (∀ V, Below w1.heap.size w1 V → Calls Try.prog 9 #[.pointer (some ⟨rb, 0, none⟩)] V fun e w' => ∃ a c, e = .returned (.slice a (ixD Bs).all.length c) ∧ Below V.heap.size V w') := hide (fun V hV => (rEntries_go rb Bs V (unhide HP V hV).rd (unhide HOk)).mono (by
    rintro e w' ⟨v, rfl, o, b⟩
    obtain ⟨a, c, rfl⟩ := o.sl
    exact ⟨a, c, by rw [numL_len]; rfl, b⟩))
  have CV : Hid (∀ V, Below w1.heap.size w1 V → Calls Try.prog 33 #[.pointer (some ⟨x, 0, none⟩), sv s] V fun e w' => e = .returned (.int .i64 ((ixD Bs).ver s : Int)) ∧ Below V.heap.size V w') := hide (fun V hV => Version_go (unhide HP V hV).ix s hs)
  have CO : Hid (∀ V, Below w1.heap.size w1 V → Calls Try.prog 23 #[.pointer (some ⟨rb, 0, none⟩), sv s] V fun e w' => ∃ a c, e = .returned (.slice a ((ixD Bs).ver s) c) ∧ Below V.heap.size V w') := hide (fun V hV => (rOf_go rb Bs s V (unhide HP V hV).rd (unhide HOk) hsz).mono (by
    rintro e w' ⟨v, rfl, u, o, b, b'⟩
    obtain ⟨a, c, rfl⟩ := o.sl
    exact ⟨a, c, by rw [PSt.ofl], b'⟩))
  obtain ⟨A, hA⟩ : ∃ A, A = (ixD Bs).all.length := ⟨_, rfl⟩
  obtain ⟨Vr, hVr⟩ : ∃ Vr, Vr = (ixD Bs).ver s := ⟨_, rfl⟩
  rw [← hA] at CL CE
  rw [← hVr] at CV CO
  have HW1 := hide hw1
  clear h b1 x1 hA hVr e1 e2 e3 hw1
  go_enter Try.func10, Try.ntmps10
  go_upto_region 1 with fail
  rw [show W.alloc (.cells #[Value.int .i64 kd, Value.string ⟨s.toArray⟩, .string ⟨k.toArray⟩, .int .i64 n, .int .i64 m, .slice ea en ec, .string ⟨bs.toArray⟩, .string ⟨bk.toArray⟩, .int .i64 bf, .slice ba bn bc] 35) = w1 from (unhide HW1).symm]
  rw [← hcb]
  clear hcb
  go_wp2_with fail
  refine (unhide CN).mono ?_
  rintro e w2 ⟨v, ns, rfl, hlt, hmem, hrow, b2⟩
  have hns : namesD Bs = ns := names_eq rfl (fun b hb => ((unhide HBat) b hb).1) hlt hmem
  subst hns
  have HR2 := hide hrow
  have HB2 := hide b2
  have CN2 := hide (rNames_go rb Bs w2 (unhide HP w2 b2).rd (unhide HOk))
  clear hlt hmem hrow b2 CN
  go_wp2_with fail
  refine (unhide CN2).mono ?_
  rintro e w3 ⟨v3, rfl, hrow3, b3⟩
  have hva : ∃ a nn c, v = .slice a nn c ∧ nn = (namesD Bs).length ∧ (nn ≠ 0 → ∃ g, a = some ⟨g, 0, none⟩ ∧ w1.heap.size ≤ g ∧ ∃ cs, w2.heap[g]? = some (.cells cs 9 (0, 0)) ∧ nn ≤ cs.size) := by
    rcases (unhide HR2).2 with ⟨e, h0⟩ | ⟨g, cap, cur, e, hb, hg, hn, hm, hsz', _⟩
    · exact ⟨none, 0, 0, e, h0.symm, fun q => absurd rfl q⟩
    · exact ⟨_, _, _, e, rfl, fun _ => ⟨g, rfl, hb, cur, hg, by omega⟩⟩
  obtain ⟨na, nn, nc, rfl, hnn, hng⟩ := hva
  have HR3 := hide hrow3
  have HB3 : Hid (Below w1.heap.size w1 w3) := hide ((unhide HB2).trans (b3.mono (unhide HB2).size))
  obtain ⟨n3, c3, hsl3⟩ : ∃ a c, v3 = .slice a (namesD Bs).length c := by
    rcases hrow3.2 with ⟨e, h0⟩ | ⟨g, cap, cur, e, _⟩
    · exact ⟨none, 0, by rw [e, h0]⟩
    · exact ⟨_, _, e⟩
  subst hsl3
  have CS := hide (SameTexts_eq na n3 nn nc (namesD Bs).length c3 (namesD Bs) w3 ((unhide HR2).below b3 (Nat.le_refl _)).slq hrow3.slq)
  have HG : Hid (nn ≠ 0 → ∃ g, na = some ⟨g, 0, none⟩ ∧ w1.heap.size ≤ g) := hide (fun q => by obtain ⟨g, q1, q2, _⟩ := hng q; exact ⟨g, q1, q2⟩)
  have HC3 : Hid (∀ g, na = some ⟨g, 0, none⟩ → nn ≠ 0 → ∃ cs, w3.heap[g]? = some (.cells cs 9 (0, 0)) ∧ nn ≤ cs.size) := hide (fun g e q => by
    obtain ⟨g', q1, q2, cs, q3, q4⟩ := hng q
    rw [e] at q1
    cases q1
    exact ⟨cs, (b3.block g (lt_of_block q3)).trans q3, q4⟩)
  have hnm : nn ≤ 9223372036854775807 := by
    have := (unhide HR2).slq.len
    omega
  clear hng hrow3 b3 CN2 hnn
  go_wp2_with fail
  refine (unhide CS).mono ?_
  rintro e w4 ⟨rfl, b4⟩
  have HB4 : Hid (Below w1.heap.size w1 w4) := hide ((unhide HB3).trans (b4.mono (unhide HB3).size))
  have HC4 : Hid (∀ g, na = some ⟨g, 0, none⟩ → nn ≠ 0 → ∃ cs, w4.heap[g]? = some (.cells cs 9 (0, 0)) ∧ nn ≤ cs.size) := hide (fun g e q => by
    obtain ⟨cs, q3, q4⟩ := unhide HC3 g e q
    exact ⟨cs, (b4.block g (lt_of_block q3)).trans q3, q4⟩)
  clear b4 CS HC3 HB3 HR2 HR3 HB2
  go_wp2_with fail
  go_loopw [9] (fun i V => ∃ (j : Nat), j ≤ nn ∧ i = .int .i64 (j : Int) ∧ Hid (∀ g, na = some ⟨g, 0, none⟩ → nn ≠ 0 → ∃ cs, V.heap[g]? = some (.cells cs 9 (0, 0)) ∧ nn ≤ cs.size) ∧ Hid (Below w1.heap.size w1 V)) (fun i _ => nn - (intOf i).toNat)
  case atStart => exact ⟨0, by omega, rfl, HC4, HB4⟩
  case round =>
    clear HC4 HB4
    obtain ⟨j, hj, rfl, HC, HB⟩ := hrel
    by_cases hlt : j < nn
    · obtain ⟨g, rfl, hg⟩ := unhide HG (by omega)
      obtain ⟨cs, q3, q4⟩ := unhide HC g rfl (by omega)
      have hji : (j : Int) < (nn : Int) := by omega
      have hj0 : ¬ (j : Int) < 0 := by omega
      have z0 : wr.cell? ⟨g, j, none⟩ = some cs[j] := (cell_of_row _ _ _ _ _ _ q3).trans (Array.getElem?_eq_getElem (by omega))
      have zf : wr.frozen? ⟨g, j, none⟩ = false := by simp [World.frozen?, q3]
      have HC' : Hid (∀ v, ∀ g', (some ⟨g, 0, none⟩ : Option Addr) = some ⟨g', 0, none⟩ → nn ≠ 0 → ∃ cs, (wr.setCell ⟨g, j, none⟩ v).heap[g']? = some (.cells cs 9 (0, 0)) ∧ nn ≤ cs.size) := hide (fun v g' e _ => by
        cases e
        exact ⟨_, heap_setCell_same wr g j _ _ v q3, by simpa using q4⟩)
      have HB' : Hid (∀ v, Below w1.heap.size w1 (wr.setCell ⟨g, j, none⟩ v)) := hide (fun v => (unhide HB).setCell (p := ⟨g, j, none⟩) hg v)
      clear q3 HC HB
      go_wp2
      go_roundw
      case rel => exact ⟨j + 1, by omega, by go_num, hide (unhide HC' _), hide (unhide HB' _)⟩
      case measure => simp [intOf]; omega
    · have hji : ¬ (j : Int) < (nn : Int) := by omega
      clear HC HG
      have K1 := unhide CK wr (unhide HB)
      obtain ⟨y1, y2⟩ := unhide HBx wr (unhide HB)
      go_wp2_with fail
      refine K1.mono ?_
      rintro e w5 ⟨rfl, b5⟩
      have HB5 : Hid (Below w1.heap.size w1 w5) := hide ((unhide HB).trans (b5.mono (unhide HB).size))
      obtain ⟨w6, hw6⟩ : ∃ w6, w6 = w5.alloc (.cells (apV f p c false) 44) := ⟨_, rfl⟩
      have b6 : Below w5.heap.size w5 w6 := by rw [hw6]; exact (Below.refl _ _).alloc (Nat.le_refl _) _
      obtain ⟨q1, hq1⟩ : ∃ q1, q1 = w5.heap.size := ⟨_, rfl⟩
      have a6 : ABox w6 q1 f p c false := by rw [hw6, hq1]; exact heap_alloc_self _ _
      have HA6 := hide a6
      have HB6 : Hid (Below w1.heap.size w1 w6) := hide ((unhide HB5).trans (b6.mono (unhide HB5).size))
      clear K1 y1 y2 b5 b6 a6 CK
      go_upto_region 8 with fail
      rw [show w5.alloc (.cells #[Value.int .i64 f, .int .i64 p, .int .i64 c, .bool false] 44) = w6 from hw6.symm]
      rw [← hq1]
      clear hw6 hq1
      have K2 := unhide CR w6 (unhide HB6)
      obtain ⟨y1, y2⟩ := unhide HBx w6 (unhide HB6)
      go_wp2_with fail
      refine K2.mono ?_
      rintro e w7 ⟨rfl, b7⟩
      have HB7 : Hid (Below w1.heap.size w1 w7) := hide ((unhide HB6).trans (b7.mono (unhide HB6).size))
      have HA7 : Hid (ABox w7 q1 f p c false) := hide ((unhide HA6).same (b7.block q1 (lt_of_block (unhide HA6))))
      obtain ⟨w8, hw8⟩ : ∃ w8, w8 = w7.alloc (.cells (apV f p c false) 44) := ⟨_, rfl⟩
      have b8 : Below w7.heap.size w7 w8 := by rw [hw8]; exact (Below.refl _ _).alloc (Nat.le_refl _) _
      obtain ⟨q2, hq2⟩ : ∃ q2, q2 = w7.heap.size := ⟨_, rfl⟩
      have a8 : ABox w8 q2 f p c false := by rw [hw8, hq2]; exact heap_alloc_self _ _
      have HB8 : Hid (Below w1.heap.size w1 w8) := hide ((unhide HB7).trans (b8.mono (unhide HB7).size))
      have HSV : Hid (∀ V, Below w8.heap.size w8 V → V.cell? ⟨cb, 1, none⟩ = some (sv s) ∧ V.cell? ⟨q1, 0, none⟩ = some (.int .i64 f) ∧ V.cell? ⟨q1, 1, none⟩ = some (.int .i64 p) ∧ V.cell? ⟨q1, 2, none⟩ = some (.int .i64 c) ∧ V.cell? ⟨q1, 3, none⟩ = some (.bool false) ∧ V.cell? ⟨q2, 0, none⟩ = some (.int .i64 f) ∧ V.cell? ⟨q2, 1, none⟩ = some (.int .i64 p) ∧ V.cell? ⟨q2, 2, none⟩ = some (.int .i64 c) ∧ V.cell? ⟨q2, 3, none⟩ = some (.bool false)) := hide (fun V hV => by
        have h1 := (unhide HBx V ((unhide HB8).trans (hV.mono (unhide HB8).size))).1
        have h2 := (((unhide HA7).same (b8.block q1 (lt_of_block (unhide HA7)))).same (hV.block q1 (Nat.lt_of_lt_of_le (lt_of_block (unhide HA7)) b8.size))).four
        have h3 := (a8.same (hV.block q2 (lt_of_block a8))).four
        exact ⟨h1, h2.1, h2.2.1, h2.2.2.1, h2.2.2.2, h3.1, h3.2.1, h3.2.2.1, h3.2.2.2⟩)
      clear K2 y1 y2 b7 b8 a8 CR HA6 HA7 HB7 HB6 HB5 HB HP HBat HOk HB0
      go_upto_region 9 with fail
      rw [show w7.alloc (.cells #[Value.int .i64 f, .int .i64 p, .int .i64 c, .bool false] 44) = w8 from hw8.symm]
      rw [← hq2]
      clear hw8 hq2
      have H8d : Hid (Below w8.heap.size w8 w8.drew) := hide (Below.refl _ _).drew
      have HH : Hid (∀ V, Below w8.heap.size w8 V → Below w1.heap.size w1 V) := hide (fun V hV => (unhide HB8).trans (hV.mono (unhide HB8).size))
      have S0 := hide (unhide HSV _ (unhide H8d))
      have g1 : (ks == ks) = true := beq_self_eq_true _
      have g2 : (f == f) = true := beq_self_eq_true _
      have g3 : (p == p) = true := beq_self_eq_true _
      have g4 : (c == c) = true := beq_self_eq_true _
      have g5 : (ok == ok) = true := beq_self_eq_true _
      have g6 : ((A : Int) == (A : Int)) = true := beq_self_eq_true _
      have g7 : ((Vr : Int) == (Vr : Int)) = true := beq_self_eq_true _
      go_region_held3 (fun V => V.cell? ⟨cb, 1, none⟩ = some (sv s) ∧ V.cell? ⟨q1, 0, none⟩ = some (.int .i64 f) ∧ V.cell? ⟨q1, 1, none⟩ = some (.int .i64 p) ∧ V.cell? ⟨q1, 2, none⟩ = some (.int .i64 c) ∧ V.cell? ⟨q1, 3, none⟩ = some (.bool false) ∧ V.cell? ⟨q2, 0, none⟩ = some (.int .i64 f) ∧ V.cell? ⟨q2, 1, none⟩ = some (.int .i64 p) ∧ V.cell? ⟨q2, 2, none⟩ = some (.int .i64 c) ∧ V.cell? ⟨q2, 3, none⟩ = some (.bool false))
        (first | with_reducible exact unhide S0 | (refine unhide HSV _ ?_; first | with_reducible exact unhide H8d | with_reducible exact unhide HBL | with_reducible exact unhide HBE | with_reducible exact unhide HBV | with_reducible exact unhide HBO))
        ((first
          | (go_at_call 14; refine (unhide CL _ (unhide HH _ (by first | with_reducible exact unhide H8d | with_reducible exact unhide HBL | with_reducible exact unhide HBE | with_reducible exact unhide HBV | with_reducible exact unhide HBO))).mono ?_; rintro e wL ⟨rfl, bL⟩; have HBL : Hid (Below w8.heap.size w8 wL) := hide (Below.trans (by first | with_reducible exact unhide H8d | with_reducible exact unhide HBL | with_reducible exact unhide HBE | with_reducible exact unhide HBV | with_reducible exact unhide HBO) (bL.mono (Below.size (by first | with_reducible exact unhide H8d | with_reducible exact unhide HBL | with_reducible exact unhide HBE | with_reducible exact unhide HBV | with_reducible exact unhide HBO)))); clear bL)
          | (go_at_call 9; refine (unhide CE _ (unhide HH _ (by first | with_reducible exact unhide H8d | with_reducible exact unhide HBL | with_reducible exact unhide HBE | with_reducible exact unhide HBV | with_reducible exact unhide HBO))).mono ?_; rintro e wE ⟨eA, eC, rfl, bE⟩; have HBE : Hid (Below w8.heap.size w8 wE) := hide (Below.trans (by first | with_reducible exact unhide H8d | with_reducible exact unhide HBL | with_reducible exact unhide HBE | with_reducible exact unhide HBV | with_reducible exact unhide HBO) (bE.mono (Below.size (by first | with_reducible exact unhide H8d | with_reducible exact unhide HBL | with_reducible exact unhide HBE | with_reducible exact unhide HBV | with_reducible exact unhide HBO)))); clear bE)
          | (go_at_call 33; refine (unhide CV _ (unhide HH _ (by first | with_reducible exact unhide H8d | with_reducible exact unhide HBL | with_reducible exact unhide HBE | with_reducible exact unhide HBV | with_reducible exact unhide HBO))).mono ?_; rintro e wV ⟨rfl, bV⟩; have HBV : Hid (Below w8.heap.size w8 wV) := hide (Below.trans (by first | with_reducible exact unhide H8d | with_reducible exact unhide HBL | with_reducible exact unhide HBE | with_reducible exact unhide HBV | with_reducible exact unhide HBO) (bV.mono (Below.size (by first | with_reducible exact unhide H8d | with_reducible exact unhide HBL | with_reducible exact unhide HBE | with_reducible exact unhide HBV | with_reducible exact unhide HBO)))); clear bV)
          | (go_at_call 23; refine (unhide CO _ (unhide HH _ (by first | with_reducible exact unhide H8d | with_reducible exact unhide HBL | with_reducible exact unhide HBE | with_reducible exact unhide HBV | with_reducible exact unhide HBO))).mono ?_; rintro e wO ⟨oA, oC, rfl, bO⟩; have HBO : Hid (Below w8.heap.size w8 wO) := hide (Below.trans (by first | with_reducible exact unhide H8d | with_reducible exact unhide HBL | with_reducible exact unhide HBE | with_reducible exact unhide HBV | with_reducible exact unhide HBO) (bO.mono (Below.size (by first | with_reducible exact unhide H8d | with_reducible exact unhide HBL | with_reducible exact unhide HBE | with_reducible exact unhide HBV | with_reducible exact unhide HBO)))); clear bO)))
      all_goals
        go_wp2
        go_ret
        exact ⟨rfl, (unhide HB1).trans (Below.mono (unhide HH _ (by first | with_reducible exact unhide H8d | with_reducible exact unhide HBL | with_reducible exact unhide HBE | with_reducible exact unhide HBV | with_reducible exact unhide HBO)) (unhide HB1).size)⟩
end Go.Proofs.Ytabcmmhmghgliaa
