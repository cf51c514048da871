/-
  DERIVED. The walk of the law StreamsPlays.
-/
import Derived.Test.YtabcmmhmghgliaaSq17
import Derived.Test.YtabcmmhmghgliaaXawake
namespace Go.Proofs.Ytabcmmhmghgliaa
open Go.RowKit Go.Maps
set_option linter.unusedVariables false

/-- A call's ten cells, and what they read as. -/
structure PClAt (w : World) (b o : Nat) (c : PCl) : Prop where
  c0 : w.cell? ⟨b, o, none⟩ = some (.int .i64 c.kd)
  c1 : w.cell? ⟨b, o + 1, none⟩ = some (sv c.s)
  c2 : w.cell? ⟨b, o + 2, none⟩ = some (sv c.k)
  c3 : w.cell? ⟨b, o + 3, none⟩ = some (.int .i64 c.n)
  c4 : w.cell? ⟨b, o + 4, none⟩ = some (.int .i64 c.m)
  c5 : w.cell? ⟨b, o + 5, none⟩ = some (.slice c.ea c.en c.ec)
  c6 : w.cell? ⟨b, o + 6, none⟩ = some (sv c.bs)
  c7 : w.cell? ⟨b, o + 7, none⟩ = some (sv c.bk)
  c8 : w.cell? ⟨b, o + 8, none⟩ = some (.int .i64 c.bf)
  c9 : w.cell? ⟨b, o + 9, none⟩ = some (.slice c.ba c.bn c.bc)
  ok : PClOk w c
/-- A slice of calls. -/
def PClL (w : World) (v : Value) (l : List PCl) : Prop :=
  ∃ ao cap, v = .slice ao l.length cap ∧ l.length ≤ 9223372036854775807 ∧ (0 < l.length → ∃ b off, ao = some ⟨b, off, none⟩ ∧ ∀ i, (h : i < l.length) → PClAt w b (off + i * 10) l[i])

/-- The document's index, just made. -/
theorem rin_new {w W : World} {rb : Nat} (hb : w.heap.size ≤ rb) (h : W.heap[rb]? = some (.cells #[.slice none 0 0] 29 (0, 0))) : RIn W (fun q => q < w.heap.size ∨ False) rb w.heap.size [] := by
  refine ⟨_, [], h, World.ownsRow_nil _ _ _ _, rfl, fun q => ?_, fun q hq => ?_, fun r hr => ?_⟩
  · rcases q with q | q
    · omega
    · exact q
  · cases hq
  · cases hr
theorem pst_new {w W : World} {x rb : Nat} {F : Nat → Prop} (hi : IxAt W F x 0 Ix.new) (hF : ∀ q, F q → w.heap.size ≤ q ∧ q < W.heap.size ∧ q ≠ rb) (hb : w.heap.size ≤ rb) (h : W.heap[rb]? = some (.cells #[.slice none 0 0] 29 (0, 0))) (hbel : Below w.heap.size w W) : PSt w W x 0 rb F (fun _ => False) [] [] := by
  refine ⟨by rw [show ixD [] = Ix.new from rfl]; exact hi, fun q hq => ⟨(hF q hq).1, (hF q hq).2.1, fun h => h, (hF q hq).2.2⟩, fun q hq => hq.elim, rin_new hb h, fun v hv q hq => ?_, hbel, ⟨by simp, by simp⟩, fun b hb => ?_, by simp⟩
  · have e : v = .slice none 0 0 := by rw [h] at hv; simpa using hv.symm
    subst e
    cases hq
  · cases hb

set_option maxRecDepth 100000 in
set_option maxHeartbeats 16000000 in
theorem SPlays_walk (ca : Option Addr) (cn cc : Nat) (cl : List PCl) (w : World) (hc : PClL w (.slice ca cn cc) cl) :
    Calls Try.prog 3 #[.slice ca cn cc] w fun e w' => e = .returned (.bool true) ∧ Below w.heap.size w w' := by
  have HC := hide hc
  have hcn : cn = cl.length := by obtain ⟨_, _, e, _⟩ := hc; cases e; rfl
  have HCN := hide hcn
  have hcl : cn ≤ 9223372036854775807 := by obtain ⟨_, _, e, h, _⟩ := hc; omega
  clear hc hcn
  go_enter Try.func3, Try.ntmps3
  go_wp2_with fail
  with_reducible refine (awake_go _).mono ?_
  rintro e w1 ⟨rfl, b1⟩
  have HB1 := hide b1
  clear b1
  go_wp2_with fail
  with_reducible refine (New_go _).mono ?_
  rintro e w2 ⟨x, rfl, i2, b2⟩
  have HI2 := hide i2
  have HB2 : Hid (Below w.heap.size w w2) := hide ((unhide HB1).trans (b2.mono (unhide HB1).size))
  have HZ2 := hide b2.size
  clear i2 b2
  go_upto_region 6 with fail
  obtain ⟨w3, hw3⟩ : ∃ w3, w3 = w2.alloc (.cells #[.slice none 0 0] 29) := ⟨_, rfl⟩
  obtain ⟨rb, hrb⟩ : ∃ rb, rb = w2.heap.size := ⟨_, rfl⟩
  have b3 : Below w2.heap.size w2 w3 := by rw [hw3]; exact (Below.refl _ _).alloc (Nat.le_refl _) _
  have p3 : PSt w w3 x 0 rb (fun k => w1.heap.size ≤ k ∧ k < w2.heap.size) (fun _ => False) [] [] := pst_new ((unhide HI2).grown b3) (fun q hq => ⟨Nat.le_trans (unhide HB1).size hq.1, Nat.lt_of_lt_of_le hq.2 b3.size, by omega⟩) (by rw [hrb]; exact (unhide HB2).size) (by rw [hw3, hrb]; exact heap_alloc_self _ _) ((unhide HB2).trans (b3.mono (unhide HB2).size))
  rw [← hw3]
  rw [← hrb]
  have HP3 : Hid (∃ N F E Bs, PSt w w3 x N rb F E Bs Bs ∧ Bs.length ≤ 0) := hide ⟨_, _, _, _, p3, Nat.le_refl _⟩
  clear hw3 hrb b3 p3 HI2 HB2 HB1 HZ2
  go_wp2_with fail
  go_loopw [6, 7] (fun i _ V => ∃ (j : Nat), j ≤ 60 ∧ j ≤ cn ∧ i = .int .i64 (j : Int) ∧ Hid (∃ N F E Bs, PSt w V x N rb F E Bs Bs ∧ Bs.length ≤ j)) (fun i _ _ => 60 - (intOf i).toNat)
  case atStart => exact ⟨0, by omega, by omega, rfl, HP3⟩
  case round =>
    clear HP3
    obtain ⟨j, hj, hjn, rfl, HPj⟩ := hrel
    by_cases hgo : j < cn ∧ j < 60
    · obtain ⟨hjc, hj60⟩ := hgo
      obtain ⟨N, F, E, Bs, p, hBl⟩ := unhide HPj
      obtain ⟨ao, cap, e, _, hcells⟩ := unhide HC
      have hlen : cl.length = cn := (unhide HCN).symm
      obtain ⟨b, off, ha, hAt⟩ := hcells (by omega)
      have hca : ca = some ⟨b, off, none⟩ := by injection e with e1 e2 e3; rw [e1]; exact ha
      subst hca
      obtain ⟨c, hcj⟩ : ∃ c, c = cl[j]'(by omega) := ⟨_, rfl⟩
      have hA : PClAt w b (off + j * 10) c := by rw [hcj]; exact hAt j (by omega)
      have CD := hide (do_go p (by omega) c hA.ok)
      obtain ⟨d0, d1, d2, d3, d4, d5, d6, d7, d8, d9, _⟩ := hA
      have z0 := keptQ p.bel d0
      have z1 := keptQ p.bel d1
      have z2 := keptQ p.bel d2
      have z3 := keptQ p.bel d3
      have z4 := keptQ p.bel d4
      have z5 := keptQ p.bel d5
      have z6 := keptQ p.bel d6
      have z7 := keptQ p.bel d7
      have z8 := keptQ p.bel d8
      have z9 := keptQ p.bel d9
      have HBl := hide hBl
      have h1 : (j : Int) < (cn : Int) := by omega
      have h2 : (j : Int) < 60 := by omega
      have h0 : ¬ (j : Int) < 0 := by omega
      obtain ⟨kd, s, k, n, m, ea, en, ec, es, bs, bk, bf, ba, bn, bc, be⟩ := c
      simp only [PCl.v] at CD z0 z1 z2 z3 z4 z5 z6 z7 z8 z9
      clear hcells e hlen ha hAt hcj d0 d1 d2 d3 d4 d5 d6 d7 d8 d9 p HPj hBl
      go_wp2_with fail
      with_reducible refine (unhide CD).mono ?_
      rintro e w4 ⟨rfl, hp⟩
      have HPP := hide hp
      clear hp CD z0 z1 z2 z3 z4 z5 z6 z7 z8 z9
      go_wp2_with fail
      go_roundw
      case rel =>
        refine ⟨j + 1, by omega, by omega, by go_num, hide ?_⟩
        obtain ⟨N', F', E', Bs', p', hl'⟩ := unhide HPP
        exact ⟨N', F', E', Bs', p', by have := unhide HBl; omega⟩
      case measure => simp [intOf]; omega
    · obtain ⟨N, F, E, Bs, p, hBl⟩ := unhide HPj
      have hN : N ≤ 100000 := by have := p.num; have := p.len; omega
      have CAll : Hid (Calls Try.prog 7 #[.pointer (some ⟨x, 0, none⟩), .int .i64 0, .int .i64 1099511627776] wr (OutE wr (numL (entD Bs)))) := hide (by
        have c := All_out p.ix hN 0 1099511627776 (by omega) (by omega)
        have e1 : (numL (ixD Bs).all).length ≤ 100000 := by
          rw [numL_len]
          obtain ⟨_, _, _, _, _, _, _, _, _, _, hin⟩ := p.ix
          have := hin.len
          omega
        rw [List.drop_zero, List.take_of_length_le (by omega)] at c
        exact c)
      have HP := hide p
      clear p hBl HPj
      have hc2 : (¬ (j : Int) < (cn : Int)) ∨ ((j : Int) < (cn : Int) ∧ ¬ (j : Int) < 60) := by omega
      rcases hc2 with h1 | ⟨h1, h2⟩
      · clear hgo
        go_wp2_with fail
        with_reducible refine (unhide CAll).mono ?_
        rintro e w5 ⟨q, zn, rs, rfl, en5, hzl, hz9, hsp, b5⟩
        have HE5 := hide en5
        have HSp := hide hsp
        have HZl := hide hzl
        have HB5 := hide b5
        clear en5 hsp hzl b5 CAll
        have CE := hide (rEntries_go rb Bs w5 ((unhide HP).grown (unhide HB5)).rd (unhide HP).ok)
        go_wp2_with fail
        with_reducible refine (unhide CE).mono ?_
        rintro e w6 ⟨v6, rfl, o6, b6⟩
        obtain ⟨a6, c6, hv6⟩ := o6.sl
        subst hv6
        have HB56 := hide b6
        have CS := hide (entries_go (fun g => wr.heap.size ≤ g) (some ⟨q, 0, none⟩) zn zn q a6 (numL (entD Bs)).length c6 0 (numL (entD Bs)) rs w6 ((unhide HE5).below b6) (o6.enl b6) (unhide HZl) (Nat.le_refl _) (by omega) (fun _ => ⟨rfl, (unhide HSp).below b6⟩))
        clear o6 b6 CE
        go_wp2_with fail
        with_reducible refine (unhide CS).mono ?_
        rintro e w7 ⟨rfl, k7⟩
        have p7 := (unhide HP).spoilt ((unhide HB5).trans ((unhide HB56).mono (unhide HB5).size)) k7 (fun q hq => hq)
        have HP7 := hide p7
        have CA : Hid (Calls Try.prog 10 #[.pointer (some ⟨x, 0, none⟩), .pointer (some ⟨rb, 0, none⟩), .agg #[.int .i64 0, .string ⟨#[]⟩, .string ⟨#[]⟩, .int .i64 0, .int .i64 0, .slice none 0 0, .string ⟨#[]⟩, .string ⟨#[]⟩, .int .i64 0, .slice none 0 0]] w7 fun e W' => e = .returned (.bool true) ∧ Below w7.heap.size w7 W') := hide (asked_go p7 0 [] [] (by decide) (by decide) 0 0 none 0 0 [] [] 0 none 0 0)
        clear p7 k7 CS
        go_wp2_with fail
        with_reducible refine (unhide CA).mono ?_
        rintro e w8 ⟨rfl, b8⟩
        have HB8 := hide b8
        clear b8 CA
        go_wp2
        go_ret
        exact ⟨rfl, (unhide HP7).bel.trans ((unhide HB8).mono (unhide HP7).bel.size)⟩
      · clear hgo
        go_wp2_with fail
        with_reducible refine (unhide CAll).mono ?_
        rintro e w5 ⟨q, zn, rs, rfl, en5, hzl, hz9, hsp, b5⟩
        have HE5 := hide en5
        have HSp := hide hsp
        have HZl := hide hzl
        have HB5 := hide b5
        clear en5 hsp hzl b5 CAll
        have CE := hide (rEntries_go rb Bs w5 ((unhide HP).grown (unhide HB5)).rd (unhide HP).ok)
        go_wp2_with fail
        with_reducible refine (unhide CE).mono ?_
        rintro e w6 ⟨v6, rfl, o6, b6⟩
        obtain ⟨a6, c6, hv6⟩ := o6.sl
        subst hv6
        have HB56 := hide b6
        have CS := hide (entries_go (fun g => wr.heap.size ≤ g) (some ⟨q, 0, none⟩) zn zn q a6 (numL (entD Bs)).length c6 0 (numL (entD Bs)) rs w6 ((unhide HE5).below b6) (o6.enl b6) (unhide HZl) (Nat.le_refl _) (by omega) (fun _ => ⟨rfl, (unhide HSp).below b6⟩))
        clear o6 b6 CE
        go_wp2_with fail
        with_reducible refine (unhide CS).mono ?_
        rintro e w7 ⟨rfl, k7⟩
        have p7 := (unhide HP).spoilt ((unhide HB5).trans ((unhide HB56).mono (unhide HB5).size)) k7 (fun q hq => hq)
        have HP7 := hide p7
        have CA : Hid (Calls Try.prog 10 #[.pointer (some ⟨x, 0, none⟩), .pointer (some ⟨rb, 0, none⟩), .agg #[.int .i64 0, .string ⟨#[]⟩, .string ⟨#[]⟩, .int .i64 0, .int .i64 0, .slice none 0 0, .string ⟨#[]⟩, .string ⟨#[]⟩, .int .i64 0, .slice none 0 0]] w7 fun e W' => e = .returned (.bool true) ∧ Below w7.heap.size w7 W') := hide (asked_go p7 0 [] [] (by decide) (by decide) 0 0 none 0 0 [] [] 0 none 0 0)
        clear p7 k7 CS
        go_wp2_with fail
        with_reducible refine (unhide CA).mono ?_
        rintro e w8 ⟨rfl, b8⟩
        have HB8 := hide b8
        clear b8 CA
        go_wp2
        go_ret
        exact ⟨rfl, (unhide HP7).bel.trans ((unhide HB8).mono (unhide HP7).bel.size)⟩
end Go.Proofs.Ytabcmmhmghgliaa
