/-
  DERIVED. The law's tried, where the try goes well.
-/
import Derived.Test.YtabcmmhmghgliaaSq12
import Derived.Test.YtabcmmhmghgliaaSp10
import Derived.Test.YtabcmmhmghgliaaSp7
import Derived.BigQuiet
namespace Go.Proofs.Ytabcmmhmghgliaa
open Go.RowKit Go.Maps
set_option linter.unusedVariables false

theorem EvBlk.sp {W : World} {q n : Nat} {ys : List (Evn × Nat)} (h : EvBlk W q n ys) (hn : ys.length = n) : SpAt (fun g => g = q ∨ ∃ y ∈ ys, g = y.2) W 49 3 q (ys.map fun y => ⟨y.2, y.1.fields.length, y.1.fields.length⟩) 0 := by
  have hfl := h.fld
  obtain ⟨⟨cs, h1, h2, h3, h4⟩, h5⟩ := h
  refine ⟨.inl rfl, ⟨cs, h1, by rw [List.length_map]; omega, fun i r _ hr => ?_⟩, fun r hr => ?_⟩
  · rw [List.getElem?_map] at hr
    obtain ⟨y, hy, rfl⟩ := Option.map_eq_some_iff.1 hr
    obtain ⟨hl, rfl⟩ := List.getElem?_eq_some_iff.1 hy
    exact (h4 i hl).2.2
  · obtain ⟨y, hy, rfl⟩ := List.mem_map.1 hr
    obtain ⟨⟨cs', p1, p2, _⟩, p3⟩ := h5 y hy
    exact ⟨.inr ⟨y, hy, rfl⟩, hfl y hy, Nat.le_refl _, by show y.1.fields.length ≤ _; omega, cs', p1, by show y.1.fields.length * 4 ≤ _; omega⟩
theorem OwnL.sp {W : World} {base n c : Nat} {a : Option Addr} {es : List Evn} (h : OwnL W base (.slice a n c) es) : ∃ eb rs, n = List.length rs ∧ n ≤ c ∧ c ≤ 9223372036854775807 ∧ (n ≠ 0 → a = some ⟨eb, 0, none⟩ ∧ SpAt (fun g => base ≤ g ∧ g < W.heap.size) W 49 3 eb rs 0) := by
  obtain ⟨rs, h1, rfl, h4⟩ := h
  rcases h1.2 with ⟨e, h0⟩ | ⟨g, cap, cur, e, hb, hg, hn, hm, hcs, htk⟩
  · injection e with e1 e2 e3
    exact ⟨0, [], by rw [e2]; rfl, by omega, by omega, fun q => by omega⟩
  · injection e with e1 e2 e3
    subst e1 e2 e3
    have gl : ∀ r ∈ rs, ∃ g', r.a = some ⟨g', 0, none⟩ ∧ base ≤ g' ∧ g' < W.heap.size ∧ r.n ≤ r.c ∧ r.c ≤ 9223372036854775807 ∧ ∃ cs, W.heap[g']? = some (.cells cs 73 (0, 0)) ∧ r.n * 4 ≤ cs.size := fun r hr => by
      obtain ⟨g', p1, p2, p3⟩ := h4 r hr
      rcases p3.2 with ⟨e, _⟩ | ⟨g2, cap, cur, e, hb', hg', hn', hm', hcs', _⟩
      · cases e
      · injection e with e1 e2 e3
        injection e1 with e1
        injection e1 with e1
        subst e1 e3
        unfold maxLen at hm'
        rw [← e2] at hn'
        exact ⟨g', p1, hb', lt_of_block hg', by omega, by omega, cur, hg', by rw [hcs']; omega⟩
    refine ⟨g, rs.map (fun r => ⟨(r.a.map (·.block)).getD 0, r.n, r.c⟩), by rw [List.length_map], hn, by unfold maxLen at hm; omega, fun _ => ⟨rfl, ⟨hb, lt_of_block hg⟩, ⟨cur, hg, by rw [List.length_map, hcs]; exact Nat.mul_le_mul_right _ hn, fun i r _ hr => ?_⟩, fun r hr => ?_⟩⟩
    · rw [List.getElem?_map] at hr
      obtain ⟨r', hr', rfl⟩ := Option.map_eq_some_iff.1 hr
      obtain ⟨g', p1, _⟩ := gl r' (List.mem_of_getElem? hr')
      have hid := (List.getElem?_eq_some_iff.1 hr').1
      have q2 := (ev3_get rs i r' hr').2.2
      have := h1.cellAt (i * 3 + 2) (by omega)
      rw [q2, cell_of_row _ _ _ _ _ _ hg] at this
      rw [this, p1]
      rfl
    · obtain ⟨r', hr', rfl⟩ := List.mem_map.1 hr
      obtain ⟨g', p1, p2, p3, p4, p5, cs, p6, p7⟩ := gl r' hr'
      have hne : g' ≠ g := fun e => by rw [e, hg] at p6; exact absurd p6 (by simp)
      simp only [p1, Option.map_some, Option.getD_some]
      exact ⟨⟨p2, p3⟩, hne, p4, p5, cs, p6, p7⟩

theorem PSt.oldb {w W V : World} {x N rb : Nat} {F E : Nat → Prop} {Bx Bs : List Bat} (h : PSt w W x N rb F E Bx Bs) (hb : Below W.heap.size W V) {g : Nat} (hg : OldB V F rb g) : g < W.heap.size := by
  rcases hg with hg | hg | ⟨v, hv, hq⟩
  · exact (h.fF g hg).2.1
  · subst hg; exact h.rlt
  · rw [hb.block rb h.rlt] at hv
    exact (h.rin.own v hv g hq).2.1
theorem PSt.ver {w W : World} {x N rb : Nat} {F E : Nat → Prop} {Bx Bs : List Bat} (h : PSt w W x N rb F E Bx Bs) (s : List UInt8) : (ixD Bx).ver s ≤ 100000 := by
  obtain ⟨st, _, _, mp, mk, xs, av, pf, D1, D2, hin⟩ := h.ix
  have := hin.len
  have := ver_le (ixD Bx) s
  have := h.num
  have := h.len.2
  omega
theorem EvBlk.nob {W : World} {q n : Nat} {ys : List (Evn × Nat)} (h : EvBlk W q n ys) : ∀ g, (g = q ∨ ∃ y ∈ ys, g = y.2) → ∀ cur, W.heap[g]? ≠ some (.cells cur 33 (0, 0)) := by
  rintro g (rfl | ⟨y, hy, rfl⟩) cur e
  · obtain ⟨⟨cs, h1, _⟩, _⟩ := h
    rw [h1] at e
    exact absurd e (by simp)
  · obtain ⟨⟨cs, h1, _⟩, _⟩ := h.2 y hy
    rw [h1] at e
    exact absurd e (by simp)

set_option maxRecDepth 20000 in
set_option maxHeartbeats 8000000 in
theorem tried_ok {w W : World} {x N rb : Nat} {F E : Nat → Prop} {Bs : List Bat} (h : PSt w W x N rb F E Bs Bs) (hl : Bs.length < 1000) (kd : Int) (s k : List UInt8) (hs : s.length ≤ maxLen) (hk : k.length ≤ maxLen) (n m : Int) (ea : Option Addr) (en ec : Nat) (es : List Evn) (bs bk : List UInt8) (bf : Int) (ba : Option Addr) (bn bc : Nat) (hv : EvL w (.slice ea en ec) es) (hfit : ∀ e ∈ es, fitE e) (hb : es.length * 48 ≤ 140737488351232) (hbf : ∀ e ∈ es, e.fields.length * 48 ≤ 140737488351232) (hok : tryOk (ixD Bs) s n k es) :
    Calls Try.prog 16 #[.pointer (some ⟨x, 0, none⟩), .pointer (some ⟨rb, 0, none⟩), .agg (cA kd s k n m ea en ec bs bk bf ba bn bc)] W fun e W' => e = .returned (.bool true) ∧ ∃ N' F' E' Bs', PSt w W' x N' rb F' E' Bs' Bs' ∧ Bs'.length ≤ Bs.length + 1 := by
  obtain ⟨w1, hw1⟩ : ∃ w1, w1 = W.alloc (.cells (cA kd s k n m ea en ec bs bk bf ba bn bc) 35) := ⟨_, rfl⟩
  have b1 : Below W.heap.size W w1 := by rw [hw1]; exact (Below.refl _ _).alloc (Nat.le_refl _) _
  obtain ⟨cb, hcb⟩ : ∃ cb, cb = W.heap.size := ⟨_, rfl⟩
  have z1 : w1.heap.size = cb + 1 := by rw [hw1, hcb]; simp
  have x1 : w1.heap[cb]? = some (.cells (cA kd s k n m ea en ec bs bk bf ba bn bc) 35 (0, 0)) := by rw [hw1, hcb]; exact heap_alloc_self _ _
  have HBx : Hid (∀ V, Below w1.heap.size w1 V → V.cell? ⟨cb, 0, none⟩ = some (.int .i64 kd) ∧ V.cell? ⟨cb, 1, none⟩ = some (sv s) ∧ V.cell? ⟨cb, 2, none⟩ = some (sv k) ∧ V.cell? ⟨cb, 3, none⟩ = some (.int .i64 n) ∧ V.cell? ⟨cb, 5, none⟩ = some (.slice ea en ec)) := hide (fun V hV => ⟨keptQ hV ((cell_of_row _ _ _ _ _ _ x1).trans rfl), keptQ hV ((cell_of_row _ _ _ _ _ _ x1).trans rfl), keptQ hV ((cell_of_row _ _ _ _ _ _ x1).trans rfl), keptQ hV ((cell_of_row _ _ _ _ _ _ x1).trans rfl), keptQ hV ((cell_of_row _ _ _ _ _ _ x1).trans rfl)⟩)
  have HP : Hid (∀ V, Below w1.heap.size w1 V → PSt w V x N rb F E Bs Bs) := hide (fun V hV => (h.grown b1).grown hV)
  have HP0 := hide h
  have HBW1 := hide b1
  have HZ1 := hide z1
  have HEv : Hid (∀ V, Below w1.heap.size w1 V → EvL V (.slice ea en ec) es) := hide (fun V hV => (hv.below (unhide HP V hV).bel (Nat.le_refl _)))
  have HEw := hide hv
  have HFit := hide hfit
  have HOk := hide hok
  have hsz : s.length ≤ 9223372036854775807 := by unfold maxLen at hs; omega
  have hkz : k.length ≤ 9223372036854775807 := by unfold maxLen at hk; omega
  have hen : en = es.length := by obtain ⟨_, _, e, _⟩ := hv; cases e; rfl
  have HEN := hide hen
  have HB0 : Hid (Below w1.heap.size w1 w1) := hide (Below.refl _ _)
  have CO := hide (own_go ea en ec es w1 (unhide HEv w1 (unhide HB0)) hb hbf)
  have HW1 := hide hw1
  have HCB := hide hcb
  obtain ⟨Ve, hVe⟩ : ∃ Ve : Int, Ve = ((ixD Bs).ver s : Int) := ⟨_, rfl⟩
  obtain ⟨Al, hAl⟩ : ∃ Al : Int, Al = ((entD Bs).length : Int) := ⟨_, rfl⟩
  obtain ⟨Ni, hNi⟩ : ∃ Ni : Int, Ni = (en : Int) := ⟨_, rfl⟩
  have HNi := hide hNi
  have HVe := hide hVe
  have HAl := hide hAl
  clear h b1 z1 x1 hv hfit hok hb hbf hen hw1 hVe hAl hNi
  obtain ⟨y0, y1, y2, y3, y5⟩ := unhide HBx w1 (unhide HB0)
  go_enter Try.func16, Try.ntmps16
  go_upto_region 1 with fail
  rw [show W.alloc (.cells #[Value.int .i64 kd, Value.string ⟨s.toArray⟩, .string ⟨k.toArray⟩, .int .i64 n, .int .i64 m, .slice ea en ec, .string ⟨bs.toArray⟩, .string ⟨bk.toArray⟩, .int .i64 bf, .slice ba bn bc] 35) = w1 from (unhide HW1).symm]
  rw [← hcb]
  clear hcb
  go_wp2_with fail
  refine (unhide CO).mono ?_
  rintro e w2 ⟨v, rfl, o2, b2⟩
  obtain ⟨la, lc, hv2⟩ := o2.sl
  rw [← unhide HEN] at hv2
  subst hv2
  have HO2 := hide o2
  have HB2 := hide b2
  have CT : Hid (Calls Try.prog 11 #[.pointer (some ⟨x, 0, none⟩), sv s, .int .i64 n, sv k, .slice la en lc] w2 fun e w' => ∃ q ys, e = .returned (.tuple #[.agg (apV Ve Al Ni false), .agg (bt s k Ve (some ⟨q, 0, none⟩) en en), .int .i64 0]) ∧ Below w2.heap.size w2 w' ∧ Got w2 w' q es ys) := hide (by
    have c := Try_ok (unhide HP w2 b2).ix s hs n k hk la en lc es o2.evl (unhide HFit) (fields16 (unhide HOk).2.2.1) (unhide HOk)
    rw [show (ixD Bs).all.length = (entD Bs).length from rfl, ← unhide HEN, ← unhide HNi, ← unhide HVe, ← unhide HAl] at c
    exact c)
  clear o2 b2 CO y0 y1 y2 y3 y5
  obtain ⟨y0, y1, y2, y3, y5⟩ := unhide HBx w2 (unhide HB2)
  go_wp2_with fail
  refine (unhide CT).mono ?_
  rintro e w3 ⟨q, ys, rfl, b3, got⟩
  have HB3 := hide b3
  have HG := hide got
  clear b3 got CT y0 y1 y2 y3 y5
  go_upto_region 3 with fail
  obtain ⟨w4, hw4⟩ : ∃ w4, w4 = (w3.alloc (.cells (apV Ve Al Ni false) 44)).alloc (.cells (bt s k Ve (some ⟨q, 0, none⟩) en en) 33) := ⟨_, rfl⟩
  have b4 : Below w3.heap.size w3 w4 := by rw [hw4]; exact ((Below.refl _ _).alloc (Nat.le_refl _) _).alloc (by simp) _
  obtain ⟨pa, hpa⟩ : ∃ pa, pa = w3.heap.size := ⟨_, rfl⟩
  have z4 : w4.heap.size = pa + 2 := by rw [hw4, hpa]; simp
  have a4 : ABox w4 pa Ve Al Ni false := by unfold ABox; rw [hw4, hpa, Below.heap_alloc _ _ _ (by simp)]; exact heap_alloc_self _ _
  have c4 : BBox w4 (pa + 1) s k Ve (.slice (some ⟨q, 0, none⟩) en en) := by unfold BBox; rw [hw4, hpa, show w3.heap.size + 1 = (w3.alloc (.cells (apV Ve Al Ni false) 44)).heap.size by simp]; exact heap_alloc_self _ _
  rw [show (w3.alloc (.cells #[Value.int .i64 Ve, .int .i64 Al, .int .i64 Ni, .bool false] 44)).alloc (.cells #[Value.string ⟨s.toArray⟩, .string ⟨k.toArray⟩, .int .i64 Ve, .slice (some ⟨q, 0, none⟩) en en] 33) = w4 from hw4.symm]
  rw [← hpa]
  have HB4 : Hid (Below w1.heap.size w1 w4) := hide (((unhide HB2).trans ((unhide HB3).mono (unhide HB2).size)).trans (b4.mono (Nat.le_trans (unhide HB2).size (unhide HB3).size)))
  have HA4 := hide a4
  have HC4 := hide c4
  have HZ4 := hide (And.intro hpa z4)
  have HB34 := hide b4
  have CR : Hid (Calls Try.prog 38 #[.pointer (some ⟨rb, 0, none⟩), sv s, .int .i64 n, sv k, .slice ea en ec] w4 fun e w' => ∃ va vc, e = .returned (.tuple #[.agg (apV Ve Al Ni false), .agg (bt s k Ve va en vc), .int .i64 0]) ∧ EVOwn w w' (w4.heap.size + 2) (.slice va en vc) es ∧ Below w4.heap.size w4 w') := hide (by
    have p4 := unhide HP w4 (unhide HB4)
    have c := rTry_ok rb Bs s n k ea en ec es w w4 p4.bel (unhide HEw) p4.rd p4.ok hsz hkz (unhide HEv w4 (unhide HB4)) (unhide HFit) (unhide HOk)
    rw [← unhide HNi, ← unhide HVe, ← unhide HAl] at c
    exact c)
  obtain ⟨y0, y1, y2, y3, y5⟩ := unhide HBx w4 (unhide HB4)
  clear hw4 b4 hpa z4 a4 c4
  go_wp2_with fail
  with_reducible refine (unhide CR).mono ?_
  rintro e w5 ⟨va, vc, rfl, o5, b5⟩
  have HB5 := hide b5
  have HO5 := hide o5
  clear b5 o5 CR y0 y1 y2 y3 y5
  go_upto_region 4 with fail
  obtain ⟨w6, hw6⟩ : ∃ w6, w6 = (w5.alloc (.cells (apV Ve Al Ni false) 44)).alloc (.cells (bt s k Ve va en vc) 33) := ⟨_, rfl⟩
  have b6 : Below w5.heap.size w5 w6 := by rw [hw6]; exact ((Below.refl _ _).alloc (Nat.le_refl _) _).alloc (by simp) _
  obtain ⟨pc, hpc⟩ : ∃ pc, pc = w5.heap.size := ⟨_, rfl⟩
  have z6 : w6.heap.size = pc + 2 := by rw [hw6, hpc]; simp
  have a6 : ABox w6 pc Ve Al Ni false := by unfold ABox; rw [hw6, hpc, Below.heap_alloc _ _ _ (by simp)]; exact heap_alloc_self _ _
  have c6 : BBox w6 (pc + 1) s k Ve (.slice va en vc) := by unfold BBox; rw [hw6, hpc, show w5.heap.size + 1 = (w5.alloc (.cells (apV Ve Al Ni false) 44)).heap.size by simp]; exact heap_alloc_self _ _
  rw [show (w5.alloc (.cells #[Value.int .i64 Ve, .int .i64 Al, .int .i64 Ni, .bool false] 44)).alloc (.cells #[Value.string ⟨s.toArray⟩, .string ⟨k.toArray⟩, .int .i64 Ve, .slice va en vc] 33) = w6 from hw6.symm]
  rw [← hpc]
  have HA6 := hide a6
  have HC6 := hide c6
  have HZ6 := hide (And.intro hpc z6)
  have HB56 := hide b6
  have HB46 : Hid (Below w4.heap.size w4 w6) := hide ((unhide HB5).trans (b6.mono (unhide HB5).size))
  have HB6 : Hid (Below w1.heap.size w1 w6) := hide ((unhide HB4).trans ((unhide HB46).mono (unhide HB4).size))
  have HB26 : Hid (Below w2.heap.size w2 w6) := hide (((unhide HB3).trans ((unhide HB34).mono (unhide HB3).size)).trans ((unhide HB46).mono (Nat.le_trans (unhide HB3).size (unhide HB34).size)))
  have CH := hide (held_go w1.heap.size la en lc ea en ec es w6 ((unhide HO2).below (unhide HB26) (Nat.le_refl _)) (unhide HEv w6 (unhide HB6)))
  obtain ⟨y0, y1, y2, y3, y5⟩ := unhide HBx w6 (unhide HB6)
  clear hw6 b6 hpc z6 a6 c6
  go_wp2_with fail
  with_reducible refine (unhide CH).mono ?_
  rintro e w7 ⟨rfl, b7⟩
  have HB7 := hide b7
  have HB27 : Hid (Below w2.heap.size w2 w7) := hide ((unhide HB26).trans (b7.mono (unhide HB26).size))
  clear b7 CH y0 y1 y2 y3 y5
  obtain ⟨eb, rs, hrn, hrc, hr9, hsp⟩ := (unhide HO2).sp
  have CS := hide (spoil_go (fun g => w1.heap.size ≤ g ∧ g < w2.heap.size) la en lc eb rs w7 hrn hrc hr9 (fun q => ⟨(hsp q).1, (hsp q).2.below (unhide HB27)⟩))
  clear hrn hrc hr9 hsp
  go_wp2_with fail
  with_reducible refine (unhide CS).mono ?_
  rintro e w8 ⟨rfl, k8⟩
  have HZ2 := hide (unhide HB2).size
  have B18 : Hid (Below w1.heap.size w1 w8) := hide (((unhide HB6).trans ((unhide HB7).mono (unhide HB6).size)).trans (k8.below (Nat.le_trans (unhide HB6).size (unhide HB7).size) (fun q hq => hq.1)))
  have K28 : Hid (∀ g, w2.heap.size ≤ g → g < w7.heap.size → w8.heap[g]? = w7.heap[g]?) := hide (fun g hg hl => k8.block g hl fun hs => by have := hs.2; omega)
  have Z78 := hide k8.size
  clear k8 CS
  have HZs : Hid (w2.heap.size ≤ w3.heap.size ∧ w3.heap.size = pa ∧ w4.heap.size = pa + 2 ∧ w4.heap.size ≤ w5.heap.size ∧ w5.heap.size = pc ∧ w6.heap.size = pc + 2 ∧ w6.heap.size ≤ w7.heap.size) := hide ⟨(unhide HB3).size, (unhide HZ4).1.symm, (unhide HZ4).2, (unhide HB5).size, (unhide HZ6).1.symm, (unhide HZ6).2, (unhide HB7).size⟩
  have HE8 : Hid (EvBlk w8 q es.length ys) := hide (by
    have z := unhide HZs
    have g := unhide HG
    have h7 : ∀ p, p < w3.heap.size → w2.heap.size ≤ p → w8.heap[p]? = w3.heap[p]? := fun p hp h2 => (unhide K28 p h2 (by omega)).trans (((unhide HB7).block p (by omega)).trans (((unhide HB46).block p (by omega)).trans ((unhide HB34).block p hp)))
    exact g.blk.same (h7 q g.blk.lt g.hq) fun y hy => h7 y.2 (g.blk.2 y hy).1.lt (g.new y hy))
  have HO8 : Hid (EVOwn w w8 (w4.heap.size + 2) (.slice va en vc) es) := hide ((unhide HO5).on fun g hg => by
    have z := unhide HZs
    obtain ⟨rs, ⟨_, h2⟩, _, _⟩ := unhide HO5
    rcases h2 with ⟨e, _⟩ | ⟨g', cap, cur, e, hb, hg', _⟩
    · rw [e] at hg; cases hg
    · rw [e] at hg
      simp only [Value.ownBlock, Option.some.injEq] at hg
      subst hg
      have hl := lt_of_block hg'
      exact (unhide K28 g' (by omega) (by omega)).trans (((unhide HB7).block g' (by omega)).trans ((unhide HB56).block g' hl)))
  have HX8 : Hid (ABox w8 pa Ve Al Ni false ∧ BBox w8 (pa + 1) s k Ve (.slice (some ⟨q, 0, none⟩) en en) ∧ ABox w8 pc Ve Al Ni false ∧ BBox w8 (pc + 1) s k Ve (.slice va en vc)) := hide (by
    have z := unhide HZs
    have k1 : ∀ p, p < w4.heap.size → w2.heap.size ≤ p → w8.heap[p]? = w4.heap[p]? := fun p hp h2 => (unhide K28 p h2 (by omega)).trans (((unhide HB7).block p (by omega)).trans ((unhide HB46).block p hp))
    have k2 : ∀ p, p < w6.heap.size → w2.heap.size ≤ p → w8.heap[p]? = w6.heap[p]? := fun p hp h2 => (unhide K28 p h2 (by omega)).trans ((unhide HB7).block p hp)
    exact ⟨(unhide HA4).same (k1 pa (by omega) (by omega)), (unhide HC4).same (k1 (pa + 1) (by omega) (by omega)), (unhide HA6).same (k2 pc (by omega) (by omega)), (unhide HC6).same (k2 (pc + 1) (by omega) (by omega))⟩)
  have HP8 := hide (unhide HP w8 (unhide B18))
  have hys : ys.length = es.length := by have := congrArg List.length (unhide HG).evs; simpa using this
  have h16 : es.length ≤ 16 := (unhide HOk).2.2.1.2.1
  have CB : Hid (Calls Try.prog 39 #[.agg (bt s k Ve (some ⟨q, 0, none⟩) en en), .agg (bt s k Ve va en vc)] w8 fun e w' => e = .returned (.bool true) ∧ Below w8.heap.size w8 w') := hide (by
    refine SameBatch_eq s k Ve (some ⟨q, 0, none⟩) va en en en vc es w8 ?_ ((unhide HO8).evl (unhide HP8).bel)
    have e := (unhide HE8).evl hys h16
    rw [(unhide HG).evs, ← unhide HEN] at e
    exact e)
  obtain ⟨xa, xb, xc, xd⟩ := unhide HX8
  obtain ⟨u0, u1, u2, u3, _⟩ := xb.cells
  obtain ⟨t0, t1, t2, t3, _⟩ := xd.cells
  have HYs := hide hys
  have H16 := hide h16
  clear xa xb xc xd HA4 HC4 HA6 HC6 HB56 HO2 HO5 HB26 HB27 HB2 HB3 hys h16
  go_wp2_with fail
  with_reducible refine (unhide CB).mono ?_
  rintro e w9 ⟨rfl, b9⟩
  have HB9 := hide b9
  have HX9 : Hid (ABox w9 pa Ve Al Ni false ∧ BBox w9 (pa + 1) s k Ve (.slice (some ⟨q, 0, none⟩) en en) ∧ ABox w9 pc Ve Al Ni false ∧ BBox w9 (pc + 1) s k Ve (.slice va en vc)) := hide (by
    obtain ⟨xa, xb, xc, xd⟩ := unhide HX8
    exact ⟨xa.same (b9.block _ (lt_of_block xa)), xb.same (b9.block _ (lt_of_block xb)), xc.same (b9.block _ (lt_of_block xc)), xd.same (b9.block _ (lt_of_block xd))⟩)
  have HP9 := hide ((unhide HP8).grown b9)
  have HE9 : Hid (EvBlk w9 q es.length ys) := hide ((unhide HE8).same (b9.block q (unhide HE8).lt) fun y hy => b9.block y.2 ((unhide HE8).2 y hy).1.lt)
  have HO9 : Hid (EVOwn w w9 (w4.heap.size + 2) (.slice va en vc) es) := hide ((unhide HO8).on fun g hg => by
    obtain ⟨rs, ⟨_, h2⟩, _, _⟩ := unhide HO8
    rcases h2 with ⟨e, _⟩ | ⟨g', cap, cur, e, hb, hg', _⟩
    · rw [e] at hg; cases hg
    · rw [e] at hg
      simp only [Value.ownBlock, Option.some.injEq] at hg
      subst hg
      exact b9.block g' (lt_of_block hg'))
  have Z9 : Hid (w7.heap.size ≤ w9.heap.size) := hide (Nat.le_trans (unhide Z78) b9.size)
  clear b9 CB u0 u1 u2 u3 t0 t1 t2 t3 HX8 HP8 HE8 HO8
  obtain ⟨y0, y1, y2, y3, y5⟩ := unhide HBx w9 ((unhide B18).trans ((unhide HB9).mono (unhide B18).size))
  obtain ⟨u0, u1, u2, u3⟩ := (unhide HX9).1.four
  obtain ⟨t0, t1, t2, t3⟩ := (unhide HX9).2.2.1.four
  obtain ⟨v0, v1, v2, v3, _⟩ := (unhide HX9).2.1.cells
  have g1 : (Ve == Ve) = true := beq_self_eq_true _
  have g2 : (Al == Al) = true := beq_self_eq_true _
  have g3 : (Ni == Ni) = true := beq_self_eq_true _
  have HYB : Hid (∀ g, (g = q ∨ ∃ y ∈ ys, g = y.2) → W.heap.size ≤ g ∧ g < w3.heap.size) := hide (fun g hg => by
    have z := unhide HZ1
    have z1 := unhide HCB
    have z2 := unhide HZs
    have z3 := unhide HZ2
    have G := unhide HG
    rcases hg with rfl | ⟨y, hy, rfl⟩
    · exact ⟨by have := G.hq; omega, G.blk.lt⟩
    · exact ⟨by have := G.new y hy; omega, (G.blk.2 y hy).1.lt⟩)
  by_cases hkd : kd = 1
  · subst hkd
    go_upto_region 10 with fail
    have bdr : Below w9.heap.size w9 w9.drew := (Below.refl _ _).drew
    have B0d : Hid (Below W.heap.size W w9.drew) := hide ((((unhide HBW1).trans ((unhide B18).mono (unhide HBW1).size)).trans ((unhide HB9).mono (Nat.le_trans (unhide HBW1).size (unhide B18).size))).drew)
    obtain ⟨PX, PR, PB, CX0, CR0, CR1, CX1, KX, KR, KB, HBB⟩ := adds_go ((unhide HP9).grown bdr) hl s k ((ixD Bs).ver s) q es ys va vc (w4.heap.size + 2) hs hk (unhide HFit) (chkA_ok (unhide HOk)) (unhide HOk).1 (unhide HOk).2.2.1 (unhide HOk).2.1 ((unhide HP9).ver s)
      ((unhide HE9).same (bdr.block q (unhide HE9).lt) fun y hy => bdr.block y.2 ((unhide HE9).2 y hy).1.lt) (unhide HG).evs (fun g hg ho => by have := (unhide HYB g hg).1; have := (unhide HP0).oldb (unhide B0d) ho; omega)
      (by rw [← unhide HEN]; exact (unhide HO9).on fun g hg => rfl) (by have := (unhide HP9).bel.size; have := (unhide HP0).bel.size; have := unhide HZs; have z3 := unhide HZ2; have := unhide HZ1; have := unhide HCB; omega) (fun g hg ho => by have := (unhide HP0).oldb (unhide B0d) ho; have := unhide HZs; have z3 := unhide HZ2; have := unhide HZ1; have := unhide HCB; omega) (by have := (unhide HYB q (.inl rfl)).2; have := unhide HZs; omega) (fun y hy => by have := (unhide HYB y.2 (.inr ⟨y, hy, rfl⟩)).2; have := unhide HZs; omega)
    rw [← unhide HEN, ← unhide HVe] at CX0 CR0 CR1 CX1
    have HCX0 := hide CX0
    have HCR0 := hide CR0
    have HCX1 := hide CX1
    have HCR1 := hide CR1
    have HKX := hide KX
    have HKR := hide KR
    have HKB := hide KB
    have HBF := hide HBB
    have HSV : Hid (∀ V, KeptO w9.drew F rb V → (BBox V (pa + 1) s k Ve (.slice (some ⟨q, 0, none⟩) en en) ∧ BBox V (pc + 1) s k Ve (.slice va en vc))) := hide (fun V hV => by
      have z1 := unhide HCB
      have z2 := unhide HZs
      have z3 := unhide HZ2
      have z4 := unhide HZ1
      have z9 := unhide Z9
      exact ⟨(unhide HX9).2.1.same (hV.block (pa + 1) (by show pa + 1 < w9.heap.size; omega) (fun ho => by have := (unhide HP0).oldb (unhide B0d) ho; omega)), (unhide HX9).2.2.2.same (hV.block (pc + 1) (by show pc + 1 < w9.heap.size; omega) (fun ho => by have := (unhide HP0).oldb (unhide B0d) ho; omega))⟩)
    have HSC : Hid (∀ V, (BBox V (pa + 1) s k Ve (.slice (some ⟨q, 0, none⟩) en en) ∧ BBox V (pc + 1) s k Ve (.slice va en vc)) → V.cell? ⟨pa + 1, 0, none⟩ = some (sv s) ∧ V.cell? ⟨pa + 1, 1, none⟩ = some (sv k) ∧ V.cell? ⟨pa + 1, 2, none⟩ = some (.int .i64 Ve) ∧ V.cell? ⟨pa + 1, 3, none⟩ = some (.slice (some ⟨q, 0, none⟩) en en) ∧ V.cell? ⟨pc + 1, 0, none⟩ = some (sv s) ∧ V.cell? ⟨pc + 1, 1, none⟩ = some (sv k) ∧ V.cell? ⟨pc + 1, 2, none⟩ = some (.int .i64 Ve) ∧ V.cell? ⟨pc + 1, 3, none⟩ = some (.slice va en vc)) := hide (fun V hV => ⟨hV.1.cells.1, hV.1.cells.2.1, hV.1.cells.2.2.1, hV.1.cells.2.2.2.1, hV.2.cells.1, hV.2.cells.2.1, hV.2.cells.2.2.1, hV.2.cells.2.2.2.1⟩)
    have S0 := hide (unhide HSC w9.drew ⟨(unhide HX9).2.1.same rfl, (unhide HX9).2.2.2.same rfl⟩)
    clear CX0 CR0 CR1 CX1 KX KR KB HBB bdr y0 y1 y2 y3 y5 u0 u1 u2 u3 t0 t1 t2 t3 v0 v1 v2 v3 g1 g2 g3
    go_region_held3 (fun V => V.cell? ⟨pa + 1, 0, none⟩ = some (sv s) ∧ V.cell? ⟨pa + 1, 1, none⟩ = some (sv k) ∧ V.cell? ⟨pa + 1, 2, none⟩ = some (.int .i64 Ve) ∧ V.cell? ⟨pa + 1, 3, none⟩ = some (.slice (some ⟨q, 0, none⟩) en en) ∧ V.cell? ⟨pc + 1, 0, none⟩ = some (sv s) ∧ V.cell? ⟨pc + 1, 1, none⟩ = some (sv k) ∧ V.cell? ⟨pc + 1, 2, none⟩ = some (.int .i64 Ve) ∧ V.cell? ⟨pc + 1, 3, none⟩ = some (.slice va en vc))
      (first | with_reducible exact unhide S0 | (refine unhide HSC _ (unhide HSV _ ?_); first | with_reducible exact unhide HKX _ (unhide HX) | with_reducible exact unhide HKR _ (unhide HR) | with_reducible exact unhide HKB _ (unhide HB)))
      ((first
        | (go_at_call 13; with_reducible refine (unhide HCX0).mono ?_; rintro e wX ⟨rfl, hX⟩; have HX := hide hX; clear hX)
        | (go_at_call 20; with_reducible refine (unhide HCR0).mono ?_; rintro e wR ⟨rfl, hR⟩; have HR := hide hR; clear hR)
        | (go_at_call 13; with_reducible refine (unhide HCX1 _ (unhide HR)).mono ?_; rintro e wB ⟨rfl, hB⟩; have HB := hide hB; clear hB)
        | (go_at_call 20; with_reducible refine (unhide HCR1 _ (unhide HX)).mono ?_; rintro e wB ⟨rfl, hB⟩; have HB := hide hB; clear hB)))
    all_goals
      have hys := unhide HYs
      have kB := unhide HKB wB (unhide HB)
      have HEB : Hid (EvBlk wB q es.length ys) := hide ((unhide HE9).same (kB.block q (by show q < w9.heap.size; have := (unhide HE9).lt; omega) (fun ho => by have := (unhide HYB q (.inl rfl)).1; have := (unhide HP0).oldb (unhide B0d) ho; omega)) fun y hy => kB.block y.2 (by show y.2 < w9.heap.size; have := ((unhide HE9).2 y hy).1.lt; omega) (fun ho => by have := (unhide HYB y.2 (.inr ⟨y, hy, rfl⟩)).1; have := (unhide HP0).oldb (unhide B0d) ho; omega))
      have v3 := (unhide HSV wB kB).1.cells.2.2.2.1
      have CS2 := hide (spoil_go (fun g => g = q ∨ ∃ y ∈ ys, g = y.2) (some ⟨q, 0, none⟩) en en q _ wB (by rw [List.length_map, hys]; exact unhide HEN) (Nat.le_refl _) (by have := unhide H16; have := unhide HEN; omega) (fun _ => ⟨rfl, (unhide HEB).sp hys⟩))
      clear hys kB
      go_wp2_with fail
      with_reducible refine (unhide CS2).mono ?_
      rintro e w10 ⟨rfl, k10⟩
      have HK10 := hide k10
      clear k10 CS2
      go_wp2
      go_ret
      obtain ⟨F', E', p1, p2, p3⟩ := unhide HBF wB (unhide HB)
      refine ⟨rfl, _, F', E', _, p1.kept (unhide HK10) (fun g hg => ?_), by simp⟩
      have hyb := unhide HYB g hg
      have hp := unhide HP0
      have hz := unhide HZs
      have z9 := unhide Z9
      exact ⟨by have := hp.bel.size; omega, fun hf => by have := (hp.fF g (p2 g (by show g < w9.heap.size; omega) hf)).2.1; omega, fun hf => by have := (hp.hE g (p3 g (by omega) hf)).2.1; omega, fun e => by have := hp.rlt; omega, (unhide HEB).nob g hg⟩
  · have hk1 : (kd == 1) = false := beq_eq_false_iff_ne.2 hkd
    clear hkd
    have hys := unhide HYs
    have CS2 := hide (spoil_go (fun g => g = q ∨ ∃ y ∈ ys, g = y.2) (some ⟨q, 0, none⟩) en en q _ w9 (by rw [List.length_map, hys]; exact unhide HEN) (Nat.le_refl _) (by have := unhide H16; have := unhide HEN; omega) (fun _ => ⟨rfl, (unhide HE9).sp hys⟩))
    clear hys
    go_upto_region 12 with fail
    go_wp2_with fail
    with_reducible refine (unhide CS2).mono ?_
    rintro e w10 ⟨rfl, k10⟩
    have HK10 := hide k10
    clear k10 CS2
    go_wp2
    go_ret
    refine ⟨rfl, N, F, E, Bs, (unhide HP9).kept (unhide HK10) (fun g hg => ?_), by omega⟩
    have hyb := (unhide HYB g hg).1
    have hp := unhide HP0
    exact ⟨by have := hp.bel.size; omega, fun hf => by have := (hp.fF g hf).2.1; omega, fun hf => by have := (hp.hE g hf).2.1; omega, fun e => by have := hp.rlt; omega, (unhide HE9).nob g hg⟩
end Go.Proofs.Ytabcmmhmghgliaa

namespace Go.Proofs.Ytabcmmhmghgliaa
open Go.RowKit Go.Maps
set_option linter.unusedVariables false

set_option maxRecDepth 20000 in
set_option maxHeartbeats 8000000 in
theorem tried_bad {w W : World} {x N rb : Nat} {F E : Nat → Prop} {Bs : List Bat} (h : PSt w W x N rb F E Bs Bs) (hl : Bs.length < 1000) (kd : Int) (s k : List UInt8) (hs : s.length ≤ maxLen) (hk : k.length ≤ maxLen) (n m : Int) (ea : Option Addr) (en ec : Nat) (es : List Evn) (bs bk : List UInt8) (bf : Int) (ba : Option Addr) (bn bc : Nat) (hv : EvL w (.slice ea en ec) es) (hfit : ∀ e ∈ es, fitE e) (hb : es.length * 48 ≤ 140737488351232) (hbf : ∀ e ∈ es, e.fields.length * 48 ≤ 140737488351232) (hok : ¬ tryOk (ixD Bs) s n k es) :
    Calls Try.prog 16 #[.pointer (some ⟨x, 0, none⟩), .pointer (some ⟨rb, 0, none⟩), .agg (cA kd s k n m ea en ec bs bk bf ba bn bc)] W fun e W' => e = .returned (.bool true) ∧ PSt w W' x N rb F E Bs Bs := by
  obtain ⟨w1, hw1⟩ : ∃ w1, w1 = W.alloc (.cells (cA kd s k n m ea en ec bs bk bf ba bn bc) 35) := ⟨_, rfl⟩
  have b1 : Below W.heap.size W w1 := by rw [hw1]; exact (Below.refl _ _).alloc (Nat.le_refl _) _
  obtain ⟨cb, hcb⟩ : ∃ cb, cb = W.heap.size := ⟨_, rfl⟩
  have z1 : w1.heap.size = cb + 1 := by rw [hw1, hcb]; simp
  have x1 : w1.heap[cb]? = some (.cells (cA kd s k n m ea en ec bs bk bf ba bn bc) 35 (0, 0)) := by rw [hw1, hcb]; exact heap_alloc_self _ _
  have HBx : Hid (∀ V, Below w1.heap.size w1 V → V.cell? ⟨cb, 0, none⟩ = some (.int .i64 kd) ∧ V.cell? ⟨cb, 1, none⟩ = some (sv s) ∧ V.cell? ⟨cb, 2, none⟩ = some (sv k) ∧ V.cell? ⟨cb, 3, none⟩ = some (.int .i64 n) ∧ V.cell? ⟨cb, 5, none⟩ = some (.slice ea en ec)) := hide (fun V hV => ⟨keptQ hV ((cell_of_row _ _ _ _ _ _ x1).trans rfl), keptQ hV ((cell_of_row _ _ _ _ _ _ x1).trans rfl), keptQ hV ((cell_of_row _ _ _ _ _ _ x1).trans rfl), keptQ hV ((cell_of_row _ _ _ _ _ _ x1).trans rfl), keptQ hV ((cell_of_row _ _ _ _ _ _ x1).trans rfl)⟩)
  have HP : Hid (∀ V, Below w1.heap.size w1 V → PSt w V x N rb F E Bs Bs) := hide (fun V hV => (h.grown b1).grown hV)
  have HP0 := hide h
  have HBW1 := hide b1
  have HZ1 := hide z1
  have HEv : Hid (∀ V, Below w1.heap.size w1 V → EvL V (.slice ea en ec) es) := hide (fun V hV => (hv.below (unhide HP V hV).bel (Nat.le_refl _)))
  have HEw := hide hv
  have HFit := hide hfit
  have HOk := hide hok
  have hsz : s.length ≤ 9223372036854775807 := by unfold maxLen at hs; omega
  have hkz : k.length ≤ 9223372036854775807 := by unfold maxLen at hk; omega
  have hen : en = es.length := by obtain ⟨_, _, e, _⟩ := hv; cases e; rfl
  have HEN := hide hen
  have HB0 : Hid (Below w1.heap.size w1 w1) := hide (Below.refl _ _)
  have CO := hide (own_go ea en ec es w1 (unhide HEv w1 (unhide HB0)) hb hbf)
  have HW1 := hide hw1
  have HCB := hide hcb
  obtain ⟨f, p, c, bb, er, hA, hbad⟩ := tryA_bad hok
  have HA := hide hA
  clear h b1 z1 x1 hv hfit hok hb hbf hen hw1 hA
  obtain ⟨y0, y1, y2, y3, y5⟩ := unhide HBx w1 (unhide HB0)
  go_enter Try.func16, Try.ntmps16
  go_upto_region 1 with fail
  rw [show W.alloc (.cells #[Value.int .i64 kd, Value.string ⟨s.toArray⟩, .string ⟨k.toArray⟩, .int .i64 n, .int .i64 m, .slice ea en ec, .string ⟨bs.toArray⟩, .string ⟨bk.toArray⟩, .int .i64 bf, .slice ba bn bc] 35) = w1 from (unhide HW1).symm]
  rw [← hcb]
  clear hcb
  go_wp2_with fail
  refine (unhide CO).mono ?_
  rintro e w2 ⟨v, rfl, o2, b2⟩
  obtain ⟨la, lc, hv2⟩ := o2.sl
  rw [← unhide HEN] at hv2
  subst hv2
  have HO2 := hide o2
  have HB2 := hide b2
  have CT := hide (Try_bad (unhide HP w2 b2).ix s hs n k hk la en lc es o2.evl (unhide HFit) f p c bb er (unhide HA) hbad)
  clear o2 b2 CO y0 y1 y2 y3 y5
  obtain ⟨y0, y1, y2, y3, y5⟩ := unhide HBx w2 (unhide HB2)
  go_wp2_with fail
  refine (unhide CT).mono ?_
  rintro e w3 ⟨rfl, b3⟩
  have HB3 := hide b3
  clear b3 CT y0 y1 y2 y3 y5
  go_upto_region 3 with fail
  obtain ⟨w4, hw4⟩ : ∃ w4, w4 = (w3.alloc (.cells (apV f p c bb) 44)).alloc (.cells (bt [] [] 0 none 0 0) 33) := ⟨_, rfl⟩
  have b4 : Below w3.heap.size w3 w4 := by rw [hw4]; exact ((Below.refl _ _).alloc (Nat.le_refl _) _).alloc (by simp) _
  obtain ⟨pa, hpa⟩ : ∃ pa, pa = w3.heap.size := ⟨_, rfl⟩
  have z4 : w4.heap.size = pa + 2 := by rw [hw4, hpa]; simp
  have a4 : ABox w4 pa f p c bb := by unfold ABox; rw [hw4, hpa, Below.heap_alloc _ _ _ (by simp)]; exact heap_alloc_self _ _
  have c4 : BBox w4 (pa + 1) [] [] 0 (.slice none 0 0) := by unfold BBox; rw [hw4, hpa, show w3.heap.size + 1 = (w3.alloc (.cells (apV f p c bb) 44)).heap.size by simp]; exact heap_alloc_self _ _
  rw [show (w3.alloc (.cells #[Value.int .i64 f, .int .i64 p, .int .i64 c, .bool bb] 44)).alloc (.cells #[Value.string ⟨#[]⟩, .string ⟨#[]⟩, .int .i64 0, .slice none 0 0] 33) = w4 from hw4.symm]
  rw [← hpa]
  have HB4 : Hid (Below w1.heap.size w1 w4) := hide (((unhide HB2).trans ((unhide HB3).mono (unhide HB2).size)).trans (b4.mono (Nat.le_trans (unhide HB2).size (unhide HB3).size)))
  have HA4 := hide a4
  have HC4 := hide c4
  have HZ4 := hide (And.intro hpa z4)
  have HB34 := hide b4
  have CR : Hid (Calls Try.prog 38 #[.pointer (some ⟨rb, 0, none⟩), sv s, .int .i64 n, sv k, .slice ea en ec] w4 fun e w' => e = .returned (.tuple #[.agg (apV f p c bb), .agg (bt [] [] 0 none 0 0), .int .i64 er]) ∧ Below w4.heap.size w4 w') := hide (by
    have p4 := unhide HP w4 (unhide HB4)
    have c := rTry_bad rb Bs s n k ea en ec es w4 p4.rd p4.ok hsz hkz (unhide HEv w4 (unhide HB4)) (unhide HFit) (unhide HOk)
    rw [unhide HA] at c
    exact c)
  obtain ⟨y0, y1, y2, y3, y5⟩ := unhide HBx w4 (unhide HB4)
  clear hw4 b4 hpa z4 a4 c4
  go_wp2_with fail
  with_reducible refine (unhide CR).mono ?_
  rintro e w5 ⟨rfl, b5⟩
  have HB5 := hide b5
  clear b5 CR y0 y1 y2 y3 y5
  go_upto_region 4 with fail
  obtain ⟨w6, hw6⟩ : ∃ w6, w6 = (w5.alloc (.cells (apV f p c bb) 44)).alloc (.cells (bt [] [] 0 none 0 0) 33) := ⟨_, rfl⟩
  have b6 : Below w5.heap.size w5 w6 := by rw [hw6]; exact ((Below.refl _ _).alloc (Nat.le_refl _) _).alloc (by simp) _
  obtain ⟨pc, hpc⟩ : ∃ pc, pc = w5.heap.size := ⟨_, rfl⟩
  have z6 : w6.heap.size = pc + 2 := by rw [hw6, hpc]; simp
  have a6 : ABox w6 pc f p c bb := by unfold ABox; rw [hw6, hpc, Below.heap_alloc _ _ _ (by simp)]; exact heap_alloc_self _ _
  have c6 : BBox w6 (pc + 1) [] [] 0 (.slice none 0 0) := by unfold BBox; rw [hw6, hpc, show w5.heap.size + 1 = (w5.alloc (.cells (apV f p c bb) 44)).heap.size by simp]; exact heap_alloc_self _ _
  rw [show (w5.alloc (.cells #[Value.int .i64 f, .int .i64 p, .int .i64 c, .bool bb] 44)).alloc (.cells #[Value.string ⟨#[]⟩, .string ⟨#[]⟩, .int .i64 0, .slice none 0 0] 33) = w6 from hw6.symm]
  rw [← hpc]
  have HA6 := hide a6
  have HC6 := hide c6
  have HZ6 := hide (And.intro hpc z6)
  have HB56 := hide b6
  have HB46 : Hid (Below w4.heap.size w4 w6) := hide ((unhide HB5).trans (b6.mono (unhide HB5).size))
  have HB6 : Hid (Below w1.heap.size w1 w6) := hide ((unhide HB4).trans ((unhide HB46).mono (unhide HB4).size))
  have HB26 : Hid (Below w2.heap.size w2 w6) := hide (((unhide HB3).trans ((unhide HB34).mono (unhide HB3).size)).trans ((unhide HB46).mono (Nat.le_trans (unhide HB3).size (unhide HB34).size)))
  have CH := hide (held_go w1.heap.size la en lc ea en ec es w6 ((unhide HO2).below (unhide HB26) (Nat.le_refl _)) (unhide HEv w6 (unhide HB6)))
  obtain ⟨y0, y1, y2, y3, y5⟩ := unhide HBx w6 (unhide HB6)
  clear hw6 b6 hpc z6 a6 c6
  go_wp2_with fail
  with_reducible refine (unhide CH).mono ?_
  rintro e w7 ⟨rfl, b7⟩
  have HB7 := hide b7
  have HB27 : Hid (Below w2.heap.size w2 w7) := hide ((unhide HB26).trans (b7.mono (unhide HB26).size))
  clear b7 CH y0 y1 y2 y3 y5
  obtain ⟨eb, rs, hrn, hrc, hr9, hsp⟩ := (unhide HO2).sp
  have CS := hide (spoil_go (fun g => w1.heap.size ≤ g ∧ g < w2.heap.size) la en lc eb rs w7 hrn hrc hr9 (fun q => ⟨(hsp q).1, (hsp q).2.below (unhide HB27)⟩))
  clear hrn hrc hr9 hsp
  go_wp2_with fail
  with_reducible refine (unhide CS).mono ?_
  rintro e w8 ⟨rfl, k8⟩
  have HZ2 := hide (unhide HB2).size
  have B18 : Hid (Below w1.heap.size w1 w8) := hide (((unhide HB6).trans ((unhide HB7).mono (unhide HB6).size)).trans (k8.below (Nat.le_trans (unhide HB6).size (unhide HB7).size) (fun q hq => hq.1)))
  have K28 : Hid (∀ g, w2.heap.size ≤ g → g < w7.heap.size → w8.heap[g]? = w7.heap[g]?) := hide (fun g hg hl => k8.block g hl fun hs => by have := hs.2; omega)
  have Z78 := hide k8.size
  clear k8 CS
  have HZs : Hid (w2.heap.size ≤ w3.heap.size ∧ w3.heap.size = pa ∧ w4.heap.size = pa + 2 ∧ w4.heap.size ≤ w5.heap.size ∧ w5.heap.size = pc ∧ w6.heap.size = pc + 2 ∧ w6.heap.size ≤ w7.heap.size) := hide ⟨(unhide HB3).size, (unhide HZ4).1.symm, (unhide HZ4).2, (unhide HB5).size, (unhide HZ6).1.symm, (unhide HZ6).2, (unhide HB7).size⟩
  have HX8 : Hid (ABox w8 pa f p c bb ∧ BBox w8 (pa + 1) [] [] 0 (.slice none 0 0) ∧ ABox w8 pc f p c bb ∧ BBox w8 (pc + 1) [] [] 0 (.slice none 0 0)) := hide (by
    have z := unhide HZs
    have k1 : ∀ p, p < w4.heap.size → w2.heap.size ≤ p → w8.heap[p]? = w4.heap[p]? := fun p hp h2 => (unhide K28 p h2 (by omega)).trans (((unhide HB7).block p (by omega)).trans ((unhide HB46).block p hp))
    have k2 : ∀ p, p < w6.heap.size → w2.heap.size ≤ p → w8.heap[p]? = w6.heap[p]? := fun p hp h2 => (unhide K28 p h2 (by omega)).trans ((unhide HB7).block p hp)
    exact ⟨(unhide HA4).same (k1 pa (by omega) (by omega)), (unhide HC4).same (k1 (pa + 1) (by omega) (by omega)), (unhide HA6).same (k2 pc (by omega) (by omega)), (unhide HC6).same (k2 (pc + 1) (by omega) (by omega))⟩)
  have HP8 := hide (unhide HP w8 (unhide B18))
  have CB := hide (SameBatch_eq [] [] 0 none none 0 0 0 0 [] w8 (EvL.nil _) (EvL.nil _))
  obtain ⟨xa, xb, xc, xd⟩ := unhide HX8
  obtain ⟨u0, u1, u2, u3, _⟩ := xb.cells
  obtain ⟨t0, t1, t2, t3, _⟩ := xd.cells
  clear xa xb xc xd HA4 HC4 HA6 HC6 HB56 HO2 HB26 HB27 HB2 HB3
  go_wp2_with fail
  with_reducible refine (unhide CB).mono ?_
  rintro e w9 ⟨rfl, b9⟩
  have HB9 := hide b9
  have HX9 : Hid (ABox w9 pa f p c bb ∧ BBox w9 (pa + 1) [] [] 0 (.slice none 0 0) ∧ ABox w9 pc f p c bb ∧ BBox w9 (pc + 1) [] [] 0 (.slice none 0 0)) := hide (by
    obtain ⟨xa, xb, xc, xd⟩ := unhide HX8
    exact ⟨xa.same (b9.block _ (lt_of_block xa)), xb.same (b9.block _ (lt_of_block xb)), xc.same (b9.block _ (lt_of_block xc)), xd.same (b9.block _ (lt_of_block xd))⟩)
  have HP9 := hide ((unhide HP8).grown b9)
  have Z9 : Hid (w7.heap.size ≤ w9.heap.size) := hide (Nat.le_trans (unhide Z78) b9.size)
  clear b9 CB u0 u1 u2 u3 t0 t1 t2 t3 HX8 HP8
  obtain ⟨y0, y1, y2, y3, y5⟩ := unhide HBx w9 ((unhide B18).trans ((unhide HB9).mono (unhide B18).size))
  obtain ⟨u0, u1, u2, u3⟩ := (unhide HX9).1.four
  obtain ⟨t0, t1, t2, t3⟩ := (unhide HX9).2.2.1.four
  obtain ⟨v0, v1, v2, v3, _⟩ := (unhide HX9).2.1.cells
  have g1 : (f == f) = true := beq_self_eq_true _
  have g2 : (p == p) = true := beq_self_eq_true _
  have g3 : (c == c) = true := beq_self_eq_true _
  have g4 : (bb == bb) = true := beq_self_eq_true _
  have g5 : (er == er) = true := beq_self_eq_true _
  have g6 : (er != er) = false := by simp
  have HZ : Hid (∀ V V' : World, PSt w V x N rb F E Bs Bs → Kept (fun _ => False) V V' → PSt w V' x N rb F E Bs Bs) := hide (fun V V' h k => h.kept k fun q hq => hq.elim)
  have CS2 := hide (spoil_go (fun _ => False) none 0 0 0 [] w9 rfl (Nat.le_refl _) (by omega) (fun q => absurd rfl q))
  have hend : kd ≠ 1 ∨ er ≠ 0 ∨ (er = 0 ∧ bb = true) := by
    rcases hbad with h | h
    · exact .inr (.inl h)
    · by_cases he : er = 0
      · exact .inr (.inr ⟨he, h⟩)
      · exact .inr (.inl he)
  clear hbad HA HOk
  rcases hend with hkd | he | ⟨he, hbt⟩
  · have hk1 : (kd == 1) = false := beq_eq_false_iff_ne.2 hkd
    clear hkd
    go_upto_region 12 with fail
    go_wp2_with fail
    with_reducible refine (unhide CS2).mono ?_
    rintro e w10 ⟨rfl, k10⟩
    have HK10 := hide k10
    clear k10 CS2
    go_wp2
    go_ret
    exact ⟨rfl, unhide HZ _ _ (unhide HP9) (unhide HK10)⟩
  · have he1 : (er == 0) = false := beq_eq_false_iff_ne.2 he
    clear he
    by_cases hkd : kd = 1
    · subst hkd
      go_upto_region 12 with fail
      go_wp2_with fail
      with_reducible refine (unhide CS2).mono ?_
      rintro e w10 ⟨rfl, k10⟩
      have HK10 := hide k10
      clear k10 CS2
      go_wp2
      go_ret
      exact ⟨rfl, unhide HZ _ _ (unhide HP9) (unhide HK10)⟩
    · have hk1 : (kd == 1) = false := beq_eq_false_iff_ne.2 hkd
      clear hkd
      go_upto_region 12 with fail
      go_wp2_with fail
      with_reducible refine (unhide CS2).mono ?_
      rintro e w10 ⟨rfl, k10⟩
      have HK10 := hide k10
      clear k10 CS2
      go_wp2
      go_ret
      exact ⟨rfl, unhide HZ _ _ (unhide HP9) (unhide HK10)⟩
  · subst he hbt
    by_cases hkd : kd = 1
    · subst hkd
      go_upto_region 12 with fail
      go_wp2_with fail
      with_reducible refine (unhide CS2).mono ?_
      rintro e w10 ⟨rfl, k10⟩
      have HK10 := hide k10
      clear k10 CS2
      go_wp2
      go_ret
      exact ⟨rfl, unhide HZ _ _ (unhide HP9) (unhide HK10)⟩
    · have hk1 : (kd == 1) = false := beq_eq_false_iff_ne.2 hkd
      clear hkd
      go_upto_region 12 with fail
      go_wp2_with fail
      with_reducible refine (unhide CS2).mono ?_
      rintro e w10 ⟨rfl, k10⟩
      have HK10 := hide k10
      clear k10 CS2
      go_wp2
      go_ret
      exact ⟨rfl, unhide HZ _ _ (unhide HP9) (unhide HK10)⟩
end Go.Proofs.Ytabcmmhmghgliaa
