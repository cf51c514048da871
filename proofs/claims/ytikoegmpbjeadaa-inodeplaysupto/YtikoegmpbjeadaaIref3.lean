/-
  DERIVED. The document's Copy and Bytes.
-/
import Derived.Test.YtikoegmpbjeadaaIref2
import Derived.Test.YtikoegmpbjeadaaIrput
import Derived.Test.YtikoegmpbjeadaaIbytes
namespace Go.Proofs.Ytikoegmpbjeadaa
open Go.RowKit
set_option linter.unusedVariables false

/-- An append of numbers, as one step of a region that draws. -/
theorem step_append_nums {ops : Array Oper} {o : Oper} {a : Act} {w : World} {K : Act → World → Prop} {Q : Exit → Act → World → Prop} {E : Prop}
    (hg : o.guard = none) (s x : Operand) (ho : o.op = .call { callee := .builtin .append, args := #[s, x], argTypes := #[28, 28] })
    (base : Nat) (v : Value) (l : List Nat) (hs : a.eval s = v) (hown : NOwn w base v l)
    (ad : Addr) (n c : Nat) (m : List Nat) (hx : a.eval x = .slice (some ad) n c) (hy : Nr w (.slice (some ad) n c) m) (hlen : l.length + m.length ≤ 65536) (hbase : base ≤ w.heap.size)
    (hK : ∀ v' w', NOwn w' base v' (l ++ m) → w.grownBy w' v.ownBlock → K (a.put o.dst v') w') :
    if Region.wanted o (yielded ops a.tmps) = true then Oper.wp Try.prog o a w K Q else E := by
  have hw : Region.wanted o (yielded ops a.tmps) = true := by simp [Region.wanted, hg]
  rw [if_pos hw]
  obtain ⟨i0, hi, hz0, hz1, hz2⟩ := info_parts Try.infoInt
  obtain ⟨ao, cap, e, h1, h2, h4⟩ := hy
  cases e
  obtain ⟨v', w', hrun, r1, r2, _⟩ := run_append_own (P := Try.prog) w base 28 o.type 3 i0 (.int .i64 0) 1 8 Try.underlying28 hi hz0 hz1 hz2 rfl (by decide) v l.length (l.map nv) hown ad m.length c (m.map nv) (by simp) (fun j u hj => by
    rw [List.getElem?_map] at hj
    by_cases hjl : j < m.length
    · obtain ⟨g, off, e, _, hc⟩ := h4 (by omega)
      cases e
      rw [List.getElem?_eq_getElem hjl] at hj
      simp only [Option.map_some, Option.some.injEq] at hj
      subst hj
      rw [addr_add]
      exact hc j hjl
    · rw [List.getElem?_eq_none (by omega)] at hj
      cases hj) (fun u hu => by
    obtain ⟨z, _, rfl⟩ := List.mem_map.1 hu
    rfl) (by unfold maxLen; omega) (by omega) hbase
  unfold Oper.wp
  simp [execOp, ho, resolve, invoke, builtin, hs, hx, hrun, Result.andThen]
  refine hK v' w' ?_ r2
  unfold NOwn
  rw [List.map_append, List.length_append]
  exact r1

def RCopyPost (w : World) (n : Nat) (L : List Nat) (e : Ending) (w' : World) : Prop := ∃ c u, e = .returned (.pointer (some ⟨c, 0, none⟩)) ∧ w.heap.size ≤ c ∧ RdAt w' c n u L ∧ w.grownBy w' none

set_option maxRecDepth 20000 in
set_option maxHeartbeats 2000000 in
theorem rCopy_any (w : World) (b n : Nat) (v : Value) (L : List Nat) (h : RdAt w b n v L) :
    Calls Try.prog 12 #[.pointer (some ⟨b, 0, none⟩)] w (RCopyPost w n L) := by
  have c0 := h.num
  have c1 := h.val
  have HM := hide h
  have hbl := h.lt
  have hsm := h.small
  obtain ⟨lo, cap, hv, hv1, hv2, hv4⟩ := h.list.form
  clear hv4
  subst hv
  have HLn := hide h.list
  clear h
  have c0' : ∀ o, (w.alloc o).cell? ⟨b, 0, none⟩ = some (.int .i64 (n : Int)) := fun o => ((unhide HM).grown (World.grownBy_alloc w o none)).num
  have c1' : ∀ o, (w.alloc o).cell? ⟨b, 1, none⟩ = some (.slice lo L.length cap) := fun o => ((unhide HM).grown (World.grownBy_alloc w o none)).val
  have fin : ∀ (v3 : Value) (w3 : World), NOwn w3 w.heap.size v3 L → w.grownBy w3 none → RCopyPost w n L (.returned (.pointer (some ⟨w3.heap.size, 0, none⟩))) (w3.alloc (.cells #[.int .i64 (n : Int), v3] 30)) := fun v3 w3 o3 g3 => by
    have o4 := o3.grown (World.grownBy_alloc w3 (.cells #[.int .i64 (n : Int), v3] 30) none)
    refine ⟨w3.heap.size, v3, rfl, g3.size, ⟨heap_alloc_new _ _, ?_, (unhide HM).le, (unhide HM).len, (unhide HM).lw⟩, g3.trans (World.grownBy_alloc _ _ _)⟩
    obtain ⟨h1, h2⟩ := o4
    refine ⟨h1, ?_⟩
    rcases h2 with h2 | ⟨g, cap, cur, a, _, c⟩
    · exact .inl h2
    · exact .inr ⟨g, cap, cur, a, Nat.zero_le _, c⟩
  have FIN := hide fin
  clear fin
  cases lo with
  | none =>
    obtain rfl : cap = 0 := (unhide HLn).nilcap rfl
    have hL0 : L = [] := List.eq_nil_of_length_eq_zero (by omega)
    subst hL0
    go_enter Try.func12, Try.ntmps12
    go_wp2_with fail
    go_region
    all_goals go_wp2
    all_goals go_ret
    all_goals
      have h9 := unhide FIN _ ((w.alloc (.cells #[] 3)).drew) ((nown_empty w).grown (gr_d _)) (gr_ad _ _)
      have e9 : (w.alloc (.cells #[] 3)).drew.heap.size = w.heap.size + 1 := World.size_alloc w _
      rw [e9] at h9
      exact h9
  | some ad =>
    go_enter Try.func12, Try.ntmps12
    go_wp2_with fail
    go_region_law (first | (refine step_append_nums rfl (.tmp 7) (.tmp 11) rfl w.heap.size (.slice (some ⟨w.heap.size, 0, none⟩) 0 0) [] rfl ?own ad _ _ L rfl ?sl (by simp; omega) ?hb ?_; (case own => (first | exact (nown_empty w).grown (gr_d _) | exact nown_empty w)); (case sl => (first | exact (unhide HLn).nr.kept (gr_ad _ _) | exact (unhide HLn).nr.kept (gr_da _ _))); (case hb => (simp)); intro v3 w3 o3 g3; have O3 : Hid (NOwn w3 w.heap.size v3 L) := hide o3; have G3 : Hid (w.grownBy w3 none) := hide (by first | exact (gr_ad _ _).andThen g3 (fun q e => by cases e; exact .inl (Nat.le_refl _)) | exact (gr_da _ _).andThen g3 (fun q e => by cases e; exact .inl (Nat.le_refl _))); have d0 : w3.cell? ⟨b, 0, none⟩ = some (.int .i64 (n : Int)) := (unhide G3).cell c0 (by simp); obtain ⟨ao3, cap3, hv3, _⟩ := o3.form; obtain ⟨n3, hn3⟩ : ∃ n3, v3 = .slice ao3 n3 cap3 := ⟨_, hv3⟩; clear hv3; subst hn3; clear o3 g3))
    all_goals go_wp2
    all_goals go_ret
    all_goals exact unhide FIN _ _ (unhide O3) (unhide G3)

set_option maxRecDepth 20000 in
set_option maxHeartbeats 4000000 in
theorem rBytes_any (w : World) (b n : Nat) (v : Value) (L : List Nat) (h : RdAt w b n v L) :
    Calls Try.prog 33 #[.pointer (some ⟨b, 0, none⟩)] w fun e w' => ∃ u, e = .returned u ∧ Own w' w.heap.size u (tellN n L) ∧ w.grownBy w' none := by
  have HM := hide h
  have hni : (n : Int) ≤ 32768 := by have := h.le; omega
  have hn32 := h.le
  have hlow := low_canon h.lw
  have hsm : (canon L).length ≤ 64 := by
    have h1 := canon_len L
    have h2 := h.small
    omega
  have HTL : Hid (tellN n L = lay n ++ lay (canon L).length ++ layR (canon L)) := hide rfl
  clear h
  go_enter Try.func33, Try.ntmps33
  go_wp2_with fail
  refine (rRuns_any w b n v L (unhide HM)).mono ?_
  rintro e w1 ⟨u1, rfl, o1, g1⟩
  have c0 := ((unhide HM).grown g1).num
  have O1 := hide o1
  have G1 := hide g1
  obtain ⟨ao, cap, hu1, hc1, hc2, _⟩ := o1.form
  clear o1 g1
  obtain ⟨X, hX⟩ : ∃ X, X = canon L := ⟨_, rfl⟩
  rw [← hX] at hlow hsm HTL O1 hu1 hc1
  clear hX
  obtain ⟨q, hq⟩ : ∃ q, q = X.length := ⟨_, rfl⟩
  rw [← hq] at hsm HTL hu1 hc1
  subst hu1
  have HQ := hide hq
  have hqI : (q : Int) ≤ 64 := by omega
  clear hq
  go_wp2_with fail
  refine (rPutUint_at _ n w1 (by omega) (by first | rfl | omega)).mono ?_
  rintro e w2 ⟨v2, rfl, o2, b2⟩
  have O2 := hide o2
  have G2 : Hid (w.grownBy w2 none) := hide ((unhide G1).trans (grown_of_below b2))
  have B2 := hide b2
  clear o2 b2 c0
  go_wp2_with fail
  refine (rPutUint_at _ q w2 (by omega) (by first | rfl | omega)).mono ?_
  rintro e w3 ⟨v3, rfl, o3, b3⟩
  have S3 := hide o3.sl
  have O23 := hide ((unhide O2).below b3 (Nat.le_refl _))
  have B3 := hide b3
  have G3 : Hid (w.grownBy w3 none) := hide ((unhide G2).trans (grown_of_below b3))
  have hl1 := lay_len n
  have hl2 := lay_len q
  have HSz : Hid (w1.heap.size ≤ w3.heap.size) := hide (Nat.le_trans (unhide B2).size b3.size)
  clear o3 b3
  go_wp2_with (at_builtin; refine wpList_append_mine rfl (.tmp 13) (.tmp 17) rfl w1.heap.size _ (lay n) rfl (unhide O23) _ (lay q) rfl (unhide S3) (by omega) (unhide HSz) ?_)
  intro v4 w4 o4 b4
  have O4 := hide o4
  have G4 : Hid (w.grownBy w4 none) := hide (by
    have h1 : Below w1.heap.size w1 w4 := ((unhide B2).trans ((unhide B3).mono (unhide B2).size)).trans b4
    exact (unhide G1).trans (grown_of_below h1))
  have O14 : Hid (w1.grownBy w4 none) := hide (by
    have h1 : Below w1.heap.size w1 w4 := ((unhide B2).trans ((unhide B3).mono (unhide B2).size)).trans b4
    exact grown_of_below h1)
  clear o4 b4 B2 B3 O23 S3 G3 HSz O2 G2
  clear G4
  go_wp2
  go_loopw [4, 5] (fun a i wr => ∃ (k : Nat), i = .int .i64 (k : Int) ∧ k ≤ q ∧ Own wr w1.heap.size a (lay n ++ lay q ++ layR (X.take k)) ∧ w1.grownBy wr none) (fun _ i _ => q - (intOf i).toNat)
  case atStart => exact ⟨0, rfl, by omega, by simpa [layR] using unhide O4, unhide O14⟩
  case round =>
    obtain ⟨k, rfl, hk, ho, hg⟩ := hrel
    by_cases hlt : k < q
    · have hlt' : (k : Int) < (q : Int) := by omega
      have hkl : k < X.length := by rw [← unhide HQ]; exact hlt
      obtain ⟨ao', cap', e, _, _, h4⟩ := ((unhide O1).grown hg).form
      injection e with e1 e2 e3
      obtain ⟨g, hao, _, hgl, hc⟩ := h4 (by omega)
      rw [← e1] at hao
      subst hao
      obtain ⟨d0, d1⟩ := hc k hkl
      have hx := hlow X[k] (List.getElem_mem hkl)
      have HTk : Hid (layR (X.take (k + 1)) = layR (X.take k) ++ (lay X[k].1 ++ lay X[k].2)) := hide (by rw [List.take_succ_eq_append_getElem hkl, layR_snoc])
      have HLen : Hid ((lay n ++ lay q ++ layR (X.take k)).length ≤ 2000) := hide (by
        have h1 := layR_len (X.take k)
        have h5 : (X.take k).length ≤ k := by rw [List.length_take]; omega
        simp only [List.length_append]
        omega)
      obtain ⟨x, hx0⟩ : ∃ x, x = X[k] := ⟨_, rfl⟩
      rw [← hx0] at d0 d1 hx HTk
      clear hx0 hc h4 e1 e2 e3 hlt
      obtain ⟨x1, x2⟩ := x
      simp only at d0 d1 hx HTk
      obtain ⟨hx1, hx2⟩ := hx
      have hxI : (x1 : Int) + (x2 : Int) ≤ 512 := by omega
      have hx1l := lay_len x1
      have hx2l := lay_len x2
      have HO := hide ho
      have HG := hide hg
      have HD1 := hide d1
      have HSz := hide hg.size
      clear ho hg d1
      go_wp2_with fail
      refine (rPutUint_at _ x1 wr (by omega) (by first | rfl | omega)).mono ?_
      rintro e w5 ⟨v5, rfl, o5, b5⟩
      have S5 := hide o5.sl
      have O5 := hide ((unhide HO).below b5 (Nat.le_refl _))
      have G5 : Hid (w1.grownBy w5 none) := hide ((unhide HG).trans (grown_of_below b5))
      have Z5 : Hid (w1.heap.size ≤ w5.heap.size) := hide (unhide G5).size
      clear o5 b5 d0
      go_wp2_with (at_builtin; refine wpList_append_mine rfl (.tmp 25) (.tmp 32) rfl w1.heap.size _ (lay n ++ lay q ++ layR (X.take k)) rfl (unhide O5) _ (lay x1) rfl (unhide S5) (by have := unhide HLen; omega) (unhide Z5) ?_)
      intro v6 w6 o6 b6
      have O6 : Hid (Own w6 w1.heap.size v6 (lay n ++ lay q ++ layR (X.take k) ++ lay x1)) := hide (by simpa [List.append_assoc] using o6)
      have G6 : Hid (w1.grownBy w6 none) := hide (grown_of_below ((below_of_grown (unhide G5)).trans b6))
      have d1 : w6.cell? ⟨g, k * 2 + 1, none⟩ = some (.int .i64 (x2 : Int)) := by
        obtain ⟨ao', cap', e, _, _, h4⟩ := ((unhide O1).grown (unhide G6)).form
        injection e with e1 e2 e3
        obtain ⟨g', hao, _, _, hc⟩ := h4 (by omega)
        rw [← e1] at hao
        cases hao
        have h7 := (hc k hkl).2
        have h8 := unhide HD1
        obtain ⟨ao2, cap2, e', _, _, h42⟩ := ((unhide O1).grown (unhide HG)).form
        injection e' with e1' e2' e3'
        obtain ⟨g2, hao2, _, _, hc2⟩ := h42 (by omega)
        rw [← e1'] at hao2
        cases hao2
        rw [(hc2 k hkl).2] at h8
        rw [h7]
        exact h8
      clear o6 b6 O5 G5 S5 Z5
      go_wp2_with fail
      refine (rPutUint_at _ x2 w6 (by omega) (by first | rfl | omega)).mono ?_
      rintro e w7 ⟨v7, rfl, o7, b7⟩
      have S7 := hide o7.sl
      have O7 := hide ((unhide O6).below b7 (Nat.le_refl _))
      have G7 : Hid (w1.grownBy w7 none) := hide ((unhide G6).trans (grown_of_below b7))
      have Z7 : Hid (w1.heap.size ≤ w7.heap.size) := hide (unhide G7).size
      clear o7 b7 d1 O6 G6
      go_wp2_with (at_builtin; refine wpList_append_mine rfl (.tmp 34) (.tmp 41) rfl w1.heap.size _ (lay n ++ lay q ++ layR (X.take k) ++ lay x1) rfl (unhide O7) _ (lay x2) rfl (unhide S7) (by have := unhide HLen; simp only [List.length_append] at this ⊢; omega) (unhide Z7) ?_)
      intro v8 w8 o8 b8
      have O8 : Hid (Own w8 w1.heap.size v8 (lay n ++ lay q ++ layR (X.take (k + 1)))) := hide (by
        rw [unhide HTk]
        simpa [List.append_assoc] using o8)
      have G8 : Hid (w1.grownBy w8 none) := hide (grown_of_below ((below_of_grown (unhide G7)).trans b8))
      clear o8 b8 O7 G7 S7 Z7 HTk
      go_wp2
      go_roundw
      case rel => exact ⟨k + 1, rfl, by omega, unhide O8, unhide G8⟩
      case measure => simp [intOf]; omega
    · have hlt' : ¬ (k : Int) < (q : Int) := by omega
      have HO : Hid (Own wr w.heap.size u4 (tellN n L)) := hide (by
        rw [List.take_of_length_le (by have := unhide HQ; omega)] at ho
        rw [unhide HTL]
        exact ho.mono (unhide G1).size)
      have HG : Hid (w.grownBy wr none) := hide ((unhide G1).trans hg)
      clear ho hg
      go_wp2
      go_ret
      exact ⟨_, rfl, unhide HO, unhide HG⟩
end Go.Proofs.Ytikoegmpbjeadaa
