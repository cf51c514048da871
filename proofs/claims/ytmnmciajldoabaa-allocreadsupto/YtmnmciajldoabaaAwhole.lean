/-
  DERIVED. The document's Whole, at alloc's seat.
-/
import Derived.Test.YtmnmciajldoabaaAsame
import Derived.Test.YtmnmciajldoabaaNums
import Derived.Test.YtmnmciajldoabaaAwmath
namespace Go.Proofs.Ytmnmciajldoabaa
open Go.RowKit
set_option linter.unusedVariables false

theorem grown_drewN' {w w' : World} (h : w.grownBy w' none) (n : Nat) : w.grownBy (w'.drewN n) none := ⟨h.os, h.tape, h.output, h.size, h.block⟩
theorem own_stepW {w w1 w2 : World} {b : Nat} (h : w.grownBy w1 none) (hb : w.heap.size ≤ b) (k : w1.grownBy w2 (some b)) : w.grownBy w2 none := h.andThen k (fun j e => by cases e; exact .inl hb)
theorem own_step' {w w1 w2 : World} {v : Value} {xs : List (Nat × Nat)} (h : w.grownBy w1 none) (ho : ROwn w1 w.heap.size v xs) (k : w1.grownBy w2 v.ownBlock) : w.grownBy w2 none := h.andThen k (fun j e => .inl (ho.row e).1)
theorem ROwn.nil (w : World) (base : Nat) : ROwn w base (.slice none 0 0) [] := World.ownsRow_nil w _ _ _
theorem ROwn.grown {W W' : World} {base : Nat} {v : Value} {xs : List (Nat × Nat)} (h : ROwn W base v xs) (hg : W.grownBy W' none) : ROwn W' base v xs := h.kept hg (fun q _ e => by cases e)
theorem rcells_cons (x : Nat × Nat) (xs : List (Nat × Nat)) : rcells (x :: xs) = .int .i64 (x.1 : Int) :: .int .i64 (x.2 : Int) :: rcells xs := by simp [rcells]
theorem rcells_len : ∀ xs : List (Nat × Nat), (rcells xs).length = xs.length * 2
  | [] => rfl
  | x :: xs => by rw [rcells_cons, List.length_cons, List.length_cons, rcells_len xs, List.length_cons]; omega
theorem rcells_one (xs : List (Nat × Nat)) : ∀ u ∈ rcells xs, u.oneCell' = true := by
  intro u hu
  unfold rcells at hu
  rw [List.mem_flatMap] at hu
  obtain ⟨x, _, hx⟩ := hu
  rcases List.mem_cons.1 hx with rfl | hx
  · rfl
  · rcases List.mem_cons.1 hx with rfl | hx
    · rfl
    · cases hx
theorem rcells_set1 : ∀ (xs : List (Nat × Nat)) (i m : Nat) (h : i < xs.length), (rcells xs).set (i * 2 + 1) (.int .i64 (m : Int)) = rcells (xs.set i (xs[i].1, m))
  | x :: xs, 0, m, _ => by simp [rcells]
  | x :: xs, i + 1, m, h => by
    have ih := rcells_set1 xs i m (by simpa using h)
    rw [rcells_cons, show (i + 1) * 2 + 1 = (i * 2 + 1) + 1 + 1 by omega, List.set_cons_succ, List.set_cons_succ, ih, List.set_cons_succ, rcells_cons]
    rfl
theorem rcells_set0 : ∀ (xs : List (Nat × Nat)) (i m : Nat) (h : i < xs.length), (rcells xs).set (i * 2) (.int .i64 (m : Int)) = rcells (xs.set i (m, xs[i].2))
  | x :: xs, 0, m, _ => by simp [rcells]
  | x :: xs, i + 1, m, h => by
    have ih := rcells_set0 xs i m (by simpa using h)
    rw [rcells_cons, show (i + 1) * 2 = (i * 2) + 1 + 1 by omega, List.set_cons_succ, List.set_cons_succ, ih, List.set_cons_succ, rcells_cons]
    rfl

/-- As it is in memory. -/
theorem ROwn.form {w : World} {base : Nat} {v : Value} {xs : List (Nat × Nat)} (h : ROwn w base v xs) : ∃ ao cap, v = .slice ao xs.length cap ∧ xs.length ≤ cap ∧ cap ≤ 9223372036854775807 ∧ (xs.length ≠ 0 → ∃ g, ao = some ⟨g, 0, none⟩ ∧ base ≤ g ∧ g < w.heap.size ∧ ∀ i, (h : i < xs.length) → w.cell? ⟨g, i * 2, none⟩ = some (.int .i64 (xs[i].1 : Int)) ∧ w.cell? ⟨g, i * 2 + 1, none⟩ = some (.int .i64 (xs[i].2 : Int))) := by
  rcases h.2 with ⟨rfl, h0⟩ | ⟨g, cap, cur, rfl, hb, hg, hn, hm, hs, ht⟩
  · exact ⟨none, 0, by rw [h0], by omega, by omega, fun h => absurd h0 h⟩
  · refine ⟨some ⟨g, 0, none⟩, cap, rfl, hn, by unfold maxLen at hm; omega, fun _ => ⟨g, rfl, hb, lt_of_block hg, fun i hi => ?_⟩⟩
    obtain ⟨e1, e2⟩ := rcells_at xs i hi
    have at' : ∀ j, j < xs.length * 2 → cur[j]? = (rcells xs)[j]? := fun j hj => by
      have e : (cur.toList.take (xs.length * 2))[j]? = (rcells xs)[j]? := by rw [ht]
      rw [List.getElem?_take_of_lt (by omega)] at e
      simpa using e
    constructor
    · rw [cell_of_row _ _ _ _ _ _ hg, at' _ (by omega), e1]
    · rw [cell_of_row _ _ _ _ _ _ hg, at' _ (by omega), e2]
/-- One cell of it set. -/
theorem ROwn.set1 {w : World} {base g n cap : Nat} {xs : List (Nat × Nat)} (h : ROwn w base (.slice (some ⟨g, 0, none⟩) n cap) xs) (i m : Nat) (hi : i < xs.length) : ROwn (w.setCell ⟨g, i * 2 + 1, none⟩ (.int .i64 (m : Int))) base (.slice (some ⟨g, 0, none⟩) n cap) (xs.set i (xs[i].1, m)) := by
  obtain ⟨h1, h2⟩ := h
  refine ⟨by rw [rcells_len, List.length_set], ?_⟩
  rcases h2 with ⟨e, _⟩ | ⟨g', cap', cur, e, hb, hg, hn, hm, hs, ht⟩
  · cases e
  · cases e
    refine .inr ⟨g, cap, _, by rw [List.length_set], hb, heap_setCell_same w g (i * 2 + 1) cur _ _ hg, by rw [List.length_set]; exact hn, hm, by simpa using hs, ?_⟩
    rw [← rcells_set1 xs i m hi, ← ht, List.length_set, Array.toList_setIfInBounds, List.take_set]
theorem wpList_append_run {ops : Array Oper} {rest : List Oper} {o : Oper} {a : Act} {w : World} {Q : Exit → Act → World → Prop} (hgd : o.guard = none) (s x : Operand)
    (hop : o.op = Op.call { callee := Callee.builtin Builtin.append, args := #[s, x], argTypes := #[28, 28] }) (base : Nat) (v : Value) (xs : List (Nat × Nat)) (hs : a.eval s = v) (hown : ROwn w base v xs) (hb : base ≤ w.heap.size) (hl : xs.length ≤ 65536) (ad : Addr) (c : Nat) (y : Nat × Nat)
    (hx : a.eval x = .slice (some ad) 1 c) (hc : ∀ j u, ([.int .i64 (y.1 : Int), .int .i64 (y.2 : Int)] : List Value)[j]? = some u → w.cell? (ad.add j) = some u)
    (hK : ∀ v' w', ROwn w' base v' (xs ++ [y]) → w.grownBy w' v.ownBlock → wpList Try.prog ops Q rest (a.put o.dst v') w') :
    wpList Try.prog ops Q (o :: rest) a w := by
  obtain ⟨i0, hi, hz0, hz1, hz2⟩ := info_parts Try.infoRun3
  have h1c : ∀ u ∈ ([.int .i64 (y.1 : Int), .int .i64 (y.2 : Int)] : List Value), u.oneCell' = true := by
    have := rcells_one [y]
    simpa [rcells] using this
  refine wpList_append_own w hgd s x 28 hop base 36 i0 (.agg #[.int .i64 0, .int .i64 0]) 2 16 Try.underlying28 hi hz0 hz1 hz2 rfl (by decide) v xs.length (rcells xs) hs hown ad 1 c _ hx rfl hc h1c (by unfold maxLen; omega) (by omega) hb ?_
  intro v' w' ho' hgr _
  refine hK v' w' ?_ hgr
  unfold ROwn
  rw [rcells_snoc, List.length_append]
  exact ho'
theorem one_cells (w : World) (x1 x2 : Int) : ∀ j u, ([.int .i64 x1, .int .i64 x2] : List Value)[j]? = some u → (w.alloc (.cells #[.int .i64 x1, .int .i64 x2] 36)).cell? ((⟨w.heap.size, 0, none⟩ : Addr).add j) = some u := by
  intro j u hj
  rw [addr_add, cell_of_row _ _ _ _ _ _ (heap_alloc_new _ _)]
  rw [Nat.zero_add, ← hj]
  simp

theorem one_cells' (w : World) (x1 x2 : Int) : ∀ j u, ([.int .i64 x1, .int .i64 x2] : List Value)[j]? = some u → (w.alloc (.cells #[.int .i64 x1, .int .i64 x2] 36)).cell? ⟨w.heap.size, j, none⟩ = some u := fun j u hj => by
  have := one_cells w x1 x2 j u hj
  rw [addr_add, Nat.zero_add] at this
  exact this

theorem ROwn.at_last {w : World} {base : Nat} {v : Value} {Z : List (Nat × Nat)} {z : Nat × Nat} (h : ROwn w base v (Z ++ [z])) : ∃ g cap, v = .slice (some ⟨g, 0, none⟩) (Z.length + 1) cap ∧ base ≤ g ∧ g < w.heap.size ∧ Z.length + 1 ≤ cap ∧ cap ≤ 9223372036854775807 ∧ w.cell? ⟨g, Z.length * 2, none⟩ = some (.int .i64 (z.1 : Int)) ∧ w.cell? ⟨g, Z.length * 2 + 1, none⟩ = some (.int .i64 (z.2 : Int)) ∧ (∀ i, w.frozen? ⟨g, i, none⟩ = false) := by
  obtain ⟨ao, cap, e, h1, h2, h4⟩ := h.form
  obtain ⟨g, e2, hb, hl, hc⟩ := h4 (by simp)
  subst e2
  obtain ⟨c0, c1⟩ := hc Z.length (by simp)
  simp only [List.getElem_append_right (Nat.le_refl _), Nat.sub_self, List.getElem_singleton] at c0 c1
  simp only [List.length_append, List.length_singleton] at e h1
  subst e
  obtain ⟨_, cur, hcur⟩ := h.row (q := g) rfl
  exact ⟨g, cap, rfl, hb, hl, h1, h2, c0, c1, fun i => by simp [World.frozen?, hcur]⟩

theorem canon_take (l : List Nat) (k : Nat) (h : k < l.length) : canon (l.take (k + 1)) = jstep (canon (l.take k)) (l[k], 1) := by rw [List.take_succ_eq_append_getElem h, canon_snoc]
set_option maxRecDepth 20000 in
set_option maxHeartbeats 2000000 in
theorem Whole_any (w : World) (v : Value) (l : List Nat) (hv : Nr w v l) (hl : low l) (hln : l.length ≤ 10000) :
    Calls Try.prog 28 #[v] w fun e w' => ∃ u, e = .returned u ∧ ROwn w' w.heap.size u (canon l) ∧ w.grownBy w' none := by
  have HV := hide hv
  obtain ⟨ao, cap, rfl, hu1, hu2, _⟩ := hv
  obtain ⟨n, hn⟩ : ∃ n, n = l.length := ⟨_, rfl⟩
  rw [← hn] at hu1 HV hln ⊢
  have HN := hide hn
  have hni : (n : Int) ≤ 10000 := by omega
  clear hn
  go_enter Try.func28, Try.ntmps28
  go_wp2
  go_loopw [3, 4] (fun a i wr => ∃ (k : Nat), i = .int .i64 (k : Int) ∧ k ≤ n ∧ ROwn wr w.heap.size a (canon (l.take k)) ∧ w.grownBy wr none) (fun _ i _ => n - (intOf i).toNat)
  case atStart => exact ⟨0, rfl, by omega, by simpa [canon] using ROwn.nil w w.heap.size, World.grownBy.refl _ _⟩
  case round =>
    obtain ⟨k, rfl, hk, ho, hg⟩ := hrel
    by_cases hlt : k < n
    · have hlt' : (k : Int) < (n : Int) := by omega
      have hkl : k < l.length := by rw [← unhide HN]; exact hlt
      obtain ⟨pb, off, hao, hpb, hc⟩ : ∃ pb off, ao = some ⟨pb, off, none⟩ ∧ pb < wr.heap.size ∧ ∀ i, (h : i < l.length) → wr.cell? ⟨pb, off + i, none⟩ = some (.int .i64 (l[i] : Int)) := by
        obtain ⟨ao', cap', e, _, _, h4⟩ := (unhide HV).kept hg
        injection e with e1 e2 e3
        subst e1
        exact h4 (by omega)
      subst hao
      have c0 := hc k hkl
      have hy := hl l[k] (List.getElem_mem hkl)
      have HJ := hide (canon_take l k hkl)
      have hpre : low (l.take k) := low_take hl k
      have HNm := hide (norm_canon (l.take k))
      have HLw := hide (low_canon hpre)
      have hJl : (canon (l.take k)).length ≤ 20000 := by
        have h1 := canon_len (l.take k)
        have h2 : (l.take k).length ≤ k := by rw [List.length_take]; omega
        omega
      clear hpre
      obtain ⟨J, hJ⟩ : ∃ J, J = canon (l.take k) := ⟨_, rfl⟩
      rw [← hJ] at ho HJ HNm HLw hJl
      obtain ⟨y1, hyk⟩ : ∃ y, y = l[k] := ⟨_, rfl⟩
      rw [← hyk] at c0 hy HJ
      have hyi2 : (y1 : Int) < 512 := by omega
      clear hc hJ hyk hlt
      have HG := hide hg
      have HO := hide ho
      have HSz := hide hg.size
      clear hg ho
      rcases list_snoc J with hJ0 | ⟨Z, z, hJZ⟩
      · subst hJ0
        obtain ⟨ao5, cap5, hu5, _, _, _⟩ := (unhide HO).form
        subst hu5
        simp only [List.length_nil] at HO ⊢
        have hd : decide ((0 : Int) ≤ -1) = false := by decide
        go_wp2_with fail
        go_quiet (fail)
        go_wp2_with (at_builtin; refine wpList_append_run rfl (.tmp 43) (.tmp 49) rfl w.heap.size _ [] rfl ?ho ?hb ?hl ⟨_, 0, none⟩ 1 (y1, 1) rfl ?hc ?_)
        case ho => exact (unhide HO).grown ((grown_drewN' (World.grownBy.refl _ _) _).trans (World.grownBy_alloc _ _ _))
        case hb => have := unhide HSz; simp; omega
        case hl => simp
        case hc => exact one_cells' _ _ _
        intro v' w2 o2 g2
        have o1 : ROwn ((wr.drewN nq).alloc (.cells #[.int .i64 (y1 : Int), .int .i64 1] 36)) w.heap.size (.slice ao5 0 cap5) [] := (unhide HO).grown ((grown_drewN' (World.grownBy.refl _ _) _).trans (World.grownBy_alloc _ _ _))
        have g1 : w.grownBy ((wr.drewN nq).alloc (.cells #[.int .i64 (y1 : Int), .int .i64 1] 36)) none := (grown_drewN' (unhide HG) _).trans (World.grownBy_alloc _ _ _)
        have G2 : Hid (w.grownBy w2 none) := hide (own_step' g1 o1 g2)
        have O2 : Hid (ROwn w2 w.heap.size v' (canon (l.take (k + 1)))) := hide (by rw [unhide HJ]; exact o2)
        clear o1 g1 o2 g2 HO HG
        go_wp2
        go_roundw
        case rel => exact ⟨k + 1, rfl, by omega, unhide O2, unhide G2⟩
        case measure => simp [intOf]; omega
      · subst hJZ
        have hz := unhide HLw z (by simp)
        obtain ⟨g5, cap5, hu5, hb5, hl5, hcp5, hcq5, d0, d1, hfz⟩ := (unhide HO).at_last
        subst hu5
        obtain ⟨z1, z2⟩ := z
        simp only at hz d0 d1
        obtain ⟨hz2, hz1⟩ := hz
        have hqn : Z.length ≤ 20000 := by simp at hJl; omega
        obtain ⟨q, hq⟩ : ∃ q, q = Z.length := ⟨_, rfl⟩
        rw [← hq] at d0 d1 hcp5 HO hqn ⊢
        have HQ := hide hq
        clear hq
        have hqi : (q : Int) ≤ 20000 := by omega
        have hzi : (z1 : Int) + (z2 : Int) ≤ 512 := by omega
        have hzj : (0 : Int) < (z2 : Int) := by omega
        have hd : decide ((0 : Int) ≤ (q : Int)) = true := decide_eq_true (by omega)
        go_wp2_with fail
        by_cases hj : (z1 : Int) + (z2 : Int) = (y1 : Int)
        · have hj' : ((z1 : Int) + (z2 : Int) == (y1 : Int)) = true := beq_iff_eq.2 hj
          have HJ2 : Hid (canon (l.take (k + 1)) = (Z ++ [(z1, z2)]).set q (z1, z2 + 1)) := hide (by
            rw [unhide HJ, show y1 = z1 + z2 by omega, jstep_join, unhide HQ]
            simp)
          have HO2 : Hid (ROwn (wr.setCell ⟨g5, q * 2 + 1, none⟩ (.int .i64 ((z2 : Int) + 1))) w.heap.size (.slice (some ⟨g5, 0, none⟩) (q + 1) cap5) (canon (l.take (k + 1)))) := hide (by
            have h := (unhide HO).set1 q (z2 + 1) (by rw [unhide HQ]; simp)
            have e : (Z ++ [(z1, z2)])[q]'(by rw [unhide HQ]; simp) = (z1, z2) := by simp [unhide HQ]
            rw [e] at h
            rw [unhide HJ2]
            exact h)
          have HG2 : Hid (w.grownBy (wr.setCell ⟨g5, q * 2 + 1, none⟩ (.int .i64 ((z2 : Int) + 1))) none) := hide (own_stepW (unhide HG) hb5 (setCell_grown _ _ _ _))
          clear HJ2 HO HG HJ
          go_quiet (fail)
          go_wp2
          go_roundw
          case rel => exact ⟨k + 1, rfl, by omega, unhide HO2, ⟨(unhide HG2).os, (unhide HG2).tape, (unhide HG2).output, (unhide HG2).size, (unhide HG2).block⟩⟩
          case measure => simp [intOf]; omega
        · have hj' : ((z1 : Int) + (z2 : Int) == (y1 : Int)) = false := beq_eq_false_iff_ne.2 hj
          have HJ2 : Hid (canon (l.take (k + 1)) = Z ++ [(z1, z2)] ++ [(y1, 1)]) := hide (by
            rw [unhide HJ]
            exact jstep_not _ _ _ (by simp only; omega))
          clear HJ
          go_quiet (fail)
          go_wp2_with (at_builtin; refine wpList_append_run rfl (.tmp 43) (.tmp 49) rfl w.heap.size _ (Z ++ [(z1, z2)]) rfl ?ho ?hb ?hl ⟨_, 0, none⟩ 1 (y1, 1) rfl ?hc ?_)
          case ho => exact (unhide HO).grown ((grown_drewN' (World.grownBy.refl _ _) _).trans (World.grownBy_alloc _ _ _))
          case hb => have := unhide HSz; simp; omega
          case hl => have := unhide HQ; simp; omega
          case hc => exact one_cells' _ _ _
          intro v' w2 o2 g2
          have o1 : ROwn ((wr.drewN nq).alloc (.cells #[.int .i64 (y1 : Int), .int .i64 1] 36)) w.heap.size (.slice (some ⟨g5, 0, none⟩) (q + 1) cap5) (Z ++ [(z1, z2)]) := (unhide HO).grown ((grown_drewN' (World.grownBy.refl _ _) _).trans (World.grownBy_alloc _ _ _))
          have g1 : w.grownBy ((wr.drewN nq).alloc (.cells #[.int .i64 (y1 : Int), .int .i64 1] 36)) none := (grown_drewN' (unhide HG) _).trans (World.grownBy_alloc _ _ _)
          have G2 : Hid (w.grownBy w2 none) := hide (own_step' g1 o1 g2)
          have O2 : Hid (ROwn w2 w.heap.size v' (canon (l.take (k + 1)))) := hide (by rw [unhide HJ2, List.append_assoc]; exact o2)
          clear o1 g1 o2 g2 HO HG d0 d1 hfz
          go_wp2
          go_roundw
          case rel => exact ⟨k + 1, rfl, by omega, unhide O2, unhide G2⟩
          case measure => simp [intOf]; omega
    · have hlt' : ¬ (k : Int) < (n : Int) := by omega
      have HO : Hid (ROwn wr w.heap.size u3 (canon l)) := hide (by
        rw [List.take_of_length_le (by have := unhide HN; omega)] at ho
        exact ho)
      have HG := hide hg
      clear ho hg
      go_wp2
      go_ret
      exact ⟨_, rfl, unhide HO, unhide HG⟩
end Go.Proofs.Ytmnmciajldoabaa
