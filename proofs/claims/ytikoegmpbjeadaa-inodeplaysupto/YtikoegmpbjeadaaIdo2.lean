/-
  DERIVED. The law's 'do': Extend.
-/
import Derived.Test.YtikoegmpbjeadaaIdo
import Derived.Deep.Cut
namespace Go.Proofs.Ytikoegmpbjeadaa
open Go.RowKit
set_option linter.unusedVariables false

/-! ### Slices of runs of one's own, of whatever numbers -/
def icells (l : List (Int × Int)) : List Value := l.flatMap fun x => [.int .i64 x.1, .int .i64 x.2]
theorem icells_cons (x : Int × Int) (l : List (Int × Int)) : icells (x :: l) = .int .i64 x.1 :: .int .i64 x.2 :: icells l := by simp [icells]
theorem icells_len : ∀ l : List (Int × Int), (icells l).length = l.length * 2
  | [] => rfl
  | x :: l => by rw [icells_cons, List.length_cons, List.length_cons, icells_len l, List.length_cons]; omega
theorem icells_at : ∀ (l : List (Int × Int)) (i : Nat) (h : i < l.length), (icells l)[i * 2]? = some (.int .i64 l[i].1) ∧ (icells l)[i * 2 + 1]? = some (.int .i64 l[i].2)
  | x :: l, 0, _ => by simp [icells]
  | x :: l, i + 1, h => by
    have ih := icells_at l i (by simpa using h)
    rw [icells_cons, show (i + 1) * 2 = i * 2 + 1 + 1 by omega, show i * 2 + 1 + 1 + 1 = (i * 2 + 1) + 1 + 1 by omega]
    simp only [List.getElem?_cons_succ, List.getElem_cons_succ]
    exact ih
theorem icells_one (l : List (Int × Int)) : ∀ u ∈ icells l, u.oneCell' = true := by
  intro u hu
  unfold icells at hu
  rw [List.mem_flatMap] at hu
  obtain ⟨x, _, hx⟩ := hu
  rcases List.mem_cons.1 hx with rfl | hx
  · rfl
  · rcases List.mem_cons.1 hx with rfl | hx
    · rfl
    · cases hx
theorem icells_set : ∀ (l : List (Int × Int)) (i : Nat) (a b : Int), i < l.length → ((icells l).set (i * 2) (.int .i64 a)).set (i * 2 + 1) (.int .i64 b) = icells (l.set i (a, b))
  | x :: l, 0, a, b, _ => by simp [icells]
  | x :: l, i + 1, a, b, h => by
    have ih := icells_set l i a b (by simpa using h)
    rw [icells_cons, show (i + 1) * 2 + 1 = (i * 2 + 1) + 1 + 1 by omega, show (i + 1) * 2 = i * 2 + 1 + 1 by omega, List.set_cons_succ, List.set_cons_succ, List.set_cons_succ, List.set_cons_succ, ih, List.set_cons_succ, icells_cons]
def IR (w : World) (base : Nat) (v : Value) (l : List (Int × Int)) : Prop := w.ownsRow base 51 2 v l.length (icells l)
theorem IR.nil (w : World) (base : Nat) : IR w base (.slice none 0 0) [] := World.ownsRow_nil w _ _ _
theorem IR.kept {W W' : World} {base : Nat} {v : Value} {l : List (Int × Int)} {row : Option Nat} (h : IR W base v l) (hg : W.grownBy W' row) (hne : ∀ q, v.ownBlock = some q → some q ≠ row) : IR W' base v l := by
  obtain ⟨h1, h2⟩ := h
  refine ⟨h1, ?_⟩
  rcases h2 with h2 | ⟨g, cap, cur, rfl, hb, hgb, r⟩
  · exact .inl h2
  · exact .inr ⟨g, cap, cur, rfl, hb, (hg.block g (lt_of_block hgb) (hne g rfl)).trans hgb, r⟩
theorem IR.mono {w : World} {base b2 : Nat} {v : Value} {l : List (Int × Int)} (h : IR w base v l) (hb : b2 ≤ base) : IR w b2 v l := by
  obtain ⟨h1, h2⟩ := h
  refine ⟨h1, ?_⟩
  rcases h2 with h | ⟨g, cap, cur, a, b, c⟩
  · exact .inl h
  · exact .inr ⟨g, cap, cur, a, by omega, c⟩
theorem IR.row {W : World} {base : Nat} {v : Value} {l : List (Int × Int)} (h : IR W base v l) {q : Nat} (hq : v.ownBlock = some q) : base ≤ q ∧ ∃ cur, W.heap[q]? = some (.cells cur 51 (0, 0)) := by
  rcases h.2 with ⟨rfl, _⟩ | ⟨g, cap, cur, rfl, hb, hg, r⟩
  · cases hq
  · cases hq; exact ⟨hb, cur, hg⟩
theorem IR.ne {W : World} {base : Nat} {v : Value} {l : List (Int × Int)} (h : IR W base v l) {q j : Nat} {C : Array Value} {t : TypeId} {fr : Nat × Nat} (hq : v.ownBlock = some q) (hj : W.heap[j]? = some (.cells C t fr)) (ht : t ≠ 51) : q ≠ j := by
  rintro rfl
  obtain ⟨_, cur, hc⟩ := h.row hq
  rw [hc] at hj
  cases hj
  exact ht rfl
theorem IR.form {w : World} {base : Nat} {v : Value} {l : List (Int × Int)} (h : IR w base v l) : ∃ ao cap, v = .slice ao l.length cap ∧ l.length ≤ cap ∧ cap ≤ 9223372036854775807 ∧ (l.length ≠ 0 → ∃ g, ao = some ⟨g, 0, none⟩ ∧ base ≤ g ∧ g < w.heap.size ∧ ∀ i, (h : i < l.length) → w.cell? ⟨g, i * 2, none⟩ = some (.int .i64 l[i].1) ∧ w.cell? ⟨g, i * 2 + 1, none⟩ = some (.int .i64 l[i].2)) := by
  rcases h.2 with ⟨rfl, h0⟩ | ⟨g, cap, cur, rfl, hb, hg, hn, hm, hs, ht⟩
  · exact ⟨none, 0, by rw [h0], by omega, by omega, fun h => absurd h0 h⟩
  · refine ⟨some ⟨g, 0, none⟩, cap, rfl, hn, by unfold maxLen at hm; omega, fun _ => ⟨g, rfl, hb, lt_of_block hg, fun i hi => ?_⟩⟩
    obtain ⟨e1, e2⟩ := icells_at l i hi
    have at' : ∀ j, j < l.length * 2 → cur[j]? = (icells l)[j]? := fun j hj => by
      have e : (cur.toList.take (l.length * 2))[j]? = (icells l)[j]? := by rw [ht]
      rw [List.getElem?_take_of_lt (by omega)] at e
      simpa using e
    constructor
    · rw [cell_of_row _ _ _ _ _ _ hg, at' _ (by omega), e1]
    · rw [cell_of_row _ _ _ _ _ _ hg, at' _ (by omega), e2]
theorem IR.at_ {w : World} {base q cap : Nat} {ao : Option Addr} {l : List (Int × Int)} (h : IR w base (.slice ao q cap) l) (hl : 0 < l.length) : ∃ g, ao = some ⟨g, 0, none⟩ ∧ base ≤ g ∧ g < w.heap.size ∧ ∀ i, (h : i < l.length) → w.cell? ⟨g, i * 2, none⟩ = some (.int .i64 l[i].1) ∧ w.cell? ⟨g, i * 2 + 1, none⟩ = some (.int .i64 l[i].2) := by
  obtain ⟨ao', cap', e, _, _, h4⟩ := h.form
  injection e with e1 e2 e3
  subst e1
  exact h4 (by omega)
theorem IR.rn {w : World} {base : Nat} {v : Value} {l : List (Int × Int)} (h : IR w base v l) (hf : ∀ x ∈ l, fits x) : Rn w v l := by
  obtain ⟨ao, cap, e, h1, h2, h4⟩ := h.form
  refine ⟨ao, cap, e, h1, h2, hf, fun hl => ?_⟩
  obtain ⟨g, e2, _, hlt, hc⟩ := h4 hl
  exact ⟨g, 0, e2, hlt, fun i hi => by have := hc i hi; simpa using this⟩
theorem IR.set {w : World} {base g n cap : Nat} {l : List (Int × Int)} (h : IR w base (.slice (some ⟨g, 0, none⟩) n cap) l) (i : Nat) (a b : Int) (hi : i < l.length) : IR ((w.setCell ⟨g, i * 2, none⟩ (.int .i64 a)).setCell ⟨g, i * 2 + 1, none⟩ (.int .i64 b)) base (.slice (some ⟨g, 0, none⟩) n cap) (l.set i (a, b)) := by
  obtain ⟨h1, h2⟩ := h
  refine ⟨by rw [icells_len, List.length_set], ?_⟩
  rcases h2 with ⟨e, _⟩ | ⟨g', cap', cur, e, hb, hg, hn, hm, hs, ht⟩
  · cases e
  · cases e
    refine .inr ⟨g, cap, _, by rw [List.length_set], hb, heap_setCell_same _ g (i * 2 + 1) _ _ _ (heap_setCell_same w g (i * 2) cur _ _ hg), by rw [List.length_set]; exact hn, hm, by simpa using hs, ?_⟩
    rw [← icells_set l i a b hi, ← ht, List.length_set, Array.toList_setIfInBounds, Array.toList_setIfInBounds, List.take_set, List.take_set]
theorem IR.one (w : World) (x1 x2 : Int) : IR (w.alloc (.cells #[.int .i64 x1, .int .i64 x2] 51)) w.heap.size (.slice (some ⟨w.heap.size, 0, none⟩) 1 1) [(x1, x2)] :=
  ⟨rfl, .inr ⟨w.heap.size, 1, _, rfl, Nat.le_refl _, heap_alloc_new _ _, by simp, by unfold maxLen; omega, by simp, by simp [icells]⟩⟩
theorem ir_empty (w : World) : IR (w.alloc (.cells #[] 51)) w.heap.size (.slice (some ⟨w.heap.size, 0, none⟩) 0 0) [] := ⟨rfl, .inr ⟨w.heap.size, 0, #[], rfl, Nat.le_refl _, heap_alloc_new _ _, by simp, by unfold maxLen; omega, by simp, by simp [icells]⟩⟩

/-- Runs that lie somewhere, appended to nothing of one's own. -/
theorem wpList_append_iruns {w : World} {ops : Array Oper} {rest : List Oper} {o : Oper} {a : Act} {Q : Exit → Act → World → Prop} (hgd : o.guard = none) (s x : Operand)
    (ho : o.op = .call { callee := .builtin .append, args := #[s, x], argTypes := #[32, 32] })
    (base : Nat) (v : Value) (hs : a.eval s = v) (hown : IR w base v [])
    (y : Value) (m : List (Int × Int)) (hx : a.eval x = y) (hy : Rn w y m) (hne : ∀ c, y = .slice none 0 c → c = 0) (hlen : m.length ≤ 2000000) (hbase : base ≤ w.heap.size)
    (h : ∀ v' w', IR w' base v' m → w.grownBy w' v.ownBlock → wpList Try.prog ops Q rest (a.put o.dst v') w') : wpList Try.prog ops Q (o :: rest) a w := by
  obtain ⟨i0, hi, hz0, hz1, hz2⟩ := info_parts Try.infoRun3
  obtain ⟨ao, cap, rfl, h1, h2, h3, h4⟩ := hy
  cases ao with
  | none =>
    have hm0 : m = [] := by
      cases m with
      | nil => rfl
      | cons x r => obtain ⟨_, _, e, _⟩ := h4 (by simp); cases e
    subst hm0
    obtain rfl : cap = 0 := hne cap rfl
    refine wpList_append_own_none hgd s x 32 ho base 51 i0 2 Try.underlying32 hi v 0 [] hs hown hx ?_
    exact h v w hown (World.grownBy.refl _ _)
  | some ad =>
    refine wpList_append_own w hgd s x 32 ho base 51 i0 (.agg #[.int .i64 0, .int .i64 0]) 2 16 Try.underlying32 hi hz0 hz1 hz2 rfl (by decide) v 0 [] hs hown ad m.length cap (icells m) hx (icells_len m) ?_ (icells_one m) (by unfold maxLen; omega) (by omega) hbase ?_
    · intro j u hj
      have hjl : j < (icells m).length := (List.getElem?_eq_some_iff.1 hj).1
      rw [icells_len] at hjl
      obtain ⟨g, off, e, _, hc⟩ := h4 (by omega)
      cases e
      have hjm : j / 2 < m.length := by omega
      obtain ⟨c0, c1⟩ := hc (j / 2) hjm
      obtain ⟨e0, e1⟩ := icells_at m (j / 2) hjm
      rw [addr_add]
      rcases (show j = j / 2 * 2 ∨ j = j / 2 * 2 + 1 by omega) with h5 | h5
      · rw [h5] at hj ⊢
        rw [e0] at hj
        rw [← hj]
        have h6 : j / 2 * 2 / 2 = j / 2 := by omega
        exact c0
      · rw [h5] at hj ⊢
        rw [e1] at hj
        rw [← hj, ← Nat.add_assoc]
        exact c1
    · intro v' w' ho' hgr _
      refine h v' w' ?_ hgr
      unfold IR
      simpa using ho'

set_option maxRecDepth 20000 in
set_option maxHeartbeats 16000000 in
theorem do_ext1 (w : World) (b c n : Nat) (v u vl : Value) (L : List Nat) (N : Int) (two : Bool) (ao : Option Addr) (q cap : Nat) (l : List (Int × Int)) (hvl : vl = .slice ao q cap) (hr : Rn w vl l) (hne : ∀ c, vl = .slice none 0 c → c = 0) (hl : l.length ≤ 2000000) (h : NdAt w b n v L) (h2 : RdAt w c n u L) (hN : I64 N) :
    Calls Try.prog 13 #[.pointer (some ⟨b, 0, none⟩), .pointer (some ⟨c, 0, none⟩), clA 1 N vl two] w (DoPost w b c) := by
  subst hvl
  unfold clA
  have HRn := hide hr
  have HNn := hide hne
  have hql : q = l.length := by obtain ⟨_, _, e, _⟩ := hr; injection e
  have HQl := hide hql
  have hqI : (q : Int) ≤ 2000000 := by omega
  have hn32 := h.le
  obtain ⟨W, hW⟩ : ∃ W, W = w.alloc (.cells #[.int .i64 1, .int .i64 N, .slice ao q cap, .bool two] 34) := ⟨_, rfl⟩
  have HM : Hid (NdAt W b n v L) := hide (by rw [hW]; exact h.grown (World.grownBy_alloc _ _ _))
  have HR : Hid (RdAt W c n u L) := hide (by rw [hW]; exact h2.grown (World.grownBy_alloc _ _ _))
  have HG : Hid (w.grownBy W none) := hide (by rw [hW]; exact World.grownBy_alloc _ _ _)
  have hbx : W.heap[w.heap.size]? = some (.cells #[.int .i64 1, .int .i64 N, .slice ao q cap, .bool two] 34 (0, 0)) := by rw [hW]; exact heap_alloc_new _ _
  have cN : W.cell? ⟨w.heap.size, 1, none⟩ = some (.int .i64 N) := (cell_of_row _ _ _ _ _ _ hbx).trans rfl
  have cL : W.cell? ⟨w.heap.size, 2, none⟩ = some (.slice ao q cap) := (cell_of_row _ _ _ _ _ _ hbx).trans rfl
  have cK : W.cell? ⟨w.heap.size, 0, none⟩ = some (.int .i64 1) := (cell_of_row _ _ _ _ _ _ hbx).trans rfl
  have hbw : w.heap.size < W.heap.size := lt_of_block hbx
  have HNe : Hid (w.heap.size ≠ b) := hide (by have := h.lt; omega)
  clear h h2 hbx hr hne hql
  go_enter Try.func13, Try.ntmps13
  go_upto_region 4 with fail
  rw [← hW]
  clear hW
  go_wp2_with (at_builtin; refine wpList_append_iruns rfl (.tmp 34) (.tmp 36) rfl W.heap.size _ rfl (ir_empty W) _ l rfl (((unhide HRn).kept (unhide HG)).alloc _) (unhide HNn) hl (by simp) ?_)
  intro v3 w3 o3 g3
  have g3' : W.grownBy w3 none := (World.grownBy_alloc _ _ _).andThen g3 (fun z e => .inl (by cases e; exact Nat.le_refl _))
  have I3 := hide o3
  have G3 := hide g3'
  obtain ⟨xo, xc, hx3, _⟩ := o3.form
  rw [← unhide HQl] at hx3
  have eN := g3'.cell cN (by simp)
  have eK := g3'.cell cK (by simp)
  have eL := g3'.cell cL (by simp)
  clear o3 g3 g3'
  subst hx3
  obtain ⟨WX, hWX⟩ : ∃ WX, WX = w3 := ⟨_, rfl⟩
  obtain ⟨xq, hxq⟩ : ∃ xq, xq = q := ⟨_, rfl⟩
  rw [← hWX] at I3 G3 eN eK eL ⊢
  rw [← hxq] at I3 hqI HQl ⊢
  clear hWX hxq
  have IX := I3
  have GX := G3
  obtain ⟨lx, hlx⟩ : ∃ lx, lx = l := ⟨_, rfl⟩
  rw [← hlx] at IX HQl hl
  have LX := hide hl
  have QX := hide (unhide HQl).symm
  have FX : Hid (∀ x ∈ lx, fits x) := hide (by rw [hlx]; obtain ⟨_, _, _, _, _, h, _⟩ := unhide HRn; exact h)
  clear hlx I3 G3
  go_upto_region 10 with fail
  have M4 := hide ((unhide HM).grown (unhide GX))
  have R4 := hide ((unhide HR).grown (unhide GX))
  have cN4 := (unhide GX).cell cN (by simp)
  have G04 : Hid (w.grownBy WX none) := hide ((unhide HG).trans (unhide GX))
  have ZX := hide (unhide GX).size
  go_wp2_with fail
  refine (Extend_gen WX b n v _ L lx (unhide M4) N hN ((unhide IX).rn (unhide FX)) (by have := unhide LX; omega)).mono ?_
  rintro e w5 ⟨v5, rfl, m5, s5, gr5⟩
  have M5 := hide m5
  have R5 := hide ((unhide R4).nodes (unhide M4) gr5)
  have I5 := hide ((unhide IX).kept gr5 (fun z hz e => (unhide IX).ne hz (unhide M4).blk (by decide) (by simpa using e)))
  have F5 := hide ((Fr2.of w WX b c (unhide G04)).left gr5)
  have cN5 : w5.cell? ⟨w.heap.size, 1, none⟩ = some (.int .i64 N) := gr5.cell cN4 (by simpa using unhide HNe)
  have S5 : Hid (∀ z, (Value.slice xo xq xc).ownBlock = some z → v5.ownBlock ≠ some z) := hide (fun z hz e => by
    have h1 := (unhide IX).row hz
    rcases s5 with rfl | s5
    · obtain ⟨_, cur, hcu⟩ := (unhide HM).runs.row e
      have h2 := lt_of_block hcu
      have h3 := h1.1
      omega
    · obtain ⟨h2, _⟩ := s5.row e
      obtain ⟨_, cur, hcu⟩ := h1
      have h4 := lt_of_block hcu
      omega)
  clear m5 gr5 s5 M4 R4 cN4 G04
  go_wp2_with fail
  refine (rExtend_gen w5 c n u _ L lx (unhide R5) N hN ((unhide I5).rn (unhide FX)) (by have := unhide LX; omega)).mono ?_
  rintro e w6 ⟨u6, rfl, m6, gr6⟩
  have M6 := hide ((unhide M5).nodes (unhide R5) gr6)
  have R6 := hide m6
  have I6 : Hid (∃ l', IR w6 w.heap.size (.slice xo xq xc) l' ∧ l'.length = xq) := hide ⟨_, ((unhide I5).kept gr6 (fun z hz e => (unhide I5).ne hz (unhide R5).blk (by decide) (by simpa using e))).mono (unhide HG).size, unhide QX⟩
  have F6 := hide ((unhide F5).right gr6)
  clear m6 gr6 M5 R5 I5 F5 cN5
  have hxqI : (xq : Int) ≤ 2000000 := by have := unhide LX; have := unhide QX; omega
  go_wp2
  go_loopw [12] (fun i wr => ∃ (j : Nat) (l' : List (Int × Int)), i = .int .i64 (j : Int) ∧ j ≤ xq ∧ IR wr w.heap.size (.slice xo xq xc) l' ∧ l'.length = xq ∧ NdAt wr b (extN n N lx) v5 (extL n L N lx) ∧ RdAt wr c (extN n N lx) u6 (extL n L N lx) ∧ Fr2 w wr b c) (fun i _ => xq - (intOf i).toNat)
  case atStart =>
    obtain ⟨l', h1, h2⟩ := unhide I6
    exact ⟨0, l', rfl, by omega, h1, h2, unhide M6, unhide R6, unhide F6⟩
  case round =>
    obtain ⟨j, l', rfl, hj, ho, hxl, hm, hr, hf⟩ := hrel
    have HO := hide ho
    have HXl := hide hxl
    have HM7 := hide hm
    have HR7 := hide hr
    have HF7 := hide hf
    clear ho hxl hm hr hf M6 R6 I6 F6
    by_cases hlt : j < xq
    · have hlt' : (j : Int) < (xq : Int) := by omega
      have hjx : j < l'.length := by rw [unhide HXl]; exact hlt
      obtain ⟨g, hro, hgb, hgl, hcell⟩ := (unhide HO).at_ (by omega)
      subst hro
      obtain ⟨d0, d1⟩ := hcell j hjx
      obtain ⟨_, cur, hcur⟩ := (unhide HO).row (q := g) rfl
      have f0 : wr.frozen? ⟨g, j * 2, none⟩ = false := by simp [World.frozen?, hcur]
      have f1 : wr.frozen? ⟨g, j * 2 + 1, none⟩ = false := by simp [World.frozen?, hcur]
      have hgr : wr.grownBy ((wr.setCell ⟨g, j * 2, none⟩ (.int .i64 500)).setCell ⟨g, j * 2 + 1, none⟩ (.int .i64 1)) (some g) := (setCell_grown _ _ _ _).trans (setCell_grown _ _ _ _)
      have HO2 : Hid (∃ ys, IR ((wr.setCell ⟨g, j * 2, none⟩ (.int .i64 500)).setCell ⟨g, j * 2 + 1, none⟩ (.int .i64 1)) w.heap.size (.slice (some ⟨g, 0, none⟩) xq xc) ys ∧ ys.length = xq) := hide ⟨_, (unhide HO).set j 500 1 hjx, by rw [List.length_set]; exact unhide HXl⟩
      have HM2 := hide ((unhide HM7).other hgr (fun e => by
        have h7 := (unhide HM7).blk
        rw [e, hcur] at h7
        injection h7 with h7
        injection h7 with _ h7
        exact absurd h7 (by decide)) (fun z hz e => unhide S5 g rfl (by rw [hz, e])))
      have HR2 := hide ((unhide HR7).other hgr (fun e => by
        have h7 := (unhide HR7).blk
        rw [e, hcur] at h7
        injection h7 with h7
        injection h7 with _ h7
        exact absurd h7 (by decide)) (fun z hz => (unhide HR7).list.ne hz hcur (by decide)))
      have HF2 := hide ((unhide HF7).new hgb hgr)
      clear hcell hcur HO HM7 HR7 HF7 hgr
      go_wp2
      go_roundw
      case rel =>
        obtain ⟨ys, h1, h2⟩ := unhide HO2
        exact ⟨j + 1, ys, rfl, by omega, h1, h2, unhide HM2, unhide HR2, unhide HF2⟩
      case measure => simp [intOf]; omega
    · have hlt' : ¬ (j : Int) < (xq : Int) := by omega
      have HD : Hid (DoPost w b c (.returned (.bool true)) wr) := hide ⟨rfl, ⟨_, _, _, _, unhide HM7, unhide HR7⟩, unhide HF7⟩
      clear HO HM7 HR7 HF7
      go_wp2
      go_ret
      exact unhide HD
end Go.Proofs.Ytikoegmpbjeadaa
