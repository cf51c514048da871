/-
  DERIVED. The law's 'grown': a node that was extended by some sizes, and its blocks in a slice of ints.
-/
import Derived.Test.YtikoegmpbjeadaaIopen
namespace Go.Proofs.Ytikoegmpbjeadaa
open Go.RowKit
set_option linter.unusedVariables false

theorem Try.infoInt : (Try.prog.info? 3).map (fun i => (i.zero, i.size, i.bytes)) = some (some (.int .i64 0), 1, 8) := by kernel_rfl
abbrev nv (n : Nat) : Value := .int .i64 (n : Int)
/-- A slice of numbers of one's own. -/
def NOwn (w : World) (base : Nat) (v : Value) (L : List Nat) : Prop := w.ownsRow base 3 1 v L.length (L.map nv)
theorem NOwn.nil (w : World) (base : Nat) : NOwn w base (.slice none 0 0) [] := World.ownsRow_nil w _ _ _
theorem NOwn.kept {W W' : World} {base : Nat} {v : Value} {xs : List Nat} {row : Option Nat} (h : NOwn W base v xs) (hg : W.grownBy W' row) (hne : ∀ q, v.ownBlock = some q → some q ≠ row) : NOwn W' base v xs := by
  obtain ⟨h1, h2⟩ := h
  refine ⟨h1, ?_⟩
  rcases h2 with h2 | ⟨g, cap, cur, rfl, hb, hgb, r⟩
  · exact .inl h2
  · exact .inr ⟨g, cap, cur, rfl, hb, (hg.block g (lt_of_block hgb) (hne g rfl)).trans hgb, r⟩
theorem NOwn.grown {W W' : World} {base : Nat} {v : Value} {xs : List Nat} (h : NOwn W base v xs) (hg : W.grownBy W' none) : NOwn W' base v xs := h.kept hg (fun q _ e => by cases e)
theorem NOwn.row {W : World} {base : Nat} {v : Value} {xs : List Nat} (h : NOwn W base v xs) {q : Nat} (hq : v.ownBlock = some q) : base ≤ q ∧ ∃ cur, W.heap[q]? = some (.cells cur 3 (0, 0)) := by
  rcases h.2 with ⟨rfl, _⟩ | ⟨g, cap, cur, rfl, hb, hg, r⟩
  · cases hq
  · cases hq; exact ⟨hb, cur, hg⟩
theorem NOwn.ne {W : World} {base : Nat} {v : Value} {xs : List Nat} (h : NOwn W base v xs) {q j : Nat} {C : Array Value} {t : TypeId} {fr : Nat × Nat} (hq : v.ownBlock = some q) (hj : W.heap[j]? = some (.cells C t fr)) (ht : t ≠ 3) : q ≠ j := by
  rintro rfl
  obtain ⟨_, cur, hc⟩ := h.row hq
  rw [hc] at hj
  cases hj
  exact ht rfl
theorem NOwn.form {w : World} {base : Nat} {v : Value} {xs : List Nat} (h : NOwn w base v xs) : ∃ ao cap, v = .slice ao xs.length cap ∧ xs.length ≤ cap ∧ cap ≤ 9223372036854775807 ∧ (xs.length ≠ 0 → ∃ g, ao = some ⟨g, 0, none⟩ ∧ g < w.heap.size ∧ ∀ i, (h : i < xs.length) → w.cell? ⟨g, i, none⟩ = some (.int .i64 (xs[i] : Int))) := by
  rcases h.2 with ⟨rfl, h0⟩ | ⟨g, cap, cur, rfl, hb, hg, hn, hm, hs, ht⟩
  · exact ⟨none, 0, by rw [h0], by omega, by omega, fun h => absurd h0 h⟩
  · refine ⟨some ⟨g, 0, none⟩, cap, rfl, hn, by unfold maxLen at hm; omega, fun _ => ⟨g, rfl, lt_of_block hg, fun i hi => ?_⟩⟩
    have e : (cur.toList.take (xs.length * 1))[i]? = (xs.map nv)[i]? := by rw [ht]
    rw [List.getElem?_take_of_lt (by omega)] at e
    rw [cell_of_row _ _ _ _ _ _ hg]
    simpa [hi] using e
theorem NOwn.far {W W' : World} {base b n : Nat} {u v : Value} {L xs : List Nat} (h : NOwn W base v xs) (hm : NdAt W b n u L) (hg : W.grownBy W' (some b)) : NOwn W' base v xs :=
  h.kept hg (fun q hq e => h.ne hq hm.blk (by decide) (by simpa using e))
/-- A node, where a slice of numbers is appended to. -/
theorem NdAt.ints {W W' : World} {base b n : Nat} {u v : Value} {L xs : List Nat} (hm : NdAt W b n u L) (h : NOwn W base v xs) (hg : W.grownBy W' v.ownBlock) : NdAt W' b n u L := by
  refine ⟨(hg.block b hm.lt (fun e => h.ne e.symm hm.blk (by decide) rfl)).trans hm.blk, hm.runs.kept hg (fun q hq e => ?_), hm.le, hm.len, hm.lw⟩
  obtain ⟨_, cur, hc⟩ := hm.runs.row hq
  exact h.ne e.symm hc (by decide) rfl
theorem ROwn.ints {W W' : World} {base b2 : Nat} {u v : Value} {X : List (Nat × Nat)} {xs : List Nat} (hm : ROwn W b2 u X) (h : NOwn W base v xs) (hg : W.grownBy W' v.ownBlock) : ROwn W' b2 u X :=
  hm.kept hg (fun q hq e => by
    obtain ⟨_, cur, hc⟩ := hm.row hq
    exact h.ne e.symm hc (by decide) rfl)
theorem ROwn.one (w : World) (x1 x2 : Nat) : ROwn (w.alloc (.cells #[.int .i64 (x1 : Int), .int .i64 (x2 : Int)] 51)) w.heap.size (.slice (some ⟨w.heap.size, 0, none⟩) 1 1) [(x1, x2)] :=
  ⟨rfl, .inr ⟨w.heap.size, 1, _, rfl, Nat.le_refl _, heap_alloc_new _ _, by simp, by unfold maxLen; omega, by simp, by simp [rcells]⟩⟩

theorem wpList_append_int {ops : Array Oper} {rest : List Oper} {o : Oper} {a : Act} {w : World} {Q : Exit → Act → World → Prop} (hgd : o.guard = none) (s x : Operand)
    (hop : o.op = Op.call { callee := Callee.builtin Builtin.append, args := #[s, x], argTypes := #[28, 28] }) (base : Nat) (v : Value) (xs : List Nat) (hs : a.eval s = v) (hown : NOwn w base v xs) (hb : base ≤ w.heap.size) (hl : xs.length ≤ 65536) (ad : Addr) (c : Nat) (y : Nat)
    (hx : a.eval x = .slice (some ad) 1 c) (hc : w.cell? ad = some (.int .i64 (y : Int)))
    (hK : ∀ v' w', NOwn w' base v' (xs ++ [y]) → w.grownBy w' v.ownBlock → wpList Try.prog ops Q rest (a.put o.dst v') w') :
    wpList Try.prog ops Q (o :: rest) a w := by
  obtain ⟨i0, hi, hz0, hz1, hz2⟩ := info_parts Try.infoInt
  refine wpList_append_own w hgd s x 28 hop base 3 i0 (.int .i64 0) 1 8 Try.underlying28 hi hz0 hz1 hz2 rfl (by decide) v xs.length (xs.map nv) hs hown ad 1 c [nv y] hx rfl ?_ ?_ (by unfold maxLen; omega) (by omega) hb ?_
  · intro j u hj
    match j with
    | 0 =>
      simp at hj
      subst hj
      simpa [Addr.add] using hc
    | j + 1 => simp at hj
  · intro u hu
    simp at hu
    subst hu
    rfl
  intro v' w' ho' hgr _
  refine hK v' w' ?_ hgr
  unfold NOwn
  rw [List.map_append, List.length_append]
  exact ho'

theorem Ints.kept {w w' : World} {v : Value} {l : List Int} (h : Ints w v l) (hg : w.grownBy w' none) : Ints w' v l := by
  obtain ⟨ao, cap, rfl, h1, h2, h3⟩ := h
  refine ⟨ao, cap, rfl, h1, h2, fun hne => ?_⟩
  obtain ⟨pb, off, e, hp, hc⟩ := h3 hne
  exact ⟨pb, off, e, by have := hg.size; omega, fun i hi => hg.cell (hc i hi) (by simp)⟩
theorem Ints.at {w : World} {ao : Option Addr} {n cap : Nat} {l : List Int} (h : Ints w (.slice ao n cap) l) {i : Nat} (hi : i < l.length) : ∃ b off, ao = some ⟨b, off, none⟩ ∧ w.cell? ⟨b, off + i, none⟩ = some (.int .i64 l[i]) ∧ I64 l[i] := by
  obtain ⟨ao', cap', e, _, h3, h4⟩ := h
  cases e
  obtain ⟨b, off, e2, _, h5⟩ := h4 (by rintro rfl; simp at hi)
  exact ⟨b, off, e2, h5 i hi, h3 _ (List.getElem_mem hi)⟩
theorem range_snoc (a m : Nat) : List.range' a (m + 1) = List.range' a m ++ [a + m] := by
  rw [List.range'_concat, Nat.one_mul]

/-- Where 'grown' stands. -/
structure GSt (w : World) (b i nx n : Nat) (vn vl : Value) (L : List Nat) (W : World) : Prop where
  node : NdAt W b n vn L
  list : NOwn W w.heap.size vl L
  grown : w.grownBy W none
  le : n ≤ 1199 * i
  nxle : nx ≤ L.length + 3 * i

def GPost (w : World) (e : Ending) (w' : World) : Prop := ∃ (b n : Nat) (vn vl : Value) (L : List Nat), e = .returned (.tuple #[.pointer (some ⟨b, 0, none⟩), vl, .bool true]) ∧ w.heap.size ≤ b ∧ NdAt w' b n vn L ∧ NOwn w' w.heap.size vl L ∧ n ≤ 23980 ∧ w.grownBy w' none
set_option maxRecDepth 20000 in
set_option maxHeartbeats 4000000 in
theorem grown_any (w : World) (vs : Value) (sz : List Int) (gap : Int) (hs : Ints w vs sz) (hgap : I64 gap) :
    Calls Try.prog 27 #[vs, .int .i64 gap] w (GPost w) := by
  have HI := hide hs
  obtain ⟨so, scap, rfl, hs1, _, _⟩ := hs
  obtain ⟨ns, hns⟩ : ∃ n, n = sz.length := ⟨_, rfl⟩
  rw [← hns] at hs1 HI ⊢
  have HNs := hide hns
  have hsi : (ns : Int) ≤ 9223372036854775807 := by omega
  obtain ⟨hg1, hg2⟩ := hgap
  clear hns
  go_enter Try.func27, Try.ntmps27
  go_wp2_with fail
  refine (New_any w).mono ?_
  rintro e w1 ⟨rfl, m1, g1⟩
  obtain ⟨b, hb⟩ : ∃ b, b = w.heap.size := ⟨_, rfl⟩
  rw [← hb] at m1 ⊢
  have HB : Hid (w.heap.size ≤ b) := hide (by omega)
  have HSt : Hid (GSt w b 0 0 0 (.slice none 0 0) (.slice none 0 0) [] w1) := hide ⟨m1, NOwn.nil _ _, g1, by omega, by simp⟩
  clear hb m1 g1
  go_wp2
  go_loopw [8, 9, 10] (fun a x i wr => ∃ (k nx n : Nat) (vn : Value) (L : List Nat), i = .int .i64 (k : Int) ∧ x = .int .i64 (nx : Int) ∧ k ≤ 20 ∧ GSt w b k nx n vn a L wr) (fun _ _ i _ => 20 - (intOf i).toNat)
  case atStart => exact ⟨0, 0, 0, _, [], rfl, rfl, by omega, unhide HSt⟩
  case round =>
    obtain ⟨k, nx, n, vn, L, rfl, rfl, hk, hst⟩ := hrel
    have ST := hide hst
    have hn1 := hst.le
    have hn2 := hst.nxle
    have hn3 := hst.node.small.1
    clear hst HSt
    by_cases hlt : k < ns ∧ k < 20
    · have hl1 : (k : Int) < (ns : Int) := by omega
      have hl2 : (k : Int) < 20 := by omega
      have hkl : k < sz.length := by rw [← unhide HNs]; exact hlt.1
      obtain ⟨pb, off, rfl, c0, i0⟩ := ((unhide HI).kept (unhide ST).grown).at hkl
      obtain ⟨s, hs0⟩ : ∃ s, s = sz[k] := ⟨_, rfl⟩
      rw [← hs0] at c0 i0
      clear hs0 hlt
      go_wp2_with fail
      refine (Pick_any s 1200 wr i0.1 i0.2 (by omega) (by omega)).mono ?_
      rintro e wr' ⟨m, rfl, hm, rfl⟩
      have hnm : n + m ≤ 32768 := by omega
      clear c0
      go_wp2_with fail
      refine (Need_ok wr b n vn L (unhide ST).node m hnm).mono ?_
      rintro e wr' ⟨rfl, rfl⟩
      have hd64 : bf (n + m) ≤ 64 := bf_le hnm
      obtain ⟨d, hd⟩ : ∃ d, d = bf (n + m) - bf n := ⟨_, rfl⟩
      rw [← hd]
      have HD := hide hd
      have hdle : d ≤ 64 := by omega
      clear hd
      by_cases hd0 : 0 < d
      · have hd0' : (0 : Int) < (d : Int) := by omega
        have hdI : (d : Int) ≤ 64 := by omega
        have hnI : (nx : Int) ≤ 124 := by omega
        have HW : Hid (w.grownBy (wr'.alloc (.cells #[.int .i64 (nx : Int), .int .i64 (d : Int)] 51)) none) := hide ((unhide ST).grown.trans (World.grownBy_alloc _ _ _))
        have HN0 := hide ((unhide ST).node.grown (World.grownBy_alloc wr' (.cells #[.int .i64 (nx : Int), .int .i64 (d : Int)] 51) none))
        have HL0 := hide ((unhide ST).list.grown (World.grownBy_alloc wr' (.cells #[.int .i64 (nx : Int), .int .i64 (d : Int)] 51) none))
        have HR0 := hide (ROwn.one wr' nx d)
        have HS0 := hide (unhide ST).grown.size
        clear ST
        go_wp2
        go_loopw [8, 15] (fun a i wi => ∃ j : Nat, i = .int .i64 (j : Int) ∧ j ≤ d ∧ NdAt wi b n vn L ∧ NOwn wi w.heap.size a (L ++ List.range' nx j) ∧ ROwn wi wr'.heap.size (.slice (some ⟨wr'.heap.size, 0, none⟩) 1 1) [(nx, d)] ∧ w.grownBy wi none) (fun _ i _ => d - (intOf i).toNat)
        case atStart => exact ⟨0, rfl, by omega, unhide HN0, by simpa using unhide HL0, unhide HR0, unhide HW⟩
        case round =>
          obtain ⟨j, rfl, hj, hN, hL, hR, hG⟩ := hrel
          have HN1 := hide hN
          have HL1 := hide hL
          have HR1 := hide hR
          have HG1 := hide hG
          clear hN hL hR hG HN0 HL0 HR0 HW
          by_cases hjl : j < d
          · have hjl' : (j : Int) < (d : Int) := by omega
            have hLl : (L ++ List.range' nx j).length ≤ 65536 := by simp; omega
            go_wp2_with (at_builtin; refine wpList_append_int rfl (.tmp 53) (.tmp 57) rfl w.heap.size _ (L ++ List.range' nx j) rfl ?ho ?hb2 hLl ⟨_, 0, none⟩ 1 (nx + j) rfl ?hc ?_)
            case ho => exact (unhide HL1).grown (World.grownBy_alloc _ _ _)
            case hb2 => have := (unhide HG1).size; simp; omega
            case hc => exact (cell_of_row _ _ _ _ _ _ (heap_alloc_new _ _)).trans rfl
            intro v2 w2 o2 g2
            have hN2 := ((unhide HN1).grown (World.grownBy_alloc _ _ _)).ints ((unhide HL1).grown (World.grownBy_alloc _ _ _)) g2
            have hR2 := ((unhide HR1).grown (World.grownBy_alloc _ _ _)).ints ((unhide HL1).grown (World.grownBy_alloc _ _ _)) g2
            have hG2 : w.grownBy w2 none := ((unhide HG1).trans (World.grownBy_alloc _ _ _)).andThen g2 (fun q e => .inl ((unhide HL1).row e).1)
            have hL2 : NOwn w2 w.heap.size v2 (L ++ List.range' nx (j + 1)) := by rw [range_snoc]; exact o2
            have N2 := hide hN2
            have R2 := hide hR2
            have G2 := hide hG2
            have L2 := hide hL2
            clear hN2 hR2 hG2 hL2 o2 g2 HN1 HL1 HR1 HG1
            go_wp2
            go_roundw
            case rel => exact ⟨j + 1, rfl, by omega, unhide N2, unhide L2, unhide R2, unhide G2⟩
            case measure => simp [intOf]; omega
          · have hjl' : ¬ (j : Int) < (d : Int) := by omega
            have hjd : j = d := by omega
            have hU : Rn wr (.slice (some ⟨wr'.heap.size, 0, none⟩) 1 1) ([(nx, d)].map toI) := (unhide HR1).rn (fun x hx => by simp at hx; subst hx; simp only; omega)
            have HU := hide hU
            clear hU
            go_wp2_with fail
            refine (Pick_any gap 4 wr hg1 hg2 (by omega) (by omega)).mono ?_
            rintro e wi' ⟨gp, rfl, hgp, rfl⟩
            go_wp2_with fail
            refine (Extend_ok wr b n m vn _ L [(nx, d)] (unhide HN1) hnm (unhide HU) (fun y hy => by simp at hy; subst hy; simp only; omega) (by rw [tot_cons, tot_nil]; exact unhide HD)).mono ?_
            rintro e w3 ⟨rfl, v3, m3, o3, g3⟩
            have ST3 : Hid (GSt w b (k + 1) (nx + d + gp) (n + m) v3 u8 (L ++ bks [(nx, d)]) w3) := hide {
              node := m3
              list := by
                have h := (unhide HL1).far (unhide HN1) g3
                rw [hjd] at h
                rw [bks_one]
                exact h
              grown := own_step (unhide HG1) (unhide HB) g3
              le := by omega
              nxle := by
                rw [bks_one]
                simp
                omega }
            clear m3 o3 g3 HN1 HL1 HR1 HG1 HU
            go_wp2
            go_roundw
            case rel => exact ⟨k + 1, nx + d + gp, n + m, v3, _, rfl, rfl, by omega, unhide ST3⟩
            case measure => simp [intOf]; omega
      · have hd0' : ¬ (0 : Int) < (d : Int) := by omega
        have hde : d = 0 := by omega
        subst hde
        go_wp2_with fail
        refine (Extend_ok wr' b n m vn _ L [] (unhide ST).node hnm (Rn.nil _) (fun y hy => by cases hy) (by rw [tot_nil]; exact unhide HD)).mono ?_
        rintro e w3 ⟨rfl, v3, m3, o3, g3⟩
        have ST3 : Hid (GSt w b (k + 1) nx (n + m) v3 u8 (L ++ bks []) w3) := hide {
          node := m3
          list := by
            have h := (unhide ST).list.far (unhide ST).node g3
            rw [bks_nil, List.append_nil]
            exact h
          grown := own_step (unhide ST).grown (unhide HB) g3
          le := by omega
          nxle := by
            rw [bks_nil]
            simp
            omega }
        clear m3 o3 g3 ST
        go_wp2
        go_roundw
        case rel => exact ⟨k + 1, nx, n + m, v3, _, rfl, rfl, by omega, unhide ST3⟩
        case measure => simp [intOf]; omega
    · have hout : ¬ ((k : Int) < (ns : Int) ∧ (k : Int) < 20) := by omega
      have HL : Hid (∀ K : Prop, ((¬ (k : Int) < (ns : Int)) → K) → (((k : Int) < (ns : Int) ∧ ¬ (k : Int) < 20) → K) → K) := hide (fun K h1 h2 => by
        by_cases e : (k : Int) < (ns : Int)
        · exact h2 ⟨e, fun h => hout ⟨e, h⟩⟩
        · exact h1 e)
      clear hlt hout
      refine unhide HL _ ?_ ?_
      all_goals intro hx
      all_goals try obtain ⟨hx1, hx2⟩ := hx
      all_goals go_wp2
      all_goals go_ret3
      all_goals exact ⟨b, n, vn, _, L, rfl, unhide HB, (unhide ST).node, (unhide ST).list, by omega, (unhide ST).grown⟩
end Go.Proofs.Ytikoegmpbjeadaa
