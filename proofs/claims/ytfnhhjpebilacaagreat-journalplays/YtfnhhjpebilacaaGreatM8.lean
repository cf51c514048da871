/-
  DERIVED. The document's log: the walk of a commit in which the device goes down.
-/
import Derived.Test.YtfnhhjpebilacaaGreatM7
import Derived.Test.YtfnhhjpebilacaaGreatM6
namespace Go.Proofs.YtfnhhjpebilacaaGreat
open Go.RowKit
set_option linter.unusedVariables false
set_option maxRecDepth 20000

def DownPost (w : World) (G : Nat → Prop) (rb nb mb nc mc : Nat) (now : Nat → List UInt8) (may : Nat → List (List UInt8)) (vs : Nat → Value) (ws : List (Int × List UInt8)) (e : Ending) (w' : World) : Prop := e = .returned (.int .i64 2) ∧ ∃ yv', RefAt w' G rb nb mb nc mc yv' true now may vs ∧ Kept G w w' ∧ WrsG w' (fun q => w.heap.size ≤ q ∧ q < w'.heap.size) yv' ws
/-- Where the copying stands. -/
structure WaySt (w : World) (G : Nat → Prop) (rb nb mb nc mc : Nat) (now : Nat → List UInt8) (may : Nat → List (List UInt8)) (vs : Nat → Value) (ws : List (Int × List UInt8)) (yv : Value) (xs : List (Int × Nat × Nat)) (j : Nat) (W : World) : Prop where
  ref : RefAt W G rb nb mb nc mc yv true now may vs
  kept : Kept G w W
  own : VOwn W w.heap.size yv xs
  dat : DV W w.heap.size xs (ws.take j)
theorem way_step {w W w2 w4 : World} {G : Nat → Prop} {rb nb mb nc mc : Nat} {now : Nat → List UInt8} {may : Nat → List (List UInt8)} {vs : Nat → Value} {ws : List (Int × List UInt8)} {yv v4 : Value} {xs : List (Int × Nat × Nat)} {j : Nat} (h : WaySt w G rb nb mb nc mc now may vs ws yv xs j W) (hj : j < ws.length) (hrb : rb < w.heap.size)
    (k : Int) (hke : k = ws[j].1) (g2 c2 : Nat) (s2 : Own w2 W.heap.size (.slice (some ⟨g2, 0, none⟩) 512 c2) ws[j].2) (b2 : Below W.heap.size W w2)
    (o4 : VOwn w4 w.heap.size v4 (xs ++ [(k, g2, c2)])) (g4 : (w2.alloc (.cells #[.int .i64 k, .slice (some ⟨g2, 0, none⟩) 512 c2] 42)).grownBy w4 yv.ownBlock) :
    WaySt w G rb nb mb nc mc now may vs ws v4 (xs ++ [(k, g2, c2)]) (j + 1) (w4.setCell ⟨rb, 2, none⟩ v4) ∧ w4.cell? ⟨rb, 2, none⟩ = some yv ∧ w4.frozen? ⟨rb, 2, none⟩ = false := by
  have zW := h.kept.size
  have z2 := b2.size
  have hB4 : Below W.heap.size W (w2.alloc (.cells #[.int .i64 k, .slice (some ⟨g2, 0, none⟩) 512 c2] 42)) := b2.alloc b2.size _
  have z4 := g4.size
  have z3 := hB4.size
  have hne : ∀ (q : Nat) (cs : Array Value) (t : TypeId), W.heap[q]? = some (.cells cs t (0, 0)) → t ≠ 42 → some q ≠ yv.ownBlock := fun q cs t hq ht e => by
    obtain ⟨_, cur, hc⟩ := h.own.row e.symm
    rw [hc] at hq
    simp only [Option.some.injEq, Obj.cells.injEq] at hq
    exact ht hq.2.1.symm
  have step : ∀ (q : Nat) (cs : Array Value) (t : TypeId), W.heap[q]? = some (.cells cs t (0, 0)) → t ≠ 42 → w4.heap[q]? = W.heap[q]? := fun q cs t hq ht => by
    have hl := lt_of_block hq
    rw [g4.block q (by omega) (hne q cs t hq ht)]
    exact hB4.block q hl
  have hrb4 : w4.heap[rb]? = _ := (step rb _ _ h.ref.blk (by decide)).trans h.ref.blk
  obtain ⟨q1, q2, cur2, q3⟩ := own_blk s2
  have hg2 : w4.heap[g2]? = w2.heap[g2]? := by
    rw [g4.block g2 (by simp; omega) (fun e => by
      obtain ⟨_, cur, hc⟩ := h.own.row e.symm
      have := lt_of_block hc
      omega), Below.heap_alloc _ _ _ q2]
  refine ⟨⟨?_, ?_, ?_, ?_⟩, (cell_of_row _ _ _ _ _ _ hrb4).trans rfl, frozen_of_row w4 rb 2 _ _ hrb4⟩
  · refine h.ref.stay (fun q cs t hq ht hr => ?_) ?_
    · rw [heap_setCell_other _ _ _ _ hr]; exact step q cs t hq ht
    · rw [heap_setCell_same w4 rb 2 _ _ v4 hrb4]; rfl
  · refine ⟨?_, ?_, ?_, ?_, fun p hp hn => ?_⟩
    · show w4.os = _; rw [g4.os, hB4.os, h.kept.os]
    · show w4.tape = _; rw [g4.tape, hB4.tape, h.kept.tape]
    · show w4.output = _; rw [g4.output, hB4.output, h.kept.output]
    · simp [World.setCell]; omega
    · have hpr : p ≠ rb := fun e => by subst e; exact hn h.ref.gr
      rw [heap_setCell_other _ _ _ _ hpr, g4.block p (by omega) (fun e => by have := (h.own.row e.symm).1; omega), hB4.block p (by omega)]
      exact h.kept.block p hp hn
  · refine o4.keptB fun q hq _ => heap_setCell_other _ _ _ _ fun (e : q = rb) => ?_
    have := (o4.row hq).1
    omega
  · rw [List.take_succ_eq_append_getElem hj]
    have e : ws[j] = (k, ws[j].2) := by rw [hke]
    rw [e]
    refine (h.dat.kept fun q cs hq => ?_).snoc _ _ _ _ (own_keep (own_from s2 zW) ?_)
    · by_cases hr : q = rb
      · subst hr; rw [h.ref.blk] at hq; simp only [Option.some.injEq, Obj.cells.injEq] at hq; exact absurd hq.2.1 (by decide)
      · rw [heap_setCell_other _ _ _ _ hr]; exact step q cs _ hq (by decide)
    · rw [heap_setCell_other _ _ _ _ (fun (e : g2 = rb) => by omega)]; exact hg2
theorem wr_cells (w : World) (x : Int) (q c : Nat) : ∀ j u, ([.int .i64 x, .slice (some ⟨q, 0, none⟩) 512 c] : List Value)[j]? = some u → (w.alloc (.cells #[.int .i64 x, .slice (some ⟨q, 0, none⟩) 512 c] 42)).cell? ((⟨w.heap.size, 0, none⟩ : Addr).add j) = some u := by
  intro j u hj
  rw [addr_add, Nat.zero_add, cell_of_row _ _ _ _ _ _ (heap_alloc_self _ _)]
  simpa using hj
set_option maxHeartbeats 8000000 in
theorem rCommit_down {w : World} {G : Nat → Prop} {rb nb mb nc mc : Nat} {yv : Value} {hf : Bool} {now : Nat → List UInt8} {may : Nat → List (List UInt8)} {vs : Nat → Value} (h : RefAt w G rb nb mb nc mc yv hf now may vs) (v : Value) (ws : List (Int × List UInt8)) (hV : WrsK w G v ws) (hl : ws.length ≤ 16) (hok : okW 44 ws) :
    Calls Tryz.prog 14 #[.pointer (some ⟨rb, 0, none⟩), v, .bool true] w (DownPost w G rb nb mb nc mc now may vs ws) := by
  have HR := hide h
  obtain ⟨ao, cap, rfl, hc1, hc2, hc4⟩ := hV
  obtain ⟨n, hn⟩ : ∃ n, n = ws.length := ⟨_, rfl⟩
  have HN := hide hn
  have H4 := hide hc4
  have HOK := hide hok
  rw [← hn] at hc1 hl ⊢
  have h16I : ¬ (16 : Int) < (n : Int) := by omega
  have HCELL : Hid (∀ (j : Nat) (hj : j < ws.length), ∃ g off ad c k, ao = some ⟨g, off, none⟩ ∧ k < 44 ∧ ((k : Nat) : Int) = ws[j].1 ∧ ∀ W, Kept G w W → W.cell? ⟨g, off + j * 2, none⟩ = some (.int .i64 ((k : Nat) : Int)) ∧ W.cell? ⟨g, off + j * 2 + 1, none⟩ = some (.slice (some ad) 512 c) ∧ Sl W (.slice (some ad) 512 c) ws[j].2) := hide (fun j hj => by
    obtain ⟨g, off, e5, hcc⟩ := unhide H4 (by omega)
    obtain ⟨a, c, q⟩ := hcc j hj
    have hb := unhide HOK _ (List.getElem_mem hj)
    cases a with
    | none =>
      obtain ⟨_, _, s1⟩ := q w (Kept.refl G w)
      have hl5 := s1.lenEq
      obtain ⟨_, _, e, _, _, h4⟩ := s1
      injection e with e1 e2 e3
      obtain ⟨_, _, e4, _⟩ := h4 (by omega)
      rw [← e1] at e4
      cases e4
    | some ad =>
      refine ⟨g, off, ad, c, ws[j].1.toNat, e5, by omega, by omega, fun W hk => ?_⟩
      obtain ⟨d0, d1, s1⟩ := q W hk
      exact ⟨by rw [d0]; congr 2; omega, d1, s1⟩)
  clear hc4 hok h hn
  go_enter Tryz.func14, Tryz.ntmps14
  go_wp2_with fail
  go_loopw [7, 8] (fun i _ W => ∃ (j : Nat), i = .int .i64 (j : Int) ∧ j ≤ n ∧ Hid (∃ nq, W = w.drewN nq)) (fun i _ _ => n - (intOf i).toNat)
  case atStart => exact ⟨0, rfl, Nat.zero_le _, hide ⟨0, rfl⟩⟩
  case round =>
    obtain ⟨j, rfl, hj, HW⟩ := hrel
    by_cases hlt : j < n
    · have hltI : (j : Int) < (n : Int) := by omega
      obtain ⟨g, off, ad, c, k, hao, hk44, hke, q⟩ := unhide HCELL j (by rw [← unhide HN]; exact hlt)
      subst hao
      obtain ⟨e0, e1, s1⟩ := q wr (by obtain ⟨nq, e⟩ := unhide HW; rw [e]; exact kept_drewN' _ _ _)
      have WR : Hid (∀ m, Calls Tryz.prog 35 #[.pointer (some ⟨rb, 0, none⟩), .int .i64 (k : Int), .slice (some ad) 512 c] (wr.drewN m) fun e w' => e = .returned (.int .i64 0) ∧ w' = wr.drewN m) := hide (fun m => by
        have := wrong_go (wr.drewN m) rb 44 nc (some ⟨nb, 0, none⟩) (by obtain ⟨nq, e⟩ := unhide HW; rw [e]; exact (unhide HR).head.1) (by decide) (k : Int) (some ad) 512 c (by decide)
        rw [show ((44 : Nat) : Int) = 44 from rfl, wrong512, if_pos (by omega)] at this
        exact this)
      clear q s1 hke
      go_wp2_with fail
      go_quiet ((go_at_call 35; exact Calls.quiet_of_same (unhide WR _)))
      go_wp2
      go_roundw
      case rel => exact ⟨j + 1, by go_num, by omega, hide (by obtain ⟨nq, e⟩ := unhide HW; exact ⟨_, by rw [e]; exact drewN_drewN w nq _⟩)⟩
      case measure => simp [intOf]; omega
    · have hltI : ¬ (j : Int) < (n : Int) := by omega
      have R1 : Hid (RefAt wr G rb nb mb nc mc yv hf now may vs) := hide ((unhide HR).same fun q _ => by obtain ⟨nq, e⟩ := unhide HW; rw [e]; rfl)
      have K1 : Hid (Kept G w wr) := hide (by obtain ⟨nq, e⟩ := unhide HW; rw [e]; exact kept_drewN' _ _ _)
      have hrbw : rb < w.heap.size := lt_of_block (unhide HR).blk
      have ST : Hid (WaySt w G rb nb mb nc mc now may vs ws (.slice none 0 0) [] 0 ((wr.setCell ⟨rb, 3, none⟩ (.bool true)).setCell ⟨rb, 2, none⟩ (.slice none 0 0))) := hide (by
        have hb0 := (unhide R1).blk
        have hb1 := heap_setCell_same wr rb 3 _ _ (.bool true) hb0
        have hb2 := heap_setCell_same _ rb 2 _ _ (.slice none 0 0) hb1
        refine ⟨(unhide R1).stay (fun q cs t hq ht hr => by rw [heap_setCell_other _ _ _ _ hr, heap_setCell_other _ _ _ _ hr]) (hb2.trans rfl), ?_, World.ownsRow_nil _ _ _ _, DV.nil _ _⟩
        exact ((unhide K1).trans (kept_set' wr (unhide R1).gr 3 _)).trans (kept_set' _ (unhide R1).gr 2 _))
      obtain ⟨h0, h1, h2, h3, h5⟩ := (unhide R1).head
      have lr := lt_of_block (unhide R1).blk
      obtain ⟨w1, hw1⟩ : ∃ w1, w1 = wr := ⟨_, rfl⟩
      rw [← hw1] at ST h0 h1 h2 h3 h5 lr ⊢
      clear HW HR hw1 R1 K1
      go_wp2_with fail
      obtain ⟨w2, hw2⟩ : ∃ w2, w2 = (w1.setCell ⟨rb, 3, none⟩ (.bool true)).setCell ⟨rb, 2, none⟩ (.slice none 0 0) := ⟨_, rfl⟩
      rw [← hw2] at ST ⊢
      clear hltI hlt hj h0 h1 h2 h3 h5 lr hw2
      go_loopw [9] (fun i W => ∃ (j : Nat) (yv' : Value) (xs : List (Int × Nat × Nat)), i = .int .i64 (j : Int) ∧ j ≤ n ∧ Hid (WaySt w G rb nb mb nc mc now may vs ws yv' xs j W)) (fun i _ => n - (intOf i).toNat)
      case atStart => exact ⟨0, _, [], rfl, Nat.zero_le _, ST⟩
      case round =>
        obtain ⟨j, yv', xs, rfl, hj, SJ⟩ := hrel
        clear ST
        by_cases hlt : j < n
        · have hltI : (j : Int) < (n : Int) := by omega
          have hjl : j < ws.length := by rw [← unhide HN]; exact hlt
          obtain ⟨g, off, ad, c, k, hao, hk44, hke, q⟩ := unhide HCELL j hjl
          subst hao
          obtain ⟨e0, e1, s1⟩ := q wr (unhide SJ).kept
          obtain ⟨h0, h1, h2, h3, h5⟩ := (unhide SJ).ref.head
          have lr := lt_of_block (unhide SJ).ref.blk
          have lg := World.block_lt_of_cell? wr _ e0
          simp only at lg
          have HQ : Hid (∀ W, Below wr.heap.size wr W → W.cell? ⟨rb, 2, none⟩ = some yv' ∧ W.cell? ⟨g, off + j * 2, none⟩ = some (.int .i64 ((k : Nat) : Int)) ∧ W.cell? ⟨g, off + j * 2 + 1, none⟩ = some (.slice (some ad) 512 c) ∧ Sl W (.slice (some ad) 512 c) ws[j].2) := hide (fun W b => ⟨(b.cell (p := ⟨rb, 2, none⟩) lr).trans h2, (b.cell (p := ⟨g, off + j * 2, none⟩) lg).trans e0, (b.cell (p := ⟨g, off + j * 2 + 1, none⟩) lg).trans e1, s1.below b (Nat.le_refl _)⟩)
          have HXL : Hid (xs.length ≤ 1048576) := hide (by
            have := (unhide SJ).dat.1
            rw [List.length_take] at this
            omega)
          have HZ : Hid (w.heap.size ≤ wr.heap.size) := hide (unhide SJ).kept.size
          obtain ⟨L, hL⟩ : ∃ L, L = ws[j].2 := ⟨_, rfl⟩
          have FN : Hid (∀ (w2 w4 : World) (v4 : Value) (g2 c2 : Nat), Own w2 wr.heap.size (.slice (some ⟨g2, 0, none⟩) 512 c2) L → Below wr.heap.size wr w2 → VOwn w4 w.heap.size v4 (xs ++ [((k : Int), g2, c2)]) → (w2.alloc (.cells #[.int .i64 (k : Int), .slice (some ⟨g2, 0, none⟩) 512 c2] 42)).grownBy w4 yv'.ownBlock → WaySt w G rb nb mb nc mc now may vs ws v4 (xs ++ [((k : Int), g2, c2)]) (j + 1) (w4.setCell ⟨rb, 2, none⟩ v4) ∧ w4.cell? ⟨rb, 2, none⟩ = some yv' ∧ w4.frozen? ⟨rb, 2, none⟩ = false) := hide (fun w2 w4 v4 g2 c2 a1 a2 a3 a4 => way_step (unhide SJ) hjl hrbw (k : Int) hke g2 c2 (by rw [← hL]; exact a1) a2 a3 a4)
          have HOW : Hid (∀ (w2 : World) (o : Obj), Below wr.heap.size wr w2 → VOwn (w2.alloc o) w.heap.size yv' xs) := hide (fun w2 o b2 => (unhide SJ).own.keptB fun q _ hq => (b2.alloc b2.size o).block q hq)
          rw [← hL] at HQ s1
          clear q hke hL SJ
          have HS1 := hide s1
          clear s1
          have BA : Hid (∀ o, Below wr.heap.size wr ((wr.alloc o).drew)) := hide (fun o => ((Below.refl _ _).alloc (Nat.le_refl _) o).drew)
          go_wp2_with fail
          go_region_law (first
            | (refine step_append_fresh rfl (.tmp 59) (.tmp 64) rfl _ rfl ad c L rfl ((unhide HQ _ (unhide BA _)).2.2.2) ?_
               intro g2 c2 w2 s2' b2'
               have B2 : Below wr.heap.size wr w2 := (unhide BA _).trans (b2'.mono (by simp [World.drew]))
               have S2 : Hid (Own w2 wr.heap.size (.slice (some ⟨g2, 0, none⟩) 512 c2) L) := hide (own_from s2' (by simp [World.drew]))
               obtain ⟨y1, y2, y3, y4⟩ := unhide HQ w2 B2
               have HB2 := hide B2
               have lr2 : rb < w2.heap.size := by have := B2.size; omega
               have lg2 : g < w2.heap.size := by have := B2.size; omega
               clear s2' b2' y4 B2)
            | (refine step_append_wr rfl (.tmp 53) (.tmp 67) rfl w.heap.size yv' xs rfl (unhide HOW w2 _ (unhide HB2)) (unhide HXL) (by have := unhide HZ; have := (unhide HB2).size; simp; omega) ⟨w2.heap.size, 0, none⟩ 1 ((k : Int), g2, c2) rfl (wr_cells w2 _ _ _) ?_
               intro v4 w4 o4 g4
               obtain ⟨ao4, n4, cap4, rfl⟩ : ∃ ao n c, v4 = .slice ao n c := by
                 obtain ⟨ao, cap, e, _⟩ := o4.form
                 exact ⟨_, _, _, e⟩
               obtain ⟨f4, r4, r5⟩ := unhide FN w2 w4 _ g2 c2 (unhide S2) (unhide HB2) o4 g4
               have F4 := hide f4
               clear o4 g4 f4)
            | (go_simp; go_wp2_with fail))
          all_goals
            go_wp2
            go_roundw
            case rel => exact ⟨j + 1, _, _, by go_num, by omega, F4⟩
            case measure => simp [intOf]; omega
        · have hltI : ¬ (j : Int) < (n : Int) := by omega
          have FIN : Hid (DownPost w G rb nb mb nc mc now may vs ws (.returned (.int .i64 2)) wr) := hide (by
            refine ⟨rfl, yv', (unhide SJ).ref, (unhide SJ).kept, ?_⟩
            have hd := (unhide SJ).dat
            rw [List.take_of_length_le (by have := unhide HN; omega)] at hd
            refine wrs_way (unhide SJ).own hd fun p hp => ?_
            obtain ⟨i, hi, rfl⟩ := List.mem_iff_getElem.1 hp
            obtain ⟨_, _, ad, c, k, _, hk, hke, q⟩ := unhide HCELL i hi
            have := (q w (Kept.refl G w)).2.2.lenEq
            exact ⟨this.symm, by omega, by omega⟩)
          clear SJ
          go_wp2
          go_ret
          exact unhide FIN
end Go.Proofs.YtfnhhjpebilacaaGreat

/-
  DERIVED. The document's log: what all blocks are behind a crash is told.
-/
namespace Go.Proofs.YtfnhhjpebilacaaGreat
open Go.RowKit
set_option linter.unusedVariables false
set_option maxRecDepth 20000

theorem rowForm {w : World} {e : TypeId} {v : Value} {n : Nat} {xs : List Value} (h : w.ownsRow 0 e 1 v n xs) : ∃ ao cap, v = .slice ao n cap ∧ n ≤ cap ∧ cap ≤ 9223372036854775807 ∧ ∀ i x, xs[i]? = some x → ∃ q, ao = some ⟨q, 0, none⟩ ∧ w.cell? ⟨q, i, none⟩ = some x := by
  have h1 := h.1
  rcases h.2 with ⟨rfl, h0⟩ | ⟨g, cap, cur, rfl, hb, hg, hn, hm, hs, ht⟩
  · refine ⟨none, 0, by rw [h0], by omega, by omega, fun i x hx => ?_⟩
    have := (List.getElem?_eq_some_iff.1 hx).1
    omega
  · refine ⟨some ⟨g, 0, none⟩, cap, rfl, hn, by unfold maxLen at hm; omega, fun i x hx => ⟨g, rfl, ?_⟩⟩
    exact (rowCell h i x hx).1
theorem bytes_eq {a b : ByteArray} (h : a = b) : (a.toList == b.toList) = true := by rw [h]; simp
theorem bytes_ne {a b : ByteArray} (h : a ≠ b) : (a.toList == b.toList) = false := by
  simp only [beq_eq_false_iff_ne, ne_eq]
  intro e
  rw [ByteArray.toList_eq, ByteArray.toList_eq] at e
  exact h (ByteArray.ext (Array.ext' e))
theorem wpList_append_strs {w : World} {ops : Array Oper} {rest : List Oper} {o : Oper} {a : Act} {Q : Exit → Act → World → Prop} (hgd : o.guard = none) (s x : Operand)
    (ho : o.op = .call { callee := .builtin .append, args := #[s, x], argTypes := #[49, 49] })
    (base : Nat) (v : Value) (hs : a.eval s = v) (hown : w.ownsRow base 9 1 v 0 [])
    (ad : Addr) (c : Nat) (f : Nat → List UInt8) (hx : a.eval x = .slice (some ad) 44 c) (hy : ∀ i, i < 44 → w.cell? (ad.add i) = some (sV (f i))) (hbase : base ≤ w.heap.size)
    (h : ∀ v' w', w'.ownsRow base 9 1 v' 44 ((List.range 44).map fun i => sV (f i)) → w.grownBy w' v.ownBlock → wpList Tryz.prog ops Q rest (a.put o.dst v') w') : wpList Tryz.prog ops Q (o :: rest) a w := by
  obtain ⟨i0, hi, hz0, hz1, hz2⟩ := info_parts infoS
  refine wpList_append_own w hgd s x 49 ho base 9 i0 (.string ByteArray.empty) 1 16 Tryz.underlying49 hi hz0 hz1 hz2 rfl (by decide) v 0 [] hs hown ad 44 c ((List.range 44).map fun i => sV (f i)) hx (by simp) ?_ ?_ (by unfold maxLen; omega) (by omega) hbase ?_
  · intro j u hj
    rw [List.getElem?_map] at hj
    by_cases hjl : j < 44
    · rw [List.getElem?_range hjl] at hj
      simp only [Option.map_some, Option.some.injEq] at hj
      rw [← hj]; exact hy j hjl
    · rw [List.getElem?_eq_none (by simp; omega)] at hj; cases hj
  · intro u hu
    obtain ⟨i, _, rfl⟩ := List.mem_map.1 hu
    rfl
  · intro v' w' ho' hgr _
    exact h v' w' (by simpa using ho') hgr
theorem row_empty (w : World) : (w.alloc (.cells #[] 9)).ownsRow w.heap.size 9 1 (.slice (some ⟨w.heap.size, 0, none⟩) 0 0) 0 [] := ⟨rfl, .inr ⟨w.heap.size, 0, #[], rfl, Nat.le_refl _, heap_alloc_new _ _, by simp, by unfold maxLen; omega, by simp, by simp⟩⟩
theorem rowSome {w : World} {base : Nat} {e : TypeId} {v : Value} {xs : List Value} (h : w.ownsRow base e 1 v 44 xs) : ∃ g cap, v = .slice (some ⟨g, 0, none⟩) 44 cap ∧ base ≤ g ∧ 44 ≤ cap ∧ cap ≤ 9223372036854775807 ∧ w.ownsRow 0 e 1 v 44 xs := by
  rcases h.2 with ⟨_, h0⟩ | ⟨g, cap, cur, rfl, hb, hg, hn, hm, hs, ht⟩
  · cases h0
  · exact ⟨g, cap, rfl, hb, hn, by unfold maxLen at hm; omega, h.1, .inr ⟨g, cap, cur, rfl, Nat.zero_le _, hg, hn, hm, hs, ht⟩⟩
theorem RefAt.belowR {w w' : World} {G : Nat → Prop} {rb nb mb nc mc : Nat} {yv : Value} {hf : Bool} {now : Nat → List UInt8} {may : Nat → List (List UInt8)} {vs : Nat → Value} (h : RefAt w G rb nb mb nc mc yv hf now may vs) (b : Below w.heap.size w w') : RefAt w' G rb nb mb nc mc yv hf now may vs :=
  h.stay (fun q cs t hq _ _ => b.block q (lt_of_block hq)) ((b.block rb (lt_of_block h.blk)).trans h.blk)
/-- What was wanted, while it is laid. -/
structure WantAt (w W : World) (wb wc : Nat) (f : Nat → List UInt8) : Prop where
  bel : Below w.heap.size w W
  low : w.heap.size ≤ wb
  row : W.ownsRow 0 9 1 (.slice (some ⟨wb, 0, none⟩) 44 wc) 44 ((List.range 44).map fun i => sV (f i))
theorem WantAt.set {w W : World} {wb wc : Nat} {f : Nat → List UInt8} (h : WantAt w W wb wc f) (k : Nat) (L : List UInt8) (W' : World) (hW : W' = W.drew.setCell ⟨wb, k, none⟩ (.string ⟨L.toArray⟩)) : WantAt w W' wb wc (updF f k L) := by
  have hr : W.drew.ownsRow 0 9 1 (.slice (some ⟨wb, 0, none⟩) 44 wc) 44 ((List.range 44).map fun i => sV (f i)) := h.row
  refine ⟨?_, h.low, ?_⟩
  · subst hW
    refine ⟨h.bel.os, h.bel.tape, h.bel.output, Nat.le_trans h.bel.size (by simp [World.setCell]), fun q hq => ?_⟩
    rw [heap_setCell_other _ _ _ _ (fun (e : q = wb) => by have := h.low; omega)]
    exact h.bel.block q hq
  · subst hW
    have := rowSet hr k (sV L)
    rw [range_upd (fun i => sV (f i)) k (sV L)] at this
    have e : (List.range 44).map (updF (fun i => sV (f i)) k (sV L)) = (List.range 44).map (fun i => sV (updF f k L i)) := List.map_congr_left fun i _ => by unfold updF; split <;> rfl
    rw [e] at this
    exact this
def capN (now nw : Nat → List UInt8) (j : Nat) : Nat → List UInt8 := fun n => if n < j then nw n else now n
theorem capN_step (now nw : Nat → List UInt8) (j : Nat) : updF (capN now nw j) j (nw j) = capN now nw (j + 1) := by
  funext n
  unfold updF capN
  by_cases e : n = j
  · subst e; rw [if_pos rfl, if_pos (by omega)]
  · by_cases h : n < j
    · rw [if_neg e, if_pos h, if_pos (by omega)]
    · rw [if_neg e, if_neg h, if_neg (by omega)]
theorem capN_zero (now nw : Nat → List UInt8) : capN now nw 0 = now := by funext n; simp [capN]
/-- Where the telling stands. -/
structure TellSt (w : World) (G H : Nat → Prop) (rb nb mb nc mc : Nat) (now' : Nat → List UInt8) (may' : Nat → List (List UInt8)) (vs' : Nat → Value) (W : World) : Prop where
  ref : RefAt W H rb nb mb nc mc (.slice none 0 0) false now' may' vs'
  kept : Kept G w W
  new : ∀ q, H q → G q ∨ (w.heap.size ≤ q ∧ q < W.heap.size)
  old : ∀ q, G q → H q
theorem TellSt.setNow {w W : World} {G H : Nat → Prop} {rb nb mb nc mc : Nat} {now' : Nat → List UInt8} {may' : Nat → List (List UInt8)} {vs' : Nat → Value} (h : TellSt w G H rb nb mb nc mc now' may' vs' W) (j : Nat) (L : List UInt8) (hn : G nb) (W' : World) (hW : W' = W.drew.setCell ⟨nb, j, none⟩ (.string ⟨L.toArray⟩)) : TellSt w G H rb nb mb nc mc (updF now' j L) may' vs' W' := by
  subst hW
  have hd : RefAt W.drew H rb nb mb nc mc (.slice none 0 0) false now' may' vs' := h.ref.same fun _ _ => rfl
  have kd : Kept G w W.drew := ⟨h.kept.os, h.kept.tape, h.kept.output, h.kept.size, h.kept.block⟩
  refine ⟨hd.setNow j L, kd.trans (kept_set' W.drew hn j _), fun q hq => ?_, h.old⟩
  have : (W.drew.setCell ⟨nb, j, none⟩ (.string ⟨L.toArray⟩)).heap.size = W.heap.size := by simp [World.setCell]
  rw [this]
  exact h.new q hq
theorem TellSt.cap {w wr : World} {G H : Nat → Prop} {rb nb mb nc mc : Nat} {now' : Nat → List UInt8} {may' : Nat → List (List UInt8)} {vs' : Nat → Value} (h : TellSt w G H rb nb mb nc mc now' may' vs' wr) (j : Nat) (hlt : j < 44) (L : List UInt8) (W2 : World) (hW2 : W2 = ((wr.setCell ⟨mb, j, none⟩ (.slice (some ⟨wr.heap.size, 0, none⟩) 1 1)).alloc (.cells #[.string ⟨L.toArray⟩] 9)).drew) :
    TellSt w G (fun q => H q ∨ q = wr.heap.size) rb nb mb nc mc now' (updF may' j [L]) (updF vs' j (.slice (some ⟨wr.heap.size, 0, none⟩) 1 1)) W2 := by
  obtain ⟨mcs, hmb⟩ := (rowL h.ref.mayR (q := mb) rfl).2
  have lm := (rowL h.ref.mayR (q := mb) rfl).1
  have zz := h.kept.size
  have f1 := h.ref.capped j hlt L (wr.alloc (.cells #[sV L] 9)) rfl rfl rfl rfl
  have he : ∀ q, W2.heap[q]? = ((wr.alloc (.cells #[sV L] 9)).setCell ⟨mb, j, none⟩ (.slice (some ⟨wr.heap.size, 0, none⟩) 1 1)).heap[q]? := fun q => by rw [hW2]; exact heap_comm wr mb j _ _ _ _ hmb q
  have hz : W2.heap.size = wr.heap.size + 1 := by rw [hW2]; simp [World.setCell, World.drew]
  have hgm := h.new mb h.ref.gm
  refine ⟨f1.same fun q _ => he q, ⟨by rw [hW2]; exact h.kept.os, by rw [hW2]; exact h.kept.tape, by rw [hW2]; exact h.kept.output, by omega, fun p hp hn => ?_⟩, fun q hq => ?_, fun q hq => .inl (h.old q hq)⟩
  · have hpm : p ≠ mb := fun e => by subst e; rcases hgm with h | h; exact hn h; omega
    rw [he p, heap_setCell_other _ _ _ _ hpm, Below.heap_alloc _ _ _ (by omega)]
    exact h.kept.block p hp hn
  · rw [hz]
    rcases hq with hq | hq
    · rcases h.new q hq with h | h
      · exact .inl h
      · exact .inr ⟨h.1, by omega⟩
    · exact .inr ⟨by omega, by omega⟩
def ToldPost (w : World) (G : Nat → Prop) (rb nb mb nc mc : Nat) (hf : Bool) (now nw : Nat → List UInt8) (may : Nat → List (List UInt8)) (ws : List (Int × List UInt8)) (e : Ending) (w' : World) : Prop := ∃ r : Bool, e = .returned (.bool r) ∧ (((∀ n, n < 44 → nw n ∈ may n) ∨ (hf = true ∧ ∀ n, n < 44 → over (prtW ws) now n = nw n)) → r = true) ∧ ∃ vs' H, RefAt w' H rb nb mb nc mc (.slice none 0 0) false nw (fun n => [nw n]) vs' ∧ Kept G w w' ∧ ∀ q, H q → G q ∨ (w.heap.size ≤ q ∧ q < w'.heap.size)
set_option maxHeartbeats 8000000 in
theorem Told_go {w : World} {G GW : Nat → Prop} {rb nb mb nc mc : Nat} {yv : Value} {hf : Bool} {now nw : Nat → List UInt8} {may : Nat → List (List UInt8)} {vs : Nat → Value} {ws : List (Int × List UInt8)} (h : RefAt w G rb nb mb nc mc yv hf now may vs) (hwy : WrsG w GW yv ws) (hGW : ∀ q, GW q → q < w.heap.size) (hok : okW 44 ws) (sb sc : Nat) (hsc : 44 ≤ sc) (hsc2 : sc ≤ 9223372036854775807)
    (hnw : ∀ W, Kept G w W → ∀ n, n < 44 → W.cell? ⟨sb, n, none⟩ = some (sV (nw n))) :
    Calls Tryz.prog 37 #[.pointer (some ⟨rb, 0, none⟩), .slice (some ⟨sb, 0, none⟩) 44 sc] w (ToldPost w G rb nb mb nc mc hf now nw may ws) := by
  have HR := hide h
  have HNW := hide hnw
  have HD0 : Hid (∀ nq, (w.drewN nq).cell? ⟨rb, 0, none⟩ = some (.slice (some ⟨nb, 0, none⟩) 44 nc) ∧ (w.drewN nq).cell? ⟨rb, 1, none⟩ = some (.slice (some ⟨mb, 0, none⟩) 44 mc) ∧ (w.drewN nq).cell? ⟨rb, 2, none⟩ = some yv ∧ (w.drewN nq).cell? ⟨rb, 3, none⟩ = some (.bool hf)) := hide (fun nq => ⟨h.head.1, h.head.2.1, h.head.2.2.1, h.head.2.2.2.1⟩)
  have hh0 := h.head.1
  have HWY := hide hwy
  have HGW := hide hGW
  have HOK := hide hok
  clear h hnw hwy hGW hok
  go_enter Tryz.func37, Tryz.ntmps37
  go_wp2_with fail
  clear hh0
  go_loopw [5, 6, 7, 8] (fun x5 i _ _ W => ∃ (j : Nat) (x : Bool), x5 = .bool x ∧ i = .int .i64 (j : Int) ∧ j ≤ 44 ∧ Hid (∃ nq, W = w.drewN nq) ∧ Hid ((∀ n, n < j → nw n ∈ may n) → x = true)) (fun _ i _ _ _ => 44 - (intOf i).toNat)
  case atStart => exact ⟨0, true, rfl, rfl, Nat.zero_le _, hide ⟨0, rfl⟩, hide (fun _ => rfl)⟩
  case round =>
    obtain ⟨j, x, rfl, rfl, hj, HW, HX⟩ := hrel
    by_cases hlt : j < 44
    · have hltI : (j : Int) < 44 := by omega
      obtain ⟨W0, hW0⟩ : ∃ W0, W0 = wr := ⟨_, rfl⟩
      rw [← hW0] at HW ⊢
      clear hW0
      obtain ⟨ao, mcap, hvs, m1, m2, hmc⟩ := rowForm ((unhide HR).rows j hlt)
      obtain ⟨nm, hnm⟩ : ∃ nm, nm = (may j).length := ⟨_, rfl⟩
      rw [← hnm] at hvs m1
      have HNM := hide hnm
      have HMC := hide hmc
      have HC1 : Hid (∀ W, (∃ nq, W = w.drewN nq) → W.cell? ⟨rb, 1, none⟩ = some (.slice (some ⟨mb, 0, none⟩) 44 mc) ∧ W.cell? ⟨mb, j, none⟩ = some (.slice ao nm mcap) ∧ W.cell? ⟨sb, j, none⟩ = some (.string ⟨(nw j).toArray⟩) ∧ ∀ (i : Nat) (L : List UInt8), (may j)[i]? = some L → ∃ q, ao = some ⟨q, 0, none⟩ ∧ W.cell? ⟨q, i, none⟩ = some (.string ⟨L.toArray⟩)) := hide (fun W e => by
        obtain ⟨nq, rfl⟩ := e
        refine ⟨(unhide HD0 nq).2.1, ?_, unhide HNW _ (kept_drewN' _ _ _) j hlt, fun i L hL => ?_⟩
        · rw [← hvs]; exact (rowCell (unhide HR).mayR j (vs j) (by rw [List.getElem?_map, List.getElem?_range hlt]; rfl)).1
        · exact unhide HMC i (sV L) (by rw [List.getElem?_map, hL]; rfl))
      have hnmI : (nm : Int) ≤ 9223372036854775807 := by omega
      clear hvs hmc hnm
      go_wp2_with fail
      go_loopw [7, 8] (fun x7 i W => ∃ (i' : Nat) (y : Bool), x7 = .bool y ∧ i = .int .i64 (i' : Int) ∧ i' ≤ nm ∧ Hid (∃ nq, W = w.drewN nq) ∧ Hid ((∃ k, k < i' ∧ (may j)[k]? = some (nw j)) → y = true)) (fun _ i _ => nm - (intOf i).toNat)
      case atStart => exact ⟨0, false, rfl, rfl, Nat.zero_le _, HW, hide (fun ⟨k, hk, _⟩ => by omega)⟩
      case round =>
        obtain ⟨i, y, rfl, rfl, hi, HWi, HY⟩ := hrel
        obtain ⟨c1, c2, c3, c4⟩ := unhide HC1 wr (unhide HWi)
        by_cases hil : i < nm
        · have hilI : (i : Int) < (nm : Int) := by omega
          obtain ⟨L, hL⟩ : ∃ L, (may j)[i]? = some L := ⟨_, List.getElem?_eq_getElem (by have := unhide HNM; omega)⟩
          obtain ⟨q, hao, c5⟩ := c4 i L hL
          subst hao
          have CD : Hid (∀ nq, (wr.drewN nq).cell? ⟨rb, 1, none⟩ = some (.slice (some ⟨mb, 0, none⟩) 44 mc)) := hide (fun nq => c1)
          clear c4
          have HL := hide hL
          clear hL
          obtain ⟨sa, hsa⟩ : ∃ sa, sa = (⟨L.toArray⟩ : ByteArray) := ⟨_, rfl⟩
          obtain ⟨sn, hsn⟩ : ∃ sn, sn = (⟨(nw j).toArray⟩ : ByteArray) := ⟨_, rfl⟩
          rw [← hsa] at c5
          rw [← hsn] at c3
          have HEQ : Hid (L = nw j ↔ sa = sn) := hide (by
            rw [hsa, hsn]
            exact ⟨fun e => by rw [e], fun e => by simpa using e⟩)
          clear hsa hsn
          have i0 : (0 : Int) ≤ (i : Int) := Int.natCast_nonneg _
          have j0 : (0 : Int) ≤ (j : Int) := Int.natCast_nonneg _
          cases y with
          | true =>
            go_wp2_with fail
            go_quiet (fail)
            go_wp2
            go_roundw
            case rel => exact ⟨i + 1, true, rfl, by go_num, by omega, hide (by obtain ⟨nq, e⟩ := unhide HWi; exact ⟨_, by rw [e]; exact drewN_drewN w nq _⟩), hide (fun _ => rfl)⟩
            case measure => simp [intOf]; omega
          | false =>
            have hb0 : Hid (¬ ∃ k, k < i ∧ (may j)[k]? = some (nw j)) := hide (fun he => by have := unhide HY he; cases this)
            by_cases he : sa = sn
            · have hee := bytes_eq he
              go_wp2_with fail
              go_quiet (fail)
              go_wp2
              go_roundw
              case rel => exact ⟨i + 1, true, by simp, by go_num, by omega, hide (by obtain ⟨nq, e⟩ := unhide HWi; exact ⟨_, by rw [e]; exact drewN_drewN w nq _⟩), hide (fun _ => rfl)⟩
              case measure => simp [intOf]; omega
            · have hee := bytes_ne he
              go_wp2_with fail
              go_quiet (fail)
              go_wp2
              go_roundw
              case rel => exact ⟨i + 1, false, by simp, by go_num, by omega, hide (by obtain ⟨nq, e⟩ := unhide HWi; exact ⟨_, by rw [e]; exact drewN_drewN w nq _⟩), hide (fun ⟨k, hk, hk2⟩ => by
                by_cases e : k < i
                · exact absurd ⟨k, e, hk2⟩ (unhide hb0)
                · obtain rfl : k = i := by omega
                  rw [unhide HL] at hk2
                  exact absurd ((unhide HEQ).1 (by simpa using hk2)) he)⟩
              case measure => simp [intOf]; omega
        · have hilI : ¬ (i : Int) < (nm : Int) := by omega
          have HX2 : Hid ((∀ n, n < j + 1 → nw n ∈ may n) → (x && y) = true) := hide (fun ha => by
            have e1 := unhide HX (fun n hn => ha n (by omega))
            have e2 : y = true := unhide HY (by
              obtain ⟨k, hk, hk2⟩ := List.mem_iff_getElem.1 (ha j (by omega))
              exact ⟨k, by have := unhide HNM; omega, by rw [List.getElem?_eq_getElem hk, hk2]⟩)
            rw [e1, e2]; rfl)
          clear c4
          cases x with
          | true =>
            go_wp2_with fail
            go_roundw
            case rel => exact ⟨j + 1, y, rfl, by go_num, by omega, HWi, hide (fun ha => by simpa using unhide HX2 ha)⟩
            case measure => simp [intOf]; omega
          | false =>
            go_wp2_with fail
            go_roundw
            case rel => exact ⟨j + 1, false, rfl, by go_num, by omega, HWi, hide (fun ha => by simpa using unhide HX2 ha)⟩
            case measure => simp [intOf]; omega
    · have hltI : ¬ (j : Int) < 44 := by omega
      have HX2 : Hid ((∀ n, n < 44 → nw n ∈ may n) → x = true) := hide (fun ha => unhide HX (fun n hn => ha n (by omega)))
      have BW : Hid (Below w.heap.size w wr) := hide (by obtain ⟨nq, e⟩ := unhide HW; rw [e]; exact below_drewN (Below.refl _ _) nq)
      obtain ⟨w1, hw1⟩ : ∃ w1, w1 = wr := ⟨_, rfl⟩
      rw [← hw1] at BW ⊢
      have R1 := hide ((unhide HR).belowR (unhide BW))
      obtain ⟨h0, h1, h2, h3, h5⟩ := (unhide R1).head
      have lr := lt_of_block (unhide R1).blk
      have ln := (rowL (unhide R1).nowR (q := nb) rfl).1
      have HCN : Hid (∀ i, i < 44 → (w1.alloc (.cells #[] 9)).cell? ((⟨nb, 0, none⟩ : Addr).add i) = some (sV (now i))) := hide (fun i hi => by
        rw [addr_add, Nat.zero_add]
        have := (rowCell (unhide R1).nowR i (sV (now i)) (by rw [List.getElem?_map, List.getElem?_range hi]; rfl)).1
        rw [← this]
        exact ((Below.refl _ _).alloc (Nat.le_refl _) _).cell (p := ⟨nb, i, none⟩) ln)
      clear HW HX hw1 hj hlt HD0
      go_wp2_with (at_builtin; refine wpList_append_strs rfl (.tmp 66) (.tmp 70) rfl w1.heap.size _ rfl (row_empty w1) ⟨nb, 0, none⟩ nc now rfl (unhide HCN) (by simp) ?_)
      intro v2 w2 o2 g2
      obtain ⟨wb, wc, rfl, hwb, hwc, hwc2, o2'⟩ := rowSome o2
      have W2 : Hid (WantAt w w2 wb wc now) := hide ⟨by
        have b1 : Below w.heap.size w (w1.alloc (.cells #[] 9)) := (unhide BW).alloc (unhide BW).size _
        refine ⟨g2.os.trans b1.os, g2.tape.trans b1.tape, g2.output.trans b1.output, Nat.le_trans b1.size g2.size, fun q hq => ?_⟩
        have := (unhide BW).size
        rw [g2.block q (by simp; omega) (fun e => by simp [Value.ownBlock] at e; omega)]
        exact b1.block q hq, by have := (unhide BW).size; omega, o2'⟩
      clear o2 g2 o2' hwb BW R1 h0 h1 h2 h3 h5 lr ln HCN
      obtain ⟨ao, wcap, hyv, y1, y2, y3, y4⟩ := unhide HWY w (SameG.refl _ _)
      clear y4 y3
      obtain ⟨n, hn⟩ : ∃ n, n = ws.length := ⟨_, rfl⟩
      rw [← hn] at hyv y1
      subst hyv
      have HN := hide hn
      clear hn
      have HRB : Hid (∀ W, Below w.heap.size w W → W.cell? ⟨rb, 2, none⟩ = some (.slice ao n wcap)) := hide (fun W b => ((unhide HR).belowR b).head.2.2.1)
      have hn2 : w2.cell? ⟨rb, 2, none⟩ = some (.slice ao n wcap) := unhide HRB w2 (unhide W2).bel
      have HCW : Hid (∀ (W : World) (j : Nat) (hj : j < ws.length), Below w.heap.size w W → ∃ g off a c k, ao = some ⟨g, off, none⟩ ∧ k < 44 ∧ k = ws[j].1.toNat ∧ W.cell? ⟨g, off + j * 2, none⟩ = some (.int .i64 ((k : Nat) : Int)) ∧ W.cell? ⟨g, off + j * 2 + 1, none⟩ = some (.slice a 512 c) ∧ Sl W.drew (.slice a 512 c) ws[j].2) := hide (fun W j hj b => by
        obtain ⟨ao', cap', e, _, _, _, h4⟩ := unhide HWY W.drew ⟨b.size, fun q hq => b.block q (unhide HGW q hq)⟩
        injection e with e1 e2 e3
        obtain ⟨g, off, e5, _, hc⟩ := h4 (by omega)
        obtain ⟨a, c, c0, c1, s1⟩ := hc j hj
        have hb := unhide HOK _ (List.getElem_mem hj)
        refine ⟨g, off, a, c, ws[j].1.toNat, e1.trans e5, by omega, rfl, ?_, c1, s1⟩
        rw [show W.cell? ⟨g, off + j * 2, none⟩ = W.drew.cell? ⟨g, off + j * 2, none⟩ from rfl, c0]; congr 2; omega)
      go_wp2_with fail
      clear hn2
      go_loopw [11] (fun i W => ∃ (j : Nat), i = .int .i64 (j : Int) ∧ j ≤ n ∧ Hid (WantAt w W wb wc (over (prtW (ws.take j)) now))) (fun i _ => n - (intOf i).toNat)
      case atStart => exact ⟨0, rfl, Nat.zero_le _, W2⟩
      case round =>
        obtain ⟨j, rfl, hj, WJ⟩ := hrel
        clear W2
        have hc2 : wr.cell? ⟨rb, 2, none⟩ = some (.slice ao n wcap) := unhide HRB wr (unhide WJ).bel
        by_cases hlt : j < n
        · have hltI : (j : Int) < (n : Int) := by omega
          have hjl : j < ws.length := by rw [← unhide HN]; exact hlt
          obtain ⟨g, off, a, c, k, hao, hk44, hke, e0, e1, s1⟩ := unhide HCW wr j hjl (unhide WJ).bel
          subst hao
          obtain ⟨L, hL⟩ : ∃ L, L = ws[j].2 := ⟨_, rfl⟩
          have cv := s1.str
          rw [← hL] at cv
          obtain ⟨n0, n1⟩ := rowCell (unhide WJ).row k (sV (over (prtW (ws.take j)) now k)) (by rw [List.getElem?_map, List.getElem?_range hk44]; rfl)
          have FN : Hid (∀ W', W' = wr.drew.setCell ⟨wb, k, none⟩ (.string ⟨L.toArray⟩) → WantAt w W' wb wc (over (prtW (ws.take (j + 1))) now)) := hide (fun W' e => by
            rw [over_take ws now j hjl, ← hL, ← hke]
            exact (unhide WJ).set k L W' e)
          obtain ⟨s, hs⟩ : ∃ s, s = (⟨L.toArray⟩ : ByteArray) := ⟨_, rfl⟩
          rw [← hs] at cv FN
          obtain ⟨old, hold⟩ : ∃ old, old = sV (over (prtW (ws.take j)) now k) := ⟨_, rfl⟩
          rw [← hold] at n0
          have hk44I : (k : Int) < 44 := by omega
          have hk0 : (0 : Int) ≤ (k : Int) := by omega
          clear s1 hke hs hL hold WJ
          go_wp2_with fail
          go_region
          all_goals
            go_wp2
            go_roundw
            case rel => exact ⟨j + 1, by go_num, by omega, hide (unhide FN _ rfl)⟩
            case measure => simp [intOf]; omega
        · have hltI : ¬ (j : Int) < (n : Int) := by omega
          have W3 : Hid (WantAt w wr wb wc (over (prtW ws) now)) := hide (by
            have := unhide WJ
            rw [List.take_of_length_le (by have := unhide HN; omega)] at this
            exact this)
          obtain ⟨w3, hw3⟩ : ∃ w3, w3 = wr := ⟨_, rfl⟩
          rw [← hw3] at W3 hc2 ⊢
          clear WJ hw3 hlt hj
          go_wp2_with fail
          clear hltI hc2
          obtain ⟨f3, hf3⟩ : ∃ f, f = over (prtW ws) now := ⟨_, rfl⟩
          rw [← hf3] at W3
          have HF3 := hide hf3
          clear hf3
          go_loopw [9, 12] (fun y i W => ∃ (j : Nat) (y' : Bool), y = .bool y' ∧ i = .int .i64 (j : Int) ∧ j ≤ 44 ∧ Hid (WantAt w W wb wc f3) ∧ Hid ((hf = true ∧ ∀ n, n < j → f3 n = nw n) → y' = true)) (fun _ i _ => 44 - (intOf i).toNat)
          case atStart => exact ⟨0, hf, rfl, rfl, by omega, W3, hide (fun h => h.1)⟩
          case round =>
            obtain ⟨j, y, rfl, rfl, hj, WJ, HY⟩ := hrel
            clear W3
            by_cases hlt : j < 44
            · have hltI : (j : Int) < 44 := by omega
              have j0 : (0 : Int) ≤ (j : Int) := Int.natCast_nonneg _
              have d1 : wr.cell? ⟨wb, j, none⟩ = some (.string ⟨(f3 j).toArray⟩) := (rowCell (unhide WJ).row j (sV (f3 j)) (by rw [List.getElem?_map, List.getElem?_range hlt]; rfl)).1
              have d2 : wr.cell? ⟨sb, j, none⟩ = some (.string ⟨(nw j).toArray⟩) := unhide HNW wr (Kept.of_below (unhide WJ).bel) j hlt
              obtain ⟨sa, hsa⟩ : ∃ sa, sa = (⟨(f3 j).toArray⟩ : ByteArray) := ⟨_, rfl⟩
              obtain ⟨sn, hsn⟩ : ∃ sn, sn = (⟨(nw j).toArray⟩ : ByteArray) := ⟨_, rfl⟩
              rw [← hsa] at d1
              rw [← hsn] at d2
              have HEQ : Hid (f3 j = nw j → sa = sn) := hide (fun e => by rw [hsa, hsn, e])
              have WD : Hid (∀ nq, WantAt w (wr.drewN nq) wb wc f3) := hide (fun nq => ⟨below_drewN (unhide WJ).bel nq, (unhide WJ).low, (unhide WJ).row⟩)
              clear hsa hsn WJ
              cases y with
              | false =>
                go_wp2_with fail
                go_quiet (fail)
                go_wp2
                go_roundw
                case rel => exact ⟨j + 1, false, rfl, by go_num, by omega, hide (unhide WD _), hide (fun h => unhide HY ⟨h.1, fun n hn => h.2 n (by omega)⟩)⟩
                case measure => simp [intOf]; omega
              | true =>
                by_cases he : sa = sn
                · have hee := bytes_eq he
                  go_wp2_with fail
                  go_quiet (fail)
                  go_wp2
                  go_roundw
                  case rel => exact ⟨j + 1, true, by simp, by go_num, by omega, hide (unhide WD _), hide (fun _ => rfl)⟩
                  case measure => simp [intOf]; omega
                · have hee := bytes_ne he
                  go_wp2_with fail
                  go_quiet (fail)
                  go_wp2
                  go_roundw
                  case rel => exact ⟨j + 1, false, by simp, by go_num, by omega, hide (unhide WD _), hide (fun h => absurd (unhide HEQ (h.2 j (by omega))) he)⟩
                  case measure => simp [intOf]; omega
            · have hltI : ¬ (j : Int) < 44 := by omega
              have HY2 : Hid ((hf = true ∧ ∀ n, n < 44 → f3 n = nw n) → y = true) := hide (fun h => unhide HY ⟨h.1, fun n hn => h.2 n (by omega)⟩)
              have HXY : Hid (((∀ n, n < 44 → nw n ∈ may n) ∨ (hf = true ∧ ∀ n, n < 44 → over (prtW ws) now n = nw n)) → (x || y) = true) := hide (fun h => by
                rcases h with h | h
                · rw [unhide HX2 h]; rfl
                · rw [unhide HY2 (by rw [unhide HF3]; exact h)]; simp)
              have B4 : Hid (Below w.heap.size w wr) := hide (unhide WJ).bel
              obtain ⟨w4, hw4⟩ : ∃ w4, w4 = wr := ⟨_, rfl⟩
              rw [← hw4] at B4 ⊢
              have R4 := hide ((unhide HR).belowR (unhide B4))
              have R5 : Hid (RefAt ((w4.setCell ⟨rb, 3, none⟩ (.bool false)).setCell ⟨rb, 2, none⟩ (.slice none 0 0)) G rb nb mb nc mc (.slice none 0 0) false now may vs ∧ Kept G w ((w4.setCell ⟨rb, 3, none⟩ (.bool false)).setCell ⟨rb, 2, none⟩ (.slice none 0 0))) := hide (by
                have hb0 := (unhide R4).blk
                have hb1 := heap_setCell_same w4 rb 3 _ _ (.bool false) hb0
                have hb2 := heap_setCell_same _ rb 2 _ _ (.slice none 0 0) hb1
                refine ⟨(unhide R4).stay (fun q cs t hq ht hr => by rw [heap_setCell_other _ _ _ _ hr, heap_setCell_other _ _ _ _ hr]) (hb2.trans rfl), ?_⟩
                exact ((Kept.of_below (unhide B4)).trans (kept_set' w4 (unhide R4).gr 3 _)).trans (kept_set' _ (unhide R4).gr 2 _))
              obtain ⟨h0, h1, h2, h3, h5⟩ := (unhide R4).head
              have lr := lt_of_block (unhide R4).blk
              clear WJ HY HY2 hw4 hlt hj R4 B4
              go_wp2_with fail
              clear h0 h1 h2 h3 h5 lr hltI
              obtain ⟨w5, hw5⟩ : ∃ w5, w5 = (w4.setCell ⟨rb, 3, none⟩ (.bool false)).setCell ⟨rb, 2, none⟩ (.slice none 0 0) := ⟨_, rfl⟩
              rw [← hw5] at R5 ⊢
              clear hw5
              have hgn : Hid (G nb) := hide (unhide HR).gn
              go_loopw [13] (fun i W => ∃ (j : Nat) (vs' : Nat → Value) (H : Nat → Prop), i = .int .i64 (j : Int) ∧ j ≤ 44 ∧ Hid (TellSt w G H rb nb mb nc mc (capN now nw j) (capM nw may j) vs' W)) (fun i _ => 44 - (intOf i).toNat)
              case atStart => exact ⟨0, vs, G, rfl, by omega, hide (by rw [capN_zero, capM_zero]; exact ⟨(unhide R5).1, (unhide R5).2, fun q hq => .inl hq, fun q hq => hq⟩)⟩
              case round =>
                obtain ⟨j, vs', H, rfl, hj, TJ⟩ := hrel
                clear R5
                by_cases hlt : j < 44
                · have hltI : (j : Int) < 44 := by omega
                  have j0 : (0 : Int) ≤ (j : Int) := Int.natCast_nonneg _
                  obtain ⟨h0, h1, h2, h3, h5⟩ := (unhide TJ).ref.head
                  have d2 : wr.cell? ⟨sb, j, none⟩ = some (.string ⟨(nw j).toArray⟩) := unhide HNW wr (unhide TJ).kept j hlt
                  obtain ⟨n0, n1⟩ := rowCell (unhide TJ).ref.nowR j (sV (capN now nw j j)) (by rw [List.getElem?_map, List.getElem?_range hlt]; rfl)
                  have T6 : Hid (∀ W', W' = wr.drew.setCell ⟨nb, j, none⟩ (.string ⟨(nw j).toArray⟩) → TellSt w G H rb nb mb nc mc (capN now nw (j + 1)) (capM nw may j) vs' W') := hide (fun W' e => by
                    rw [← capN_step]
                    exact (unhide TJ).setNow j (nw j) (unhide hgn) W' e)
                  obtain ⟨old, hold⟩ : ∃ old, old = sV (capN now nw j j) := ⟨_, rfl⟩
                  rw [← hold] at n0
                  obtain ⟨s, hs⟩ : ∃ s, s = (⟨(nw j).toArray⟩ : ByteArray) := ⟨_, rfl⟩
                  rw [← hs] at d2 T6
                  have HS := hide hs
                  clear TJ hold hs
                  go_wp2_with fail
                  go_region
                  all_goals
                    obtain ⟨w6, hw6⟩ : ∃ w6, w6 = (wr.setCell ⟨nb, j, none⟩ (.string s)).drew := ⟨_, rfl⟩
                    have T7 := hide (unhide T6 w6 (hw6.trans rfl))
                    rw [← hw6]
                    clear hw6 T6 h0 h1 h2 h3 h5 d2 n0 n1
                    obtain ⟨h0, h1, h2, h3, h5⟩ := (unhide T7).ref.head
                    have d2 : w6.cell? ⟨sb, j, none⟩ = some (.string ⟨(nw j).toArray⟩) := unhide HNW w6 (unhide T7).kept j hlt
                    rw [← unhide HS] at d2
                    obtain ⟨cm, nm2⟩ := rowCell (unhide T7).ref.mayR j (vs' j) (by rw [List.getElem?_map, List.getElem?_range hlt]; rfl)
                    have lm := (rowL (unhide T7).ref.mayR (q := mb) rfl).1
                    have ls := World.block_lt_of_cell? w6 _ d2
                    simp only at ls
                    have lr := lt_of_block (unhide T7).ref.blk
                    have FW : Hid (∀ W2 : World, W2 = ((w6.setCell ⟨mb, j, none⟩ (.slice (some ⟨w6.heap.size, 0, none⟩) 1 1)).alloc (.cells #[.string s] 9)).drew → TellSt w G (fun q => H q ∨ q = w6.heap.size) rb nb mb nc mc (capN now nw (j + 1)) (capM nw may (j + 1)) (updF vs' j (.slice (some ⟨w6.heap.size, 0, none⟩) 1 1)) W2) := hide (fun W2 e => by
                      rw [← capM_step]
                      exact (unhide T7).cap j hlt (nw j) W2 (by rw [← unhide HS]; exact e))
                    clear T7
                    go_wp2_with fail
                    go_region
                    all_goals
                      have F2 := hide (unhide FW _ rfl)
                      obtain ⟨W2, hW2⟩ : ∃ W2, W2 = ((w6.setCell ⟨mb, j, none⟩ (.slice (some ⟨w6.heap.size, 0, none⟩) 1 1)).alloc (.cells #[.string s] 9)).drew := ⟨_, rfl⟩
                      rw [← hW2] at F2 ⊢
                      clear FW hW2 cm nm2 h0 h1 h2 h3 h5 d2
                      go_wp2
                      go_roundw
                      case rel => exact ⟨j + 1, _, _, by go_num, by omega, F2⟩
                      case measure => simp [intOf]; omega
                · have hltI : ¬ (j : Int) < 44 := by omega
                  obtain rfl : j = 44 := by omega
                  have FIN : Hid (∃ vs' H, RefAt wr H rb nb mb nc mc (.slice none 0 0) false nw (fun n => [nw n]) vs' ∧ Kept G w wr ∧ ∀ q, H q → G q ∨ (w.heap.size ≤ q ∧ q < wr.heap.size)) := hide ⟨vs', H, (unhide TJ).ref.mayEq (fun i hi => by simp only [capN, if_pos hi]) (fun i hi => by simp only [capM, if_pos hi]), (unhide TJ).kept, (unhide TJ).new⟩
                  clear TJ
                  cases x with
                  | true =>
                    go_wp2
                    go_ret
                    exact ⟨_, rfl, fun _ => rfl, unhide FIN⟩
                  | false =>
                    go_wp2
                    go_ret
                    exact ⟨_, rfl, fun h => by simpa using unhide HXY h, unhide FIN⟩
end Go.Proofs.YtfnhhjpebilacaaGreat

/-
  DERIVED. An opening behind a crash, wherever it stops: the log it gives, or the device that is down and what it was.
-/
namespace Go.Proofs.YtfnhhjpebilacaaGreat
open Go.RowKit
set_option linter.unusedVariables false
set_option maxRecDepth 20000

theorem Pick_30' (p : Int) (w : World) (p1 : -9223372036854775808 ≤ p) (p2 : p < 9223372036854775808) :
    Calls Tryz.prog 29 #[.int .i64 p, .int .i64 30] w fun e w' => e = .returned (.int .i64 (pickR p 29 : Nat)) ∧ w = w' := Pick_eq p 29 w p1 p2 (by omega)
theorem Fuse_d' {w0 w : World} {b N : Nat} {G : Nat → Prop} {S : St} (h : RstD w0 w b N G S) (k : Int) (k1 : -9223372036854775808 ≤ k) (k2 : k < 9223372036854775808) :
    Calls Tryz.prog 15 #[.pointer (some ⟨b, 0, none⟩), .int .i64 k] w fun e w' => e = .returned (.int .i64 (if S.down then 2 else 0)) ∧ RstD w0 w' b N G (S.fuseK k) ∧ SameG G w w' := by
  obtain ⟨F, h1, h2⟩ := h
  refine (Fuse_run h1 k k1 k2).mono ?_
  rintro e w' ⟨rfl, r1, kk⟩
  have hs := kk.size
  exact ⟨rfl, ⟨F, r1, fun j hj => ⟨by have := (h2 j hj).1; omega, (h2 j hj).2⟩⟩, kk.size, fun q hq => kk.block q (h2 q hq).1 (h2 q hq).2⟩
/-- An opening, wherever it stops. -/
theorem Open_s {w0 w : World} {b N : Nat} {G : Nat → Prop} {S : St} {ns : List Nat} {c : Nat → List UInt8} (h : RstD w0 w b N G S) (hs : Sound S ns c) (hd : S.down = false) (hl : S.safe.length = 64) (hN : N < 400000) :
    Calls Tryz.prog 19 #[.pointer (some ⟨b, 0, none⟩)] w fun e w' => SameG G w w' ∧ ∃ T, T.safe.length = 64 ∧
      ((∃ lb, e = .returned (.tuple #[.pointer (some ⟨lb, 0, none⟩), .int .i64 0]) ∧ Rst w0 w' b lb (N + 100) G T false ∧ Quiet T c ∧ (∀ n, T.pend n = []) ∧ T.fused = S.fused) ∨
       (e = .returned (.tuple #[.pointer none, .int .i64 2]) ∧ RstD w0 w' b (N + 100) G T ∧ T.down = true ∧ ∀ cr, ∃ ns', Sound (T.crash cr) ns' c)) := by
  have ho := h.ops
  have hoc := open_cases hs hd fun U hU => by have := wait_le hs U hU; omega
  refine (Open_r h hs hN).mono ?_
  rintro e w' ⟨sg, hp⟩
  rcases hoc with ⟨T, t1, t2, t3, t4, t5⟩ | ⟨T, t1, t2, t3, t4⟩
  · rw [t1] at hp
    rcases hp with ⟨_, lb, rfl, r⟩ | ⟨hne, _⟩
    · exact ⟨sg, T, t4.trans hl, .inl ⟨lb, rfl, r, t2, t3, t5⟩⟩
    · exact absurd rfl hne
  · rw [t1] at hp
    rcases hp with ⟨he, _⟩ | ⟨_, rfl, r⟩
    · exact absurd (show (2 : Int) = 0 from he) (by decide)
    · exact ⟨sg, T, t3.trans hl, .inr ⟨rfl, r, t2, t4⟩⟩
/-- A row of strings of one's own, so many of them. -/
def SOwn (w : World) (base : Nat) (v : Value) (j : Nat) (f : Nat → List UInt8) : Prop := w.ownsRow base 9 1 v j ((List.range j).map fun i => sV (f i))
theorem SOwn.nil (w : World) (base : Nat) (f : Nat → List UInt8) : SOwn w base (.slice none 0 0) 0 f := World.ownsRow_nil w _ _ _
theorem SOwn.keptB {W W' : World} {base : Nat} {v : Value} {j : Nat} {f : Nat → List UInt8} (h : SOwn W base v j f) (hk : ∀ q, v.ownBlock = some q → q < W.heap.size → W'.heap[q]? = W.heap[q]?) : SOwn W' base v j f := by
  obtain ⟨h1, h2⟩ := h
  refine ⟨h1, ?_⟩
  rcases h2 with h2 | ⟨g, cap, cur, rfl, hb, hgb, r⟩
  · exact .inl h2
  · exact .inr ⟨g, cap, cur, rfl, hb, (hk g rfl (lt_of_block hgb)).trans hgb, r⟩
/-- A string is appended to them. -/
theorem wpList_append_str {w : World} {ops : Array Oper} {rest : List Oper} {o : Oper} {a : Act} {Q : Exit → Act → World → Prop} (hgd : o.guard = none) (s x : Operand)
    (ho : o.op = .call { callee := .builtin .append, args := #[s, x], argTypes := #[49, 49] })
    (base : Nat) (v : Value) (j : Nat) (f : Nat → List UInt8) (hs : a.eval s = v) (hown : SOwn w base v j f) (hj : j ≤ 1000)
    (ad : Addr) (c : Nat) (hx : a.eval x = .slice (some ad) 1 c) (hy : w.cell? ad = some (sV (f j))) (hbase : base ≤ w.heap.size)
    (h : ∀ v' w', SOwn w' base v' (j + 1) f → w.grownBy w' v.ownBlock → (v'.ownBlock = v.ownBlock ∨ v'.ownBlock = some w.heap.size) → wpList Tryz.prog ops Q rest (a.put o.dst v') w') : wpList Tryz.prog ops Q (o :: rest) a w := by
  obtain ⟨i0, hi, hz0, hz1, hz2⟩ := info_parts infoS
  refine wpList_append_own_at w hgd s x 49 ho base 9 i0 (.string ByteArray.empty) 1 16 Tryz.underlying49 hi hz0 hz1 hz2 rfl (by decide) v j _ hs hown ad 1 c [sV (f j)] hx (by simp) ?_ ?_ (by unfold maxLen; omega) (by omega) hbase ?_
  · intro i u hu
    match i with
    | 0 =>
      simp only [List.getElem?_cons_zero, Option.some.injEq] at hu
      rw [← hu]
      have e : ad.add 0 = ad := by cases ad; simp [Addr.add]
      rw [e]; exact hy
    | i + 1 => simp at hu
  · intro u hu
    obtain rfl : u = sV (f j) := by simpa using hu
    rfl
  · intro v' w' ho' hgr _ hat
    refine h v' w' ?_ hgr hat
    unfold SOwn
    rw [List.range_succ, List.map_append]
    exact ho'
end Go.Proofs.YtfnhhjpebilacaaGreat

/-
  DERIVED. A log whose device is down says so, till it is opened anew.
-/
namespace Go.Proofs.YtfnhhjpebilacaaGreat
open Go.RowKit
set_option linter.unusedVariables false
set_option maxRecDepth 20000

/-- up, the device being down. -/
theorem up_dn {w0 w : World} {b lb N : Nat} {G : Nat → Prop} {S : St} {dn : Bool} (h : Rst w0 w b lb N G S dn) (hd : S.down = true) :
    Calls Tryz.prog 23 #[.pointer (some ⟨lb, 0, none⟩)] w fun e w' => e = .returned (.int .i64 2) ∧ Rst w0 w' b lb N G S true ∧ SameG G w w' := by
  obtain ⟨F, hL, hG⟩ := h
  have hu := hL.upC
  rw [hd] at hu
  cases dn with
  | true =>
    refine (up_was w lb b _ hL.log).mono ?_
    rintro e w' ⟨rfl, rfl⟩
    have hx : LWs w0 w w b lb F N S true := ⟨hL, Kept.refl _ _⟩
    obtain ⟨r, g⟩ := (hx.setDown true).rst0 hG
    exact ⟨rfl, r, g⟩
  | false =>
    refine (up_down w lb b _ hL.log hu).mono ?_
    rintro e w' ⟨rfl, rfl⟩
    have hx : LWs w0 w w b lb F N S false := ⟨hL, Kept.refl _ _⟩
    obtain ⟨r, g⟩ := (hx.setDown true).rst0 hG
    exact ⟨rfl, r, g⟩
theorem Read_dn {w0 w : World} {b lb N : Nat} {G : Nat → Prop} {S : St} {dn : Bool} (h : Rst w0 w b lb N G S dn) (hd : S.down = true) (n : Int) :
    Calls Tryz.prog 8 #[.pointer (some ⟨lb, 0, none⟩), .int .i64 n] w fun e w' => e = .returned (.tuple #[.slice none 0 0, .int .i64 2]) ∧ Rst w0 w' b lb N G S true ∧ SameG G w w' := by
  have UP := hide (up_dn h hd)
  clear h hd
  go_enter Tryz.func8, Tryz.ntmps8
  go_wp2_with fail
  refine (unhide UP).mono ?_
  rintro e w1 ⟨rfl, r1, g1⟩
  have R1 := hide r1
  have G1 := hide g1
  clear r1 g1 UP
  go_wp2
  go_ret2
  exact ⟨rfl, unhide R1, unhide G1⟩
theorem Put_dn {w0 w : World} {b lb N : Nat} {G : Nat → Prop} {S : St} {dn : Bool} (h : Rst w0 w b lb N G S dn) (hd : S.down = true) (n : Int) (v : Value) :
    Calls Tryz.prog 9 #[.pointer (some ⟨lb, 0, none⟩), .int .i64 n, v] w fun e w' => e = .returned (.int .i64 2) ∧ Rst w0 w' b lb N G S true ∧ SameG G w w' := by
  have UP := hide (up_dn h hd)
  clear h hd
  go_enter Tryz.func9, Tryz.ntmps9
  go_wp2_with fail
  refine (unhide UP).mono ?_
  rintro e w1 ⟨rfl, r1, g1⟩
  have R1 := hide r1
  have G1 := hide g1
  clear r1 g1 UP
  go_wp2
  go_ret
  exact ⟨rfl, unhide R1, unhide G1⟩
theorem Commit_dn {w0 w : World} {b lb N : Nat} {G : Nat → Prop} {S : St} {dn : Bool} (h : Rst w0 w b lb N G S dn) (hd : S.down = true) (v : Value) :
    Calls Tryz.prog 11 #[.pointer (some ⟨lb, 0, none⟩), v] w fun e w' => e = .returned (.int .i64 2) ∧ Rst w0 w' b lb N G S true ∧ SameG G w w' := by
  have hb : Below w.heap.size w (w.alloc (.cells #[.pointer (some ⟨lb, 0, none⟩)] 25)) := (Below.refl _ _).alloc (Nat.le_refl _) _
  have UP := hide (up_dn (h.grown hb (H := G) fun j hj => .inl hj) hd)
  have HG : Hid (SameG G w (w.alloc (.cells #[.pointer (some ⟨lb, 0, none⟩)] 25))) := hide ⟨hb.size, fun q hq => hb.block q (by obtain ⟨F, _, k⟩ := h; exact (k q hq).1)⟩
  clear hb
  clear h hd
  go_enter Tryz.func11, Tryz.ntmps11
  go_wp2_with fail
  refine (unhide UP).mono ?_
  rintro e w1 ⟨rfl, r1, g1⟩
  have R1 := hide r1
  have G1 := hide g1
  clear r1 g1 UP
  go_wp2
  go_ret
  exact ⟨rfl, unhide R1, (unhide HG).trans (unhide G1)⟩
end Go.Proofs.YtfnhhjpebilacaaGreat

/-
  DERIVED. Writes: raw blocks, as blocks to be written, as they come.
-/
namespace Go.Proofs.YtfnhhjpebilacaaGreat
open Go.RowKit
set_option linter.unusedVariables false
set_option maxRecDepth 20000

/-- What Writes makes of a raw block. -/
def onR (o : On) : Int × List UInt8 := (o.n, headL o.head (fillL (UInt8.ofNat (pickR o.fill 255)) 512))
theorem onR_len (o : On) : (onR o).2.length = 512 := headL_len _ _
def WritesPost (w : World) (os : List On) (e : Ending) (w' : World) : Prop := ∃ u xs, e = .returned u ∧ WOwn w' w.heap.size u xs ∧ Dat w' w.heap.size xs (os.map onR) ∧ Below w.heap.size w w'
set_option maxHeartbeats 8000000 in
theorem Writes_own (w : World) (v : Value) (os : List On) (hv : OnL w v os) (hmax : os.length ≤ 4398046511000) :
    Calls Tryz.prog 12 #[v] w (WritesPost w os) := by
  have HV := hide hv
  obtain ⟨ao, cap, rfl, hc1, hc2, _⟩ := hv
  obtain ⟨n, hn⟩ : ∃ n, n = os.length := ⟨_, rfl⟩
  rw [← hn] at HV hc1 ⊢
  have HN := hide hn
  have hnI : (n : Int) ≤ 9223372036854775807 := by omega
  clear hn
  go_enter Tryz.func12, Tryz.ntmps12
  go_wp2_with fail
  go_loopw [3, 4] (fun u i wr => ∃ (j : Nat) (xs : List (Int × Nat)), i = .int .i64 (j : Int) ∧ j ≤ n ∧ Hid (WOwn wr w.heap.size u xs) ∧ Hid (Dat wr w.heap.size xs ((os.take j).map onR)) ∧ Hid (Below w.heap.size w wr)) (fun _ i _ => n - (intOf i).toNat)
  case atStart => exact ⟨0, [], rfl, by omega, hide (WOwn.nil _ _), hide (Dat.nil _ _), hide (Below.refl _ _)⟩
  case round =>
    obtain ⟨j, xs, rfl, hj, HO, HD, HB⟩ := hrel
    by_cases hlt : j < n
    · have hlt' : (j : Int) < (n : Int) := by omega
      · have hjo : j < os.length := by rw [← unhide HN]; exact hlt
        obtain ⟨ao', cap', e, _, _, h4⟩ := unhide HV
        injection e with e1 e2 e3
        clear e2 e3
        obtain ⟨g, off, hao, hgl, hcl⟩ := h4 (by omega)
        subst e1
        subst hao
        obtain ⟨d0, d1, d2, i0, i1⟩ := hcl j hjo
        have HTK : Hid ((os.take (j + 1)).map onR = (os.take j).map onR ++ [onR os[j]]) := hide (by
          rw [List.take_succ_eq_append_getElem hjo, List.map_append]; rfl)
        obtain ⟨o, ho⟩ : ∃ o, o = os[j] := ⟨_, rfl⟩
        rw [← ho] at d0 d1 d2 i0 i1 HTK
        have HW : Hid (∀ W, Below w.heap.size w W → W.cell? ⟨g, off + j * 3, none⟩ = some (.int .i64 o.n) ∧ W.cell? ⟨g, off + j * 3 + 1, none⟩ = some (.int .i64 o.fill) ∧ W.cell? ⟨g, off + j * 3 + 2, none⟩ = some (.string o.head)) := hide fun W hW => ⟨(hW.cell (p := ⟨g, _, none⟩) hgl).trans d0, (hW.cell (p := ⟨g, _, none⟩) hgl).trans d1, (hW.cell (p := ⟨g, _, none⟩) hgl).trans d2⟩
        obtain ⟨c0, c1, c2⟩ := unhide HW wr (unhide HB)
        have hxl : xs.length = j := by
          have := (unhide HD).1
          rw [this, List.length_map, List.length_take]
          omega
        have HXL : Hid (xs.length ≤ 4398046511000) := hide (by have := unhide HN; omega)
        have HSz : Hid (w.heap.size ≤ wr.heap.size) := hide (unhide HB).size
        have BK := hide (fun W => Block_any o.fill o.head W i1.1 i1.2)
        have HLn : Hid (onR o = (o.n, headL o.head (fillL (UInt8.ofNat (pickR o.fill 255)) 512))) := hide rfl
        obtain ⟨L, hL⟩ : ∃ L, L = headL o.head (fillL (UInt8.ofNat (pickR o.fill 255)) 512) := ⟨_, rfl⟩
        rw [← hL] at BK
        rw [← hL] at HLn
        clear hcl h4 d0 d1 d2 ho hxl i0 i1 hL
        obtain ⟨on, hon⟩ : ∃ x, x = o.n := ⟨_, rfl⟩
        obtain ⟨of, hof⟩ : ∃ x, x = o.fill := ⟨_, rfl⟩
        obtain ⟨oh, hoh⟩ : ∃ x, x = o.head := ⟨_, rfl⟩
        rw [← hon] at c0 HLn
        rw [← hof] at c1 BK
        rw [← hoh] at c2 BK
        rw [← hon, ← hof, ← hoh] at HW
        clear hon hof hoh
        have HFIN : Hid (∀ (w3 : World) (v4 : Value) (w4 : World), Below wr.heap.size wr w3 → w3.heap[wr.heap.size]? = some (.cells (L.map bv).toArray 5 (0, 0)) → WOwn w4 w.heap.size v4 (xs ++ [(on, wr.heap.size)]) → (w3.alloc (.cells #[.int .i64 on, wv wr.heap.size] 42)).grownBy w4 u3.ownBlock → Dat w4 w.heap.size (xs ++ [(on, wr.heap.size)]) ((os.take (j + 1)).map onR) ∧ Below w.heap.size w w4) := hide fun w3 v4 w4 b3 s3 o4 g4 => by
          have hB4 : Below wr.heap.size wr (w3.alloc (.cells #[.int .i64 on, wv wr.heap.size] 42)) := b3.alloc b3.size _
          have hne : ∀ (q : Nat) (cs : Array Value), wr.heap[q]? = some (.cells cs 5 (0, 0)) → some q ≠ u3.ownBlock := fun q cs hq e => by
            obtain ⟨_, cur, hc⟩ := (unhide HO).row e.symm
            rw [hc] at hq
            simp only [Option.some.injEq, Obj.cells.injEq] at hq
            exact absurd hq.2.1 (by decide)
          have hnew : some wr.heap.size ≠ u3.ownBlock := fun e => by
            obtain ⟨_, cur, hc⟩ := (unhide HO).row e.symm
            have := lt_of_block hc
            omega
          have hw3 : wr.heap.size < w3.heap.size := lt_of_block s3
          constructor
          · rw [unhide HTK, unhide HLn]
            refine Dat.snoc ((unhide HD).kept fun q cs hq => ?_) _ _ _ (unhide HSz) ?_
            · have hql := lt_of_block hq
              rw [g4.block q (by have := hB4.size; omega) (hne q cs hq)]
              exact hB4.block q hql
            · rw [g4.block _ (by simp; omega) hnew, Below.heap_alloc _ _ _ hw3]
              exact s3
          · refine ⟨?_, ?_, ?_, ?_, fun k hk => ?_⟩
            · rw [g4.os, hB4.os, (unhide HB).os]
            · rw [g4.tape, hB4.tape, (unhide HB).tape]
            · rw [g4.output, hB4.output, (unhide HB).output]
            · have := g4.size; have := hB4.size; have := unhide HSz; omega
            · have hz := unhide HSz
              rw [g4.block k (by have := hB4.size; omega) (fun e => by have := ((unhide HO).row e.symm).1; omega), hB4.block k (by omega)]
              exact (unhide HB).block k hk
        have HOW : Hid (∀ w3, Below wr.heap.size wr w3 → WOwn (w3.alloc (.cells #[.int .i64 on, wv wr.heap.size] 42)) w.heap.size u3 xs) := hide fun w3 b3 => (unhide HO).keptB fun q _ hq => ((b3.alloc b3.size (.cells #[.int .i64 on, wv wr.heap.size] 42)).block q hq)
        have HBD : Hid (Below w.heap.size w wr.drew) := hide (unhide HB).drew
        go_wp2_with fail
        go_region_law (first | (refine step_append_write rfl (.tmp 11) (.tmp 29) rfl w.heap.size u3 xs rfl (unhide HOW w3 b3) (unhide HXL) (unhide Z3) ⟨w3.heap.size, 0, none⟩ 1 (on, wr.heap.size) rfl (write_cells w3 _ _) ?_; intro v4 w4 o4 g4; have F4 := hide (unhide HFIN w3 v4 w4 b3 s3 o4 g4); have O4 := hide o4; clear o4 g4) | (go_simp; go_wp2_with (first | (go_at_call 10; refine (unhide BK _).mono ?_; rintro e w3 ⟨rfl, s3, b0⟩; have b3 : Below wr.heap.size wr w3 := after_drew b0; have cN3 : w3.cell? ⟨g, off + j * 3, none⟩ = some (.int .i64 on) := (unhide HW w3 ((unhide HB).trans (b3.mono (unhide HSz)))).1; have Z3 : Hid (w.heap.size ≤ (w3.alloc (.cells #[.int .i64 on, wv wr.heap.size] 42)).heap.size) := hide (by have := unhide HSz; have := b3.size; simp; omega); clear b0) | fail)))
        all_goals
          clear s3 b3
          go_wp2
          go_roundw
          case rel => exact ⟨j + 1, _, by go_num, by omega, O4, hide (unhide F4).1, hide (unhide F4).2⟩
          case measure => simp [intOf]; omega
    · have hlt' : ¬ (j : Int) < (n : Int) := by omega
      have HF : Hid (Dat wr w.heap.size xs (os.map onR)) := hide (by
        have hd := unhide HD
        rw [List.take_of_length_le (by have := unhide HN; omega)] at hd
        exact hd)
      go_wp2
      go_ret
      exact ⟨_, xs, rfl, unhide HO, unhide HF, unhide HB⟩
theorem Writes_go (w : World) (v : Value) (os : List On) (hv : OnL w v os) (hmax : os.length ≤ 4398046511000) (hin : ∀ o ∈ os, -9223372036854775808 ≤ o.n ∧ o.n ≤ 9223372036854775807) :
    Calls Tryz.prog 12 #[v] w fun e w' => ∃ u, e = .returned u ∧ WrsG w' (fun j => w.heap.size ≤ j ∧ j < w'.heap.size) u (os.map onR) ∧ Below w.heap.size w w' := by
  refine (Writes_own w v os hv hmax).mono ?_
  rintro e w' ⟨u, xs, rfl, ho, hd, hb⟩
  refine ⟨u, rfl, wrs_own ho hd fun p hp => ?_, hb⟩
  obtain ⟨o, h, rfl⟩ := List.mem_map.1 hp
  exact ⟨onR_len o, hin o h⟩
end Go.Proofs.YtfnhhjpebilacaaGreat

/-
  DERIVED. The document's log, as it is made: row by row.
-/
namespace Go.Proofs.YtfnhhjpebilacaaGreat
open Go.RowKit
set_option linter.unusedVariables false
set_option maxRecDepth 20000

def zL : List UInt8 := List.replicate 512 0
def zS : ByteArray := ⟨zL.toArray⟩
/-- The document's log, so many rows of it made. -/
structure RefN (w : World) (B rb jn jm : Nat) (nv mv : Value) (vs : Nat → Value) : Prop where
  blk : w.heap[rb]? = some (.cells #[nv, mv, .slice none 0 0, .bool false] 52 (0, 0))
  nowR : w.ownsRow 0 9 1 nv jn (List.replicate jn (.string zS))
  mayR : w.ownsRow 0 49 1 mv jm ((List.range jm).map vs)
  rows : ∀ i, i < jm → w.ownsRow 0 9 1 (vs i) 1 [.string zS]
  lr : B ≤ rb
  ln : ∀ q, nv.ownBlock = some q → B ≤ q
  lm : ∀ q, mv.ownBlock = some q → B ≤ q
  lv : ∀ i q, i < jm → (vs i).ownBlock = some q → B ≤ q
  apart : ∀ i j q, i < jm → j < jm → (vs i).ownBlock = some q → (vs j).ownBlock = some q → i = j
  napart : ∀ i q, i < jm → (vs i).ownBlock = some q → nv.ownBlock ≠ some q
theorem RefN.kinds {w : World} {B rb jn jm : Nat} {nv mv : Value} {vs : Nat → Value} (h : RefN w B rb jn jm nv mv vs) :
    nv.ownBlock ≠ some rb ∧ mv.ownBlock ≠ some rb ∧ (∀ q, nv.ownBlock = some q → mv.ownBlock ≠ some q) ∧ ∀ i q, i < jm → (vs i).ownBlock = some q → q ≠ rb ∧ mv.ownBlock ≠ some q := by
  have hr := h.blk
  refine ⟨fun e => ?_, fun e => ?_, fun q e1 e2 => ?_, fun i q hi hq => ⟨fun e => ?_, fun e => ?_⟩⟩
  · obtain ⟨_, c, g⟩ := rowL h.nowR e; rw [g] at hr; simp only [Option.some.injEq, Obj.cells.injEq] at hr; exact absurd hr.2.1 (by decide)
  · obtain ⟨_, c, g⟩ := rowL h.mayR e; rw [g] at hr; simp only [Option.some.injEq, Obj.cells.injEq] at hr; exact absurd hr.2.1 (by decide)
  · obtain ⟨_, c, g⟩ := rowL h.nowR e1; obtain ⟨_, c2, g2⟩ := rowL h.mayR e2; rw [g] at g2; simp only [Option.some.injEq, Obj.cells.injEq] at g2; exact absurd g2.2.1 (by decide)
  · subst e; obtain ⟨_, c, g⟩ := rowL (h.rows i hi) hq; rw [g] at hr; simp only [Option.some.injEq, Obj.cells.injEq] at hr; exact absurd hr.2.1 (by decide)
  · obtain ⟨_, c, g⟩ := rowL (h.rows i hi) hq; obtain ⟨_, c2, g2⟩ := rowL h.mayR e; rw [g] at g2; simp only [Option.some.injEq, Obj.cells.injEq] at g2; exact absurd g2.2.1 (by decide)
theorem RefN.grown {w w' : World} {B rb jn jm : Nat} {nv mv : Value} {vs : Nat → Value} (h : RefN w B rb jn jm nv mv vs) (hb : ∀ q, q < w.heap.size → w'.heap[q]? = w.heap[q]?) : RefN w' B rb jn jm nv mv vs :=
  { h with
    blk := (hb rb (lt_of_block h.blk)).trans h.blk
    nowR := rowF h.nowR fun q _ hl => hb q hl
    mayR := rowF h.mayR fun q _ hl => hb q hl
    rows := fun i hi => rowF (h.rows i hi) fun q _ hl => hb q hl }
theorem set_rlog (w : World) (rb : Nat) (a b c d x : Value) (t : TypeId) (h : w.heap[rb]? = some (.cells #[a, b, c, d] t (0, 0))) : (w.setCell ⟨rb, 0, none⟩ x).heap[rb]? = some (.cells #[x, b, c, d] t (0, 0)) ∧ (w.setCell ⟨rb, 1, none⟩ x).heap[rb]? = some (.cells #[a, x, c, d] t (0, 0)) := by
  constructor
  · rw [heap_setCell_same w rb 0 _ _ _ h]; rfl
  · rw [heap_setCell_same w rb 1 _ _ _ h]; rfl
/-- One block more. -/
theorem RefN.stepNow {w W : World} {B rb jn jm : Nat} {nv mv : Value} {vs : Nat → Value} (h : RefN w B rb jn jm nv mv vs) (hB : B ≤ w.heap.size) (v : Value) (hg : w.grownBy W nv.ownBlock) (hv : W.ownsRow 0 9 1 v (jn + 1) (List.replicate jn (.string zS) ++ [.string zS])) (hat : ∀ q, v.ownBlock = some q → nv.ownBlock = some q ∨ w.heap.size ≤ q) :
    RefN (W.setCell ⟨rb, 0, none⟩ v) B rb (jn + 1) jm v mv vs := by
  obtain ⟨k1, k2, k3, k4⟩ := h.kinds
  have lr := lt_of_block h.blk
  have ho : ∀ q, q ≠ rb → (W.setCell ⟨rb, 0, none⟩ v).heap[q]? = W.heap[q]? := fun q hq => heap_setCell_other _ _ _ _ hq
  have hrb : W.heap[rb]? = some (.cells #[nv, mv, .slice none 0 0, .bool false] 52 (0, 0)) := (hg.block rb lr fun e => k1 e.symm).trans h.blk
  have hvr : ∀ q, v.ownBlock = some q → q ≠ rb := fun q hq e => by
    subst e
    rcases hat q hq with h1 | h1
    · exact k1 h1
    · omega
  refine { blk := (set_rlog W rb _ _ _ _ v _ hrb).1, nowR := ?_, mayR := ?_, rows := ?_, lr := h.lr, ln := ?_, lm := h.lm, lv := h.lv, apart := h.apart, napart := ?_ }
  · rw [List.replicate_succ']
    exact rowF hv fun q hq _ => ho q (hvr q hq)
  · exact rowF h.mayR fun q hq hl => (ho q fun e => k2 (e ▸ hq)).trans (hg.block q hl fun e => k3 q e.symm hq)
  · intro i hi
    exact rowF (h.rows i hi) fun q hq hl => (ho q (k4 i q hi hq).1).trans (hg.block q hl fun e => h.napart i q hi hq e.symm)
  · intro q hq
    rcases hat q hq with h1 | h1
    · exact h.ln q h1
    · omega
  · intro i q hi hq e
    rcases hat q e with h1 | h1
    · exact h.napart i q hi hq h1
    · have := (rowL (h.rows i hi) hq).1; omega
/-- One block's list more. -/
theorem RefN.stepMay {w w1 W : World} {B rb jn jm : Nat} {nv mv : Value} {vs : Nat → Value} (h : RefN w B rb jn jm nv mv vs) (hB : B ≤ w.heap.size) (hw : w.heap.size ≤ w1.heap.size) (hb : ∀ q, q < w.heap.size → w1.heap[q]? = w.heap[q]?) (x : Nat) (hx : w.heap.size ≤ x) (hx1 : w1.heap[x]? = some (.cells #[.string zS] 9 (0, 0))) (v : Value) (hg : w1.grownBy W mv.ownBlock)
    (hv : W.ownsRow 0 49 1 v (jm + 1) ((List.range jm).map vs ++ [.slice (some ⟨x, 0, none⟩) 1 1])) (hat : ∀ q, v.ownBlock = some q → mv.ownBlock = some q ∨ w1.heap.size ≤ q) :
    RefN (W.setCell ⟨rb, 1, none⟩ v) B rb jn (jm + 1) nv v (updF vs jm (.slice (some ⟨x, 0, none⟩) 1 1)) := by
  have lr := lt_of_block h.blk
  have hl1 := lt_of_block hx1
  obtain ⟨k1, k2, k3, k4⟩ := h.kinds
  have ho : ∀ q, q ≠ rb → (W.setCell ⟨rb, 1, none⟩ v).heap[q]? = W.heap[q]? := fun q hq => heap_setCell_other _ _ _ _ hq
  have hmv : ∀ q, mv.ownBlock = some q → q < w.heap.size := fun q hq => (rowL h.mayR hq).1
  have hkeep : ∀ q, q < w.heap.size → mv.ownBlock ≠ some q → W.heap[q]? = w.heap[q]? := fun q hq hn => (hg.block q (by omega) fun e => hn e.symm).trans (hb q hq)
  have hrb := (hkeep rb lr k2).trans h.blk
  have hvr : ∀ q, v.ownBlock = some q → q ≠ rb := fun q hq e => by
    subst e
    rcases hat q hq with h1 | h1
    · exact k2 h1
    · omega
  have hxW : W.heap[x]? = some (.cells #[.string zS] 9 (0, 0)) := (hg.block x hl1 fun e => by have := hmv x e.symm; omega).trans hx1
  refine { blk := (set_rlog W rb _ _ _ _ v _ hrb).2, nowR := ?_, mayR := ?_, rows := ?_, lr := h.lr, ln := h.ln, lm := ?_, lv := ?_, apart := ?_, napart := ?_ }
  · exact rowF h.nowR fun q hq hl => (ho q fun e => k1 (e ▸ hq)).trans (hkeep q hl fun e => k3 q hq e)
  · have e : (List.range (jm + 1)).map (updF vs jm (.slice (some ⟨x, 0, none⟩) 1 1)) = (List.range jm).map vs ++ [.slice (some ⟨x, 0, none⟩) 1 1] := by
      rw [List.range_succ, List.map_append]
      congr 1
      · apply List.map_congr_left
        intro i hi
        have := List.mem_range.1 hi
        unfold updF
        rw [if_neg (by omega)]
      · simp [updF]
    rw [e]
    exact rowF hv fun q hq _ => ho q (hvr q hq)
  · intro i hi
    by_cases e : i = jm
    · subst e
      simp only [updF, if_true]
      refine rowF (w := W) ⟨rfl, .inr ⟨x, 1, _, rfl, Nat.zero_le _, hxW, Nat.le_refl _, by unfold maxLen; omega, rfl, rfl⟩⟩ fun q hq _ => ho q ?_
      cases hq
      show x ≠ rb
      omega
    · simp only [updF, if_neg e]
      exact rowF (h.rows i (by omega)) fun q hq hl => (ho q (k4 i q (by omega) hq).1).trans (hkeep q hl (k4 i q (by omega) hq).2)
  · intro q hq
    rcases hat q hq with h1 | h1
    · exact h.lm q h1
    · omega
  · intro i q hi hq
    by_cases e : i = jm
    · simp only [updF, if_pos e] at hq; cases hq; show B ≤ x; omega
    · simp only [updF, if_neg e] at hq; exact h.lv i q (by omega) hq
  · intro i j q hi hj hq hq'
    have key : ∀ t, t < jm → (vs t).ownBlock = some q → (Value.slice (some ⟨x, 0, none⟩) 1 1).ownBlock = some q → False := fun t ht h1 h2 => by
      cases h2
      have := (rowL (h.rows t ht) h1).1
      have : x < w.heap.size := this
      omega
    by_cases e : i = jm
    · by_cases e' : j = jm
      · rw [e, e']
      · simp only [updF, if_pos e] at hq
        simp only [updF, if_neg e'] at hq'
        exact (key j (by omega) hq' hq).elim
    · by_cases e' : j = jm
      · simp only [updF, if_neg e] at hq
        simp only [updF, if_pos e'] at hq'
        exact (key i (by omega) hq hq').elim
      · simp only [updF, if_neg e] at hq
        simp only [updF, if_neg e'] at hq'
        exact h.apart i j q (by omega) (by omega) hq hq'
  · intro i q hi hq e2
    by_cases e : i = jm
    · simp only [updF, if_pos e] at hq
      cases hq
      have := (rowL h.nowR e2).1
      have : x < w.heap.size := this
      omega
    · simp only [updF, if_neg e] at hq; exact h.napart i q (by omega) hq e2
/-- All of it. -/
theorem RefN.whole {w : World} {B rb : Nat} {nv mv : Value} {vs : Nat → Value} (h : RefN w B rb 44 44 nv mv vs) :
    ∃ nb mb nc mc, RefAt w (fun j => B ≤ j ∧ j < w.heap.size) rb nb mb nc mc (.slice none 0 0) false (fun _ => zL) (fun _ => [zL]) vs := by
  have n1 := h.nowR
  have m1 := h.mayR
  rcases h.nowR.2 with ⟨_, h0⟩ | ⟨nb, nc, cn, rfl, _⟩
  · omega
  rcases h.mayR.2 with ⟨_, h0⟩ | ⟨mb, mc, cm, rfl, _⟩
  · omega
  refine ⟨nb, mb, nc, mc, { blk := h.blk, nowR := ?_, mayR := m1, rows := fun i hi => h.rows i hi, gr := ⟨h.lr, lt_of_block h.blk⟩, gn := ⟨h.ln _ rfl, (rowL n1 rfl).1⟩, gm := ⟨h.lm _ rfl, (rowL m1 rfl).1⟩, gv := fun i q hi hq => ⟨h.lv i q hi hq, (rowL (h.rows i hi) hq).1⟩, apart := h.apart, napart := fun i q hi hq e => ?_ }⟩
  · have e : (List.range 44).map (fun _ => sV zL) = List.replicate 44 (.string zS) := by
      rw [List.map_const']; simp only [List.length_range]; rfl
    rw [e]; exact n1
  · subst e; exact h.napart i q hi hq rfl
end Go.Proofs.YtfnhhjpebilacaaGreat

/-
  DERIVED. The document's log is made.
-/
namespace Go.Proofs.YtfnhhjpebilacaaGreat
open Go.RowKit
set_option linter.unusedVariables false
set_option maxRecDepth 20000

theorem infoSS : (Tryz.prog.info? 49).map (fun i => (i.zero, i.size, i.bytes)) = some (some (.slice none 0 0), 1, 24) := by kernel_rfl
theorem Noughts_z (w : World) : Calls Tryz.prog 22 #[] w fun e w' => e = .returned (.string zS) ∧ Below w.heap.size w w' := Noughts_s w
theorem new_a {w wr w3 W : World} {rb j : Nat} {nv mv : Value} {vs : Nat → Value} (h : RefN wr w.heap.size rb j j nv mv vs) (hb : Below w.heap.size w wr) (b3 : Below wr.heap.size wr w3) (gg cap2 : Nat) (hown : W.ownsRow 0 9 1 (.slice (some ⟨gg, 0, none⟩) (j + 1) cap2) (j + 1) (List.replicate j (.string zS) ++ [.string zS])) (hgrow : (w3.alloc (.cells #[.string zS] 9)).grownBy W nv.ownBlock) (hat : nv.ownBlock = some gg ∨ gg = w3.heap.size + 1) :
    RefN (W.setCell ⟨rb, 0, none⟩ (.slice (some ⟨gg, 0, none⟩) (j + 1) cap2)) w.heap.size rb (j + 1) j (.slice (some ⟨gg, 0, none⟩) (j + 1) cap2) mv vs ∧ Below w.heap.size w (W.setCell ⟨rb, 0, none⟩ (.slice (some ⟨gg, 0, none⟩) (j + 1) cap2)) := by
  have s1 := hb.size
  have s2 := b3.size
  have hB : Below w.heap.size w (w3.alloc (.cells #[.string zS] 9)) := (hb.trans (b3.mono s1)).alloc (by omega) _
  have hA : (w3.alloc (.cells #[.string zS] 9)).heap.size = w3.heap.size + 1 := by simp
  constructor
  · refine (h.grown (w' := w3.alloc (.cells #[.string zS] 9)) fun q hq => (Below.heap_alloc _ _ _ (by omega)).trans (b3.block q hq)).stepNow (by omega) _ hgrow hown fun q hq => ?_
    cases hq
    exact hat.imp id fun e => by show _ ≤ gg; omega
  · exact (hB.grown hgrow (by omega) fun k hk => h.ln k hk).setCell h.lr _
theorem new_b {w wr w3 W : World} {rb j : Nat} {nv mv : Value} {vs : Nat → Value} (h : RefN wr w.heap.size rb (j + 1) j nv mv vs) (hb : Below w.heap.size w wr) (b3 : Below wr.heap.size wr w3) (gg cap2 : Nat) (hown : W.ownsRow 0 49 1 (.slice (some ⟨gg, 0, none⟩) (j + 1) cap2) (j + 1) ((List.range j).map vs ++ [.slice (some ⟨w3.heap.size, 0, none⟩) 1 1])) (hgrow : ((w3.alloc (.cells #[.string zS] 9)).alloc (.cells #[.slice (some ⟨w3.heap.size, 0, none⟩) 1 1] 49)).grownBy W mv.ownBlock) (hat : mv.ownBlock = some gg ∨ gg = w3.heap.size + 2) :
    RefN (W.setCell ⟨rb, 1, none⟩ (.slice (some ⟨gg, 0, none⟩) (j + 1) cap2)) w.heap.size rb (j + 1) (j + 1) nv (.slice (some ⟨gg, 0, none⟩) (j + 1) cap2) (updF vs j (.slice (some ⟨w3.heap.size, 0, none⟩) 1 1)) ∧ Below w.heap.size w (W.setCell ⟨rb, 1, none⟩ (.slice (some ⟨gg, 0, none⟩) (j + 1) cap2)) := by
  have s1 := hb.size
  have s2 := b3.size
  have hA : (w3.alloc (.cells #[.string zS] 9)).heap.size = w3.heap.size + 1 := by simp
  have hA2 : ((w3.alloc (.cells #[.string zS] 9)).alloc (.cells #[.slice (some ⟨w3.heap.size, 0, none⟩) 1 1] 49)).heap.size = w3.heap.size + 2 := by simp
  have hB : Below w.heap.size w ((w3.alloc (.cells #[.string zS] 9)).alloc (.cells #[.slice (some ⟨w3.heap.size, 0, none⟩) 1 1] 49)) := ((hb.trans (b3.mono s1)).alloc (by omega) _).alloc (by omega) _
  constructor
  · refine RefN.stepMay (w1 := (w3.alloc (.cells #[.string zS] 9)).alloc (.cells #[.slice (some ⟨w3.heap.size, 0, none⟩) 1 1] 49)) h s1 (by omega) (fun q hq => ?_) w3.heap.size s2 ?_ _ hgrow hown fun q hq => ?_
    · rw [Below.heap_alloc _ _ _ (by omega), Below.heap_alloc _ _ _ (by omega)]; exact b3.block q hq
    · rw [Below.heap_alloc _ _ _ (by omega)]; exact heap_alloc_self _ _
    · cases hq
      exact hat.imp id fun e => by show _ ≤ gg; omega
  · exact (hB.grown hgrow (by omega) fun k hk => h.lm k hk).setCell h.lr _
theorem RefN.cells {w : World} {B rb jn jm : Nat} {nv mv : Value} {vs : Nat → Value} (h : RefN w B rb jn jm nv mv vs) : (w.cell? ⟨rb, 0, none⟩ = some nv ∧ w.frozen? ⟨rb, 0, none⟩ = false) ∧ w.cell? ⟨rb, 1, none⟩ = some mv ∧ w.frozen? ⟨rb, 1, none⟩ = false :=
  ⟨⟨by rw [cell_of_row _ _ _ _ _ _ h.blk]; rfl, frozen_of_row w rb 0 _ _ h.blk⟩, by rw [cell_of_row _ _ _ _ _ _ h.blk]; rfl, frozen_of_row w rb 1 _ _ h.blk⟩
def NewPost (w : World) (e : Ending) (w' : World) : Prop := ∃ rb nb mb nc mc vs, e = .returned (.pointer (some ⟨rb, 0, none⟩)) ∧ RefAt w' (fun j => w.heap.size ≤ j ∧ j < w'.heap.size) rb nb mb nc mc (.slice none 0 0) false (fun _ => zL) (fun _ => [zL]) vs ∧ Below w.heap.size w w'
set_option maxHeartbeats 8000000 in
theorem New_go (w : World) : Calls Tryz.prog 6 #[.int .i64 64] w (NewPost w) := by
  obtain ⟨i0, hi0, hz0, hz1, hz2⟩ := info_parts infoS
  obtain ⟨i1, hi1, hy0, hy1, hy2⟩ := info_parts infoSS
  have H0 := hide (⟨hi0, hz0, hz1, hz2⟩ : _ ∧ _ ∧ _ ∧ _)
  have H1 := hide (⟨hi1, hy0, hy1, hy2⟩ : _ ∧ _ ∧ _ ∧ _)
  clear hi0 hz0 hz1 hz2 hi1 hy0 hy1 hy2
  have HR0 : Hid (RefN (w.alloc (.cells #[.slice none 0 0, .slice none 0 0, .slice none 0 0, .bool false] 52)) w.heap.size w.heap.size 0 0 (.slice none 0 0) (.slice none 0 0) (fun _ => .slice none 0 0)) := hide
    { blk := heap_alloc_self _ _, nowR := World.ownsRow_nil _ _ _ _, mayR := World.ownsRow_nil _ _ _ _, rows := fun i hi => by omega, lr := Nat.le_refl _, ln := fun q hq => (by cases hq), lm := fun q hq => (by cases hq), lv := fun i q hi => by omega, apart := fun i j q hi => by omega, napart := fun i q hi => by omega }
  have HB0 : Hid (Below w.heap.size w (w.alloc (.cells #[.slice none 0 0, .slice none 0 0, .slice none 0 0, .bool false] 52))) := hide ((Below.refl _ _).alloc (Nat.le_refl _) _)
  go_enter Tryz.func6, Tryz.ntmps6
  go_wp2_with fail
  go_loopw [4] (fun i wr => ∃ (j : Nat) (nv mv : Value) (vs : Nat → Value), i = .int .i64 (j : Int) ∧ j ≤ 44 ∧ Hid (RefN wr w.heap.size w.heap.size j j nv mv vs) ∧ Hid (Below w.heap.size w wr)) (fun i _ => 44 - (intOf i).toNat)
  case atStart => exact ⟨0, _, _, _, rfl, by omega, HR0, HB0⟩
  case round =>
    obtain ⟨j, nv, mv, vs, rfl, hj, HR, HB⟩ := hrel
    clear HR0 HB0
    by_cases hlt : j < 44
    · have hlt' : (j : Int) < 44 := by omega
      obtain ⟨⟨c0, f0⟩, c1, f1⟩ := (unhide HR).cells
      have hk0 := (unhide HR).kinds.1
      have lr := lt_of_block (unhide HR).blk
      have HC3 : Hid (∀ w3, Below wr.heap.size wr w3 → w3.cell? ⟨w.heap.size, 0, none⟩ = some nv ∧ w3.frozen? ⟨w.heap.size, 0, none⟩ = false) := hide fun w3 b3 => ((unhide HR).grown b3.block).cells.1
      have HRW : Hid (∀ w3, Below wr.heap.size wr w3 → (w3.alloc (.cells #[.string zS] 9)).ownsRow 0 9 1 nv j (List.replicate j (.string zS))) := hide fun w3 b3 => World.ownsRow.alloc ((unhide HR).grown b3.block).nowR _
      have NG := hide (fun W => Noughts_z W)
      go_wp2_with fail
      go_region_law (first | (refine step_append_lies _ (by rfl) _ _ _ (by rfl) 0 9 i0 _ 1 16 Tryz.underlying49 (unhide H0).1 (unhide H0).2.1 (unhide H0).2.2.1 (unhide H0).2.2.2 (by rfl) (by omega) nv j (List.replicate j (.string zS)) (by rfl) (unhide HRW w3 b3) ⟨w3.heap.size, 0, none⟩ 1 1 [.string zS] (by rfl) (by rfl) (World.news_of_block (cs := #[.string zS]) (t := 9) (fr := (0, 0)) (heap_alloc_new w3 _)) (by simp [Value.oneCell']) (by omega) (by unfold maxLen; omega) (by omega) (Nat.zero_le _) (w3.heap.size + 1) (by simp) ?_; intro gg cap2 W3 hown3 hgrow hat hlt3; have cW : W3.cell? ⟨w.heap.size, 0, none⟩ = some nv := (hgrow.cell_far ⟨w.heap.size, 0, none⟩ (by show w.heap.size < (w3.alloc _).heap.size; have := b3.size; simp; omega) (fun e => hk0 e.symm)).trans ((World.cell?_alloc_lt _ _ _ (by show w.heap.size < w3.heap.size; have := b3.size; omega)).trans c3); have nW : W3.frozen? ⟨w.heap.size, 0, none⟩ = false := (hgrow.frozen_far ⟨w.heap.size, 0, none⟩ (by show w.heap.size < (w3.alloc _).heap.size; have := b3.size; simp; omega) (fun e => hk0 e.symm)).trans ((World.frozen?_alloc_past _ _ _ (by show w.heap.size < w3.heap.size; have := b3.size; omega)).trans n3)) | (go_simp; go_wp2_with (first | (go_at_call 22; refine (unhide NG _).mono ?_; rintro e w3 ⟨rfl, b0⟩; have b3 : Below wr.heap.size wr w3 := after_drew b0; obtain ⟨c3, n3⟩ := unhide HC3 w3 b3; have c3a := (unhide HC3 (w3.alloc (.cells #[.string zS] 9)) (b3.alloc b3.size _)).1; clear b0) | fail)))
      all_goals
        have NA := hide (new_a (unhide HR) (unhide HB) b3 gg cap2 hown3 hgrow hat)
        obtain ⟨V4, hV4⟩ : ∃ V4, V4 = Value.slice (some ⟨gg, 0, none⟩) (j + 1) cap2 := ⟨_, rfl⟩
        rw [← hV4] at NA ⊢
        obtain ⟨W4, hW4⟩ : ∃ W4, W4 = W3.setCell ⟨w.heap.size, 0, none⟩ V4 := ⟨_, rfl⟩
        rw [← hW4] at NA ⊢
        clear hV4 hW4 cW nW hgrow hown3 hat hlt3 c3 n3 c3a b3 c0 f0 c1 f1 hk0 lr HC3 HRW
        obtain ⟨⟨c0, f0⟩, c1, f1⟩ := (unhide NA).1.cells
        have hk1 := (unhide NA).1.kinds.2.1
        have lr := lt_of_block (unhide NA).1.blk
        have HC3 : Hid (∀ w3, Below W4.heap.size W4 w3 → w3.cell? ⟨w.heap.size, 1, none⟩ = some mv ∧ w3.frozen? ⟨w.heap.size, 1, none⟩ = false) := hide fun w3 b3 => ((unhide NA).1.grown b3.block).cells.2
        have HRW : Hid (∀ w3, Below W4.heap.size W4 w3 → ((w3.alloc (.cells #[.string zS] 9)).alloc (.cells #[.slice (some ⟨w3.heap.size, 0, none⟩) 1 1] 49)).ownsRow 0 49 1 mv j ((List.range j).map vs)) := hide fun w3 b3 => World.ownsRow.alloc (World.ownsRow.alloc ((unhide NA).1.grown b3.block).mayR _) _
        go_wp2_with fail
        go_region_law (first | (refine step_append_lies _ (by rfl) _ _ _ (by rfl) 0 49 i1 _ 1 24 Tryz.underlying50 (unhide H1).1 (unhide H1).2.1 (unhide H1).2.2.1 (unhide H1).2.2.2 (by rfl) (by omega) mv j ((List.range j).map vs) (by rfl) (unhide HRW w3 b3) ⟨w3.heap.size + 1, 0, none⟩ 1 1 [.slice (some ⟨w3.heap.size, 0, none⟩) 1 1] (by rfl) (by rfl) (World.news_of_block (cs := #[.slice (some ⟨w3.heap.size, 0, none⟩) 1 1]) (t := 49) (fr := (0, 0)) (by have := heap_alloc_new (w3.alloc (.cells #[.string zS] 9)) (.cells #[.slice (some ⟨w3.heap.size, 0, none⟩) 1 1] 49); simpa using this)) (by simp [Value.oneCell']) (by omega) (by unfold maxLen; omega) (by omega) (Nat.zero_le _) (w3.heap.size + 2) (by simp) ?_; intro gg2 cap3 W5 hown5 hgrow5 hat5 hlt5; have cW : W5.cell? ⟨w.heap.size, 1, none⟩ = some mv := (hgrow5.cell_far ⟨w.heap.size, 1, none⟩ (by show w.heap.size < ((w3.alloc _).alloc _).heap.size; have := b3.size; simp; omega) (fun e => hk1 e.symm)).trans c3b; have nW : W5.frozen? ⟨w.heap.size, 1, none⟩ = false := (hgrow5.frozen_far ⟨w.heap.size, 1, none⟩ (by show w.heap.size < ((w3.alloc _).alloc _).heap.size; have := b3.size; simp; omega) (fun e => hk1 e.symm)).trans n3b) | (go_simp; go_wp2_with (first | (go_at_call 22; refine (unhide NG _).mono ?_; rintro e w3 ⟨rfl, b0⟩; have b3 : Below W4.heap.size W4 w3 := after_drew b0; have c3 := (unhide HC3 w3 b3).1; have c3a := (unhide HC3 (w3.alloc (.cells #[.string zS] 9)) (b3.alloc b3.size _)).1; obtain ⟨c3b, n3b⟩ := unhide HC3 ((w3.alloc (.cells #[.string zS] 9)).alloc (.cells #[.slice (some ⟨w3.heap.size, 0, none⟩) 1 1] 49)) ((b3.alloc b3.size _).alloc (b3.alloc b3.size _).size _); clear b0) | fail)))
        all_goals
          have NB := hide (new_b (unhide NA).1 (unhide NA).2 b3 gg2 cap3 hown5 hgrow5 hat5)
          clear cW nW hgrow5 hown5 hat5 hlt5 c3 c3a c3b n3b b3 c0 f0 c1 f1 hk1 lr HC3 HRW
          go_wp2
          go_roundw
          case rel => exact ⟨j + 1, _, _, _, by go_num, by omega, hide (unhide NB).1, hide (unhide NB).2⟩
          case measure => simp [intOf]; omega
    · have hlt' : ¬ (j : Int) < 44 := by omega
      obtain rfl : j = 44 := by omega
      go_wp2
      go_ret
      obtain ⟨nb, mb, nc, mc, h⟩ := (unhide HR).whole
      exact ⟨_, nb, mb, nc, mc, vs, rfl, h, unhide HB⟩
end Go.Proofs.YtfnhhjpebilacaaGreat

/-
  DERIVED. The law's log and the document's, side by side in memory.
-/
namespace Go.Proofs.YtfnhhjpebilacaaGreat
open Go.RowKit
set_option linter.unusedVariables false
set_option maxRecDepth 20000

theorem Rst.keptG {w0 w w' : World} {b lb N : Nat} {G H K : Nat → Prop} {S : St} {dn : Bool} (h : Rst w0 w b lb N G S dn) (hk : Kept K w w') (hKG : ∀ j, K j → G j) (hK : ∀ j, K j → w0.heap.size ≤ j) (hH : ∀ j, H j → G j ∨ (w.heap.size ≤ j ∧ j < w'.heap.size)) : Rst w0 w' b lb N H S dn := by
  obtain ⟨F, h1, h2⟩ := h
  have hs := hk.size
  have ne : ∀ k, F k → ¬ K k := fun k hf hg => (h2 k (hKG k hg)).2.1 hf
  have nl : ¬ K lb := fun hg => (h2 lb (hKG lb hg)).2.2 rfl
  have hlt := h1.log.lt
  refine ⟨F, ⟨⟨h1.run.dev.frame fun k hf _ => hk.block k (h1.run.foot k hf).2 (ne k hf), fun j hj => ⟨(h1.run.foot j hj).1, by have := (h1.run.foot j hj).2; omega⟩, ?_⟩, h1.log.of (hk.block lb h1.log.lt nl), h1.lo, h1.off⟩, fun j hj => ?_⟩
  · have hb := h1.run.bel
    have hz := hb.size
    exact ⟨hk.os.trans hb.os, hk.tape.trans hb.tape, hk.output.trans hb.output, Nat.le_trans hb.size hk.size, fun q hq => (hk.block q (by omega) (fun g => by have := hK q g; omega)).trans (hb.block q hq)⟩
  · rcases hH j hj with h | h
    · have := h2 j h
      exact ⟨by omega, this.2⟩
    · exact ⟨h.2, fun hf => by have := (h1.run.foot j hf).2; omega, by omega⟩
theorem wrs_nil (w : World) : Wrs w (.slice none 0 0) [] := ⟨none, 0, rfl, by simp, by omega, by simp, fun h => absurd rfl h⟩
theorem WrsG.any {w : World} {G : Nat → Prop} {v : Value} (h : WrsG w G v []) (w' : World) (H : Nat → Prop) : WrsG w' H v [] := fun w2 _ => by
  obtain ⟨ao, cap, e, h1, h2, h3, _⟩ := h.here
  exact ⟨ao, cap, e, h1, h2, h3, fun h => absurd rfl h⟩
/-- Both logs in memory: R the document's own blocks, P others that stay. -/
structure JAt (w0 w : World) (b lb rb nb mb nc mc N : Nat) (S : St) (dn : Bool) (D : Doc) (R P : Nat → Prop) (yv : Value) (vs : Nat → Value) (ws : List (Int × List UInt8)) : Prop where
  rst : Rst w0 w b lb N (fun q => R q ∨ P q) S dn
  ref : RefAt w R rb nb mb nc mc yv D.half D.now D.may vs
  way : WrsG w P yv ws
  ok : okW 44 ws
  wayE : prtW ws = D.way
  lo : ∀ q, R q → w0.heap.size ≤ q
  ap : ∀ q, R q → ¬ P q
section
variable {w0 w w' : World} {b lb rb nb mb nc mc N : Nat} {S : St} {dn : Bool} {D : Doc} {R P : Nat → Prop} {yv : Value} {vs : Nat → Value} {ws : List (Int × List UInt8)}
theorem JAt.bel (h : JAt w0 w b lb rb nb mb nc mc N S dn D R P yv vs ws) : Below w0.heap.size w0 w := h.rst.bel
theorem JAt.ltR (h : JAt w0 w b lb rb nb mb nc mc N S dn D R P yv vs ws) {q : Nat} (hq : R q) : q < w.heap.size := by
  obtain ⟨F, _, h2⟩ := h.rst
  exact (h2 q (.inl hq)).1
theorem JAt.ltP (h : JAt w0 w b lb rb nb mb nc mc N S dn D R P yv vs ws) {q : Nat} (hq : P q) : q < w.heap.size := by
  obtain ⟨F, _, h2⟩ := h.rst
  exact (h2 q (.inr hq)).1
/-- The log has gone on. -/
theorem JAt.log {M lb' : Nat} {T : St} {dn' : Bool} (h : JAt w0 w b lb rb nb mb nc mc N S dn D R P yv vs ws) (r : Rst w0 w' b lb' M (fun q => R q ∨ P q) T dn') (sg : SameG (fun q => R q ∨ P q) w w') : JAt w0 w' b lb' rb nb mb nc mc M T dn' D R P yv vs ws :=
  { rst := r, ref := h.ref.same fun q hq => sg.2 q (.inl hq), way := h.way.same (sg.mono fun q hq => .inr hq), ok := h.ok, wayE := h.wayE, lo := h.lo, ap := h.ap }
/-- New memory beside them. -/
theorem JAt.grown (h : JAt w0 w b lb rb nb mb nc mc N S dn D R P yv vs ws) (hb : Below w.heap.size w w') : JAt w0 w' b lb rb nb mb nc mc N S dn D R (fun q => P q ∨ (w.heap.size ≤ q ∧ q < w'.heap.size)) yv vs ws :=
  { rst := h.rst.grown hb fun j hj => by
      rcases hj with hj | hj | hj
      · exact .inl (.inl hj)
      · exact .inl (.inr hj)
      · exact .inr hj
    ref := h.ref.belowR hb
    way := (h.way.same ⟨hb.size, fun q hq => hb.block q (h.ltP hq)⟩).mono fun q hq => .inl hq
    ok := h.ok, wayE := h.wayE, lo := h.lo
    ap := fun q hq hp => by
      rcases hp with hp | hp
      · exact h.ap q hq hp
      · have := h.ltR hq; omega }
theorem JAt.less (h : JAt w0 w b lb rb nb mb nc mc N S dn D R P yv vs ws) {P' : Nat → Prop} (hP : ∀ q, P' q → P q) (hw : WrsG w P' yv ws) : JAt w0 w b lb rb nb mb nc mc N S dn D R P' yv vs ws :=
  { h with rst := h.rst.less fun j hj => hj.imp id (hP j), way := hw, ap := fun q hq hp => h.ap q hq (hP q hp) }
theorem JAt.mono {M : Nat} (h : JAt w0 w b lb rb nb mb nc mc N S dn D R P yv vs ws) (hM : N ≤ M) : JAt w0 w b lb rb nb mb nc mc M S dn D R P yv vs ws := { h with rst := h.rst.mono hM }
/-- The document's log has gone on; no commit was under way. -/
theorem JAt.doc {D' : Doc} {R' : Nat → Prop} {vs' : Nat → Value} (h : JAt w0 w b lb rb nb mb nc mc N S dn D R P yv vs []) (hk : Kept R w w') (hr : RefAt w' R' rb nb mb nc mc yv D'.half D'.now D'.may vs') (hR : ∀ q, R' q → R q ∨ (w.heap.size ≤ q ∧ q < w'.heap.size)) (hw : D'.way = []) : JAt w0 w' b lb rb nb mb nc mc N S dn D' R' (fun _ => False) yv vs' [] :=
  { rst := h.rst.keptG hk (fun j hj => .inl hj) h.lo fun j hj => by
      rcases hj with hj | hj
      · exact (hR j hj).imp .inl id
      · exact hj.elim
    ref := hr
    way := h.way.any _ _
    ok := h.ok, wayE := by rw [hw]; rfl
    lo := fun q hq => by
      rcases hR q hq with h1 | h1
      · exact h.lo q h1
      · have := h.bel.size; omega
    ap := fun q _ hp => hp }
/-- A commit is under way. -/
theorem JAt.half {D' : Doc} {yv' : Value} {ws' : List (Int × List UInt8)} (h : JAt w0 w b lb rb nb mb nc mc N S dn D R P yv vs []) (hk : Kept R w w') (hr : RefAt w' R rb nb mb nc mc yv' D'.half D'.now D'.may vs) (hy : WrsG w' (fun q => w.heap.size ≤ q ∧ q < w'.heap.size) yv' ws') (hok : okW 44 ws') (hw : prtW ws' = D'.way) : JAt w0 w' b lb rb nb mb nc mc N S dn D' R (fun q => w.heap.size ≤ q ∧ q < w'.heap.size) yv' vs ws' :=
  { rst := h.rst.keptG hk (fun j hj => .inl hj) h.lo fun j hj => by
      rcases hj with hj | hj
      · exact .inl (.inl hj)
      · exact .inr hj
    ref := hr, way := hy, ok := hok, wayE := hw, lo := h.lo
    ap := fun q hq hp => by have := h.ltR hq; omega }
end
end Go.Proofs.YtfnhhjpebilacaaGreat

/-
  DERIVED. The calls of the law on both logs, each wherever the device stops.
-/
namespace Go.Proofs.YtfnhhjpebilacaaGreat
open Go.RowKit
set_option linter.unusedVariables false
set_option maxRecDepth 20000

section
variable {w0 w : World} {b lb rb nb mb nc mc N : Nat} {S : St} {dn : Bool} {D : Doc} {R P : Nat → Prop} {yv : Value} {vs : Nat → Value} {ws : List (Int × List UInt8)}
theorem JAt.sameRP {w' : World} (h : JAt w0 w b lb rb nb mb nc mc N S dn D R P yv vs ws) (sg : SameG (fun q => R q ∨ P q) w w') : SameG P w w' := sg.mono fun q hq => .inr hq
theorem JAt.readDn (h : JAt w0 w b lb rb nb mb nc mc N S dn D R P yv vs ws) (hd : S.down = true) (n : Int) :
    Calls Tryz.prog 8 #[.pointer (some ⟨lb, 0, none⟩), .int .i64 n] w fun e w' => e = .returned (.tuple #[.slice none 0 0, .int .i64 2]) ∧ JAt w0 w' b lb rb nb mb nc mc N S true D R P yv vs ws :=
  (Read_dn h.rst hd n).mono fun e w' ⟨e1, r, g⟩ => ⟨e1, h.log r g⟩
theorem JAt.putDn (h : JAt w0 w b lb rb nb mb nc mc N S dn D R P yv vs ws) (hd : S.down = true) (n : Int) (v : Value) :
    Calls Tryz.prog 9 #[.pointer (some ⟨lb, 0, none⟩), .int .i64 n, v] w fun e w' => e = .returned (.int .i64 2) ∧ JAt w0 w' b lb rb nb mb nc mc N S true D R P yv vs ws :=
  (Put_dn h.rst hd n v).mono fun e w' ⟨e1, r, g⟩ => ⟨e1, h.log r g⟩
theorem JAt.comDn (h : JAt w0 w b lb rb nb mb nc mc N S dn D R P yv vs ws) (hd : S.down = true) (v : Value) :
    Calls Tryz.prog 11 #[.pointer (some ⟨lb, 0, none⟩), v] w fun e w' => e = .returned (.int .i64 2) ∧ JAt w0 w' b lb rb nb mb nc mc N S true D R P yv vs ws :=
  (Commit_dn h.rst hd v).mono fun e w' ⟨e1, r, g⟩ => ⟨e1, h.log r g⟩
theorem JAt.fuse (h : JAt w0 w b lb rb nb mb nc mc N S dn D R P yv vs ws) (hd : S.down = false) (k : Int) (k1 : -9223372036854775808 ≤ k) (k2 : k < 9223372036854775808) :
    Calls Tryz.prog 15 #[.pointer (some ⟨b, 0, none⟩), .int .i64 k] w fun e w' => e = .returned (.int .i64 0) ∧ JAt w0 w' b lb rb nb mb nc mc N (S.fuseK k) dn D R P yv vs ws :=
  (Fuse_r h.rst k k1 k2).mono fun e w' ⟨e1, r, g⟩ => ⟨by rw [e1, hd]; rfl, h.log r g⟩
/-- A Put that is refused, and one that is not. -/
theorem JAt.putNo (h : JAt w0 w b lb rb nb mb nc mc N S false D R P yv vs ws) (hf : Fits S D) (hd : S.down = false) (n : Int) (a : Option Addr) (q c : Nat) (hx0 : putC 44 n q ≠ 0) :
    Calls Tryz.prog 9 #[.pointer (some ⟨lb, 0, none⟩), .int .i64 n, .slice a q c] w fun e w' => e = .returned (.int .i64 (putC 44 n q)) ∧ w' = w := by
  obtain ⟨F, h1, _⟩ := h.rst
  refine Put_bad h1 hd n a q c _ ?_ hx0
  rw [hf.len]; rfl
theorem JAt.putOk (h : JAt w0 w b lb rb nb mb nc mc N S false D R P yv vs ws) (hf : Fits S D) (hd : S.down = false) (hN : N < 800000) (n : Nat) (hn : n < 44) (a : Option Addr) (c : Nat) (L : List UInt8) (hv : Sl w (.slice a 512 c) L) (hL : L.length = 512) :
    Calls Tryz.prog 9 #[.pointer (some ⟨lb, 0, none⟩), .int .i64 (n : Int), .slice a 512 c] w fun e w' => SameG (fun q => R q ∨ P q) w w' ∧ ∃ T, JAt w0 w' b lb rb nb mb nc mc (N + 2) T T.down D R P yv vs ws ∧ e = .returned (.int .i64 (if T.down then 2 else 0)) ∧ Fits T (D.put n L T.down) := by
  obtain ⟨F, h1, h2⟩ := h.rst
  refine (Put_go h1 hd hN n (by rw [hf.len]; exact hn) a c L hv hL).mono ?_
  rintro e w' ⟨rfl, lw⟩
  rcases hf.put hd n hn L with ⟨T, t1, t2, t3⟩ | ⟨T, t1, t2, t3⟩
  · rw [t1] at lw ⊢
    obtain ⟨r1, r2⟩ := lw.rst h2
    refine ⟨r2, T, ?_, by rw [t2]; rfl, by rw [t2]; exact t3⟩
    rw [t2]
    exact h.log r1 r2
  · rw [t1] at lw ⊢
    obtain ⟨r1, r2⟩ := lw.rst h2
    refine ⟨r2, T, ?_, by rw [t2]; rfl, by rw [t2]; exact t3⟩
    rw [t2]
    exact h.log r1 r2
/-- A commit. -/
theorem JAt.com (h : JAt w0 w b lb rb nb mb nc mc N S false D R P yv vs ws) (hf : Fits S D) (hd : S.down = false) (hN : N < 400000) (v : Value) (us : List (Int × List UInt8)) (hv : Wrs w v us) :
    Calls Tryz.prog 11 #[.pointer (some ⟨lb, 0, none⟩), v] w fun e w' => SameG (fun q => R q ∨ P q) w w' ∧ ∃ T, JAt w0 w' b lb rb nb mb nc mc (N + 200) T T.down D R P yv vs ws ∧
      ((comC us ≠ 0 ∧ e = .returned (.int .i64 (comC us)) ∧ T = S) ∨ (us.length ≤ 16 ∧ okW 44 us ∧ e = .returned (.int .i64 (if T.down then 2 else 0)) ∧ Fits T (D.commit (prtW us) T.down))) := by
  obtain ⟨q, _, _, _⟩ := hf.up hd
  have ho := h.rst.ops
  refine (Commit_r h.rst q hN v us hv).mono ?_
  rintro e w' ⟨rfl, r1, r2⟩
  refine ⟨r2, (comE S us).2, ?_⟩
  by_cases h16 : 16 < us.length
  · have e1 : comE S us = (43, S) := by unfold comE; rw [if_pos h16]
    have e2 : comC us = 43 := by unfold comC; rw [if_pos h16]
    rw [e1] at r1 ⊢
    refine ⟨?_, .inl ⟨by rw [e2]; decide, by rw [e2], rfl⟩⟩
    simp only [hd]
    exact h.log r1 r2
  · by_cases hok : okW 44 us
    · have hok' : okW ((64 - 20 : Nat) : Int) us := hok
      rcases hf.commit hd (by omega) us (by omega) hok' with ⟨T, t1, t2, t3⟩ | ⟨T, t1, t2, t3⟩
      · rw [t1] at r1 ⊢
        refine ⟨?_, .inr ⟨by omega, hok, by simp only [t2]; rfl, by simp only [t2]; exact t3⟩⟩
        simp only [t2]
        exact h.log r1 r2
      · rw [t1] at r1 ⊢
        refine ⟨?_, .inr ⟨by omega, hok, by simp only [t2]; rfl, by simp only [t2]; exact t3⟩⟩
        simp only [t2]
        exact h.log r1 r2
    · have e1 : comE S us = (42, S) := by unfold comE; rw [if_neg h16, if_neg (by rw [hf.len]; exact hok)]
      have e2 : comC us = 42 := by unfold comC; rw [if_neg h16, if_neg hok]
      rw [e1] at r1 ⊢
      refine ⟨?_, .inl ⟨by rw [e2]; decide, by rw [e2], rfl⟩⟩
      simp only [hd]
      exact h.log r1 r2
/-- A block is read. -/
theorem JAt.readNo (h : JAt w0 w b lb rb nb mb nc mc N S false D R P yv vs ws) (hf : Fits S D) (hd : S.down = false) (n : Int) (hn : ¬ (0 ≤ n ∧ n < 44)) :
    Calls Tryz.prog 8 #[.pointer (some ⟨lb, 0, none⟩), .int .i64 n] w fun e w' => e = .returned (.tuple #[.slice none 0 0, .int .i64 42]) ∧ w' = w := by
  obtain ⟨F, h1, _⟩ := h.rst
  exact Read_bad h1 hd n (by rw [hf.len]; exact hn)
theorem JAt.read (h : JAt w0 w b lb rb nb mb nc mc N S false D R P yv vs ws) (hf : Fits S D) (hd : S.down = false) (hN : N < 800000) (n : Nat) (hn : n < 44) :
    Calls Tryz.prog 8 #[.pointer (some ⟨lb, 0, none⟩), .int .i64 (n : Int)] w fun e w' => SameG (fun q => R q ∨ P q) w w' ∧ ∃ T, JAt w0 w' b lb rb nb mb nc mc (N + 2) T T.down D R P yv vs ws ∧ Fits T D ∧
      ((T.down = false ∧ ∃ q, e = .returned (.tuple #[.slice (some ⟨q, 0, none⟩) 512 512, .int .i64 0]) ∧ Sl w' (.slice (some ⟨q, 0, none⟩) 512 512) (D.now n)) ∨ (T.down = true ∧ e = .returned (.tuple #[.slice none 0 0, .int .i64 2]))) := by
  obtain ⟨q, _, _, _⟩ := hf.up hd
  refine (Read_r h.rst hd hN n (by rw [hf.len]; exact hn)).mono ?_
  rintro e w' ⟨r2, hh⟩
  rcases hf.read hd with ⟨T, t1, t2, t3⟩ | ⟨T, t1, t2, t3⟩
  · rw [t1] at hh
    rcases hh with ⟨_, g, e1, e2, e3, e4, r1⟩ | ⟨e1, _⟩
    · rw [q.is n (by rw [hf.len]; exact hn)] at e3 e4
      refine ⟨r2, T, ?_, t3, .inl ⟨t2, g, e1, sl_block e3 e4⟩⟩
      rw [t2]
      exact h.log (r1.less fun j hj => .inl hj) r2
    · exact absurd (show (0 : Int) = 2 from e1) (by decide)
  · rw [t1] at hh
    rcases hh with ⟨e1, _⟩ | ⟨_, e1, r1⟩
    · exact absurd (show (2 : Int) = 0 from e1) (by decide)
    · refine ⟨r2, T, ?_, t3, .inr ⟨t2, e1⟩⟩
      rw [t2]
      exact h.log r1 r2
end
set_option maxHeartbeats 2000000 in
/-- The document's Put, refused. -/
theorem rPut_no {w : World} {G : Nat → Prop} {rb nb mb nc mc : Nat} {yv : Value} {hf : Bool} {now : Nat → List UInt8} {may : Nat → List (List UInt8)} {vs : Nat → Value} (h : RefAt w G rb nb mb nc mc yv hf now may vs) (n : Int) (a : Option Addr) (q c : Nat) (hq : (q : Int) ≤ 9223372036854775807) (x : Int) (hx : x = putC 44 n q) (hx0 : x ≠ 0) (down : Bool) :
    Calls Tryz.prog 13 #[.pointer (some ⟨rb, 0, none⟩), .int .i64 n, .slice a q c, .bool down] w fun e w' => e = .returned (.int .i64 x) ∧ w' = w := by
  have WR := wrong_go w rb 44 nc _ h.head.1 (by decide) n a q c hq
  have e : wrongC ((44 : Nat) : Int) n q = x := by rw [hx]; rfl
  rw [e] at WR
  have HW := hide WR
  have hb : (x == 0) = false := beq_eq_false_iff_ne.2 hx0
  clear WR e hx h
  go_enter Tryz.func13, Tryz.ntmps13
  go_wp2_with fail
  refine (unhide HW).mono ?_
  rintro e w1 ⟨rfl, rfl⟩
  go_wp2
  go_ret
  exact ⟨rfl, rfl⟩
/-- The blocks that Writes has made stay while the document's turn. -/
theorem wrsK_own {w : World} {G : Nat → Prop} {base : Nat} {v : Value} {xs : List (Int × Nat)} {ws : List (Int × List UInt8)} (h : WOwn w base v xs) (hd : Dat w base xs ws) (hw : ∀ p ∈ ws, p.2.length = 512) (hG : ∀ q, base ≤ q → ¬ G q) : WrsK w G v ws := by
  obtain ⟨ao, cap, e, h1, h2, h4⟩ := h.form
  have hl := hd.1
  refine ⟨ao, cap, by rw [e, hl], by omega, h2, fun hn => ?_⟩
  obtain ⟨g, rfl, hb, hg, hc⟩ := h4 (by omega)
  refine ⟨g, 0, rfl, fun i hi => ?_⟩
  obtain ⟨d0, d1⟩ := hc i (by omega)
  obtain ⟨e1, hq, hr⟩ := hd.2 i (by omega) hi
  refine ⟨some ⟨xs[i].2, 0, none⟩, 512, fun W hk => ?_⟩
  have hg2 := hk.block g hg (hG g hb)
  have hq2 := hk.block xs[i].2 (lt_of_block hr) (hG _ hq)
  have cc : ∀ o, W.cell? ⟨g, o, none⟩ = w.cell? ⟨g, o, none⟩ := fun o => by unfold World.cell?; rw [hg2]
  refine ⟨by rw [cc, Nat.zero_add, d0, e1], by rw [cc, Nat.zero_add, d1], sl_block (hq2.trans hr) (hw _ (List.getElem_mem hi))⟩
end Go.Proofs.YtfnhhjpebilacaaGreat

/-
  DERIVED. How the calls of a law on logs are opened, and how many raw blocks each may have.
-/
namespace Go.Proofs.YtfnhhjpebilacaaGreat
open Go.ChangeShapes Go.WideShapes Go.ChangeAt Go.RowKit
set_option linter.unusedVariables false

theorem weightsAll_mem {H : Type} {P : Program} {e : TypeId} {d : DataW H} {n : Nat} : ∀ {l : List (DataW H)}, d ∈ l → n ∈ d.weights P e → n ∈ DataW.weightsAll P e l
  | x :: l, h, hn => by
    simp only [DataW.weightsAll, List.mem_append]
    rcases List.mem_cons.1 h with rfl | h
    · exact .inl hn
    · exact .inr (weightsAll_mem h hn)
theorem Tryz.bytesOne : Tryz.prog.bytesOf 46 = 32 := by kernel_rfl
set_option maxRecDepth 100000 in
theorem open_onesH {H : Type} {enc : TypeId × Value → H} {W : World} {a : Option Addr} {n c : Nat} {d : DataW H} {p : List MemPlace}
    (h : DataW.Trod enc Tryz.prog W 0 (fun _ => true) true 30 (.slice a n c) d p) : ∃ l : List On, OnL W (.slice a n c) l ∧ ∀ o ∈ l, o.head.size ≤ 9223372036854775807 := by
  obtain ⟨fuel, hf⟩ := h
  obtain ⟨f0, f1, f2, hu, ⟨o0, o1, o2⟩, t0, t1, t2⟩ := Tryz.underOn
  rcases Go.Deep.open_slice Tryz.underlying30 hf with ⟨hcs, hx⟩ | ⟨x, n', cap, m, k, D, Pl, hcs, _, hl, hm, hz, hx, hcell⟩
  · simp [Value.cells] at hcs
    obtain ⟨rfl, rfl, rfl⟩ := hcs
    exact ⟨[], ⟨none, 0, rfl, by simp, by omega, fun h => by simp at h⟩, fun o ho => by cases ho⟩
  · simp [Value.cells] at hcs
    obtain ⟨rfl, rfl, rfl⟩ := hcs
    rw [if_pos rfl] at hz
    subst hz
    unfold maxLen at hm
    have hel : ∀ i, i < n → ∃ e : On, e.head.size ≤ 9223372036854775807 ∧ I64 e.n ∧ I64 e.fill ∧ W.cell? (x.add (i * 3)) = some (.int .i64 e.n) ∧ W.cell? (x.add (i * 3 + 1)) = some (.int .i64 e.fill) ∧ W.cell? (x.add (i * 3 + 2)) = some (.string e.head) := by
      intro i hi
      obtain ⟨cs, q1, q2⟩ := hcell i (by omega)
      rw [Tryz.cellsOn] at q1
      obtain ⟨_, hlen, hc⟩ := World.cells?_some q1
      match cs, hlen with
      | [c0, c1, c2], _ =>
        obtain ⟨xs, k', _, _, _, hxl, hfl⟩ := DataW.trod_struct hu q2
        match xs, hxl with
        | [x0, x1, x2], _ =>
          have g0 := hfl 0 f0 rfl
          have g1 := hfl 1 f1 rfl
          have g2 := hfl 2 f2 rfl
          rw [o0, t0, Tryz.cellsIntJ] at g0
          rw [o1, t1, Tryz.cellsIntJ] at g1
          rw [o2, t2, Tryz.cellsStrJ] at g2
          obtain ⟨s0, e0, _, w0⟩ := DataW.trod_int Tryz.underlying3 g0
          obtain ⟨s1, e1, _, w1⟩ := DataW.trod_int Tryz.underlying3 g1
          obtain ⟨s2, e2, _, w2⟩ := DataW.trod_string Tryz.underlying9 g2
          simp at e0 e1 e2
          subst e0 e1 e2
          have k0 := hc 0 (by omega)
          have k1 := hc 1 (by omega)
          have k2 := hc 2 (by omega)
          rw [Go.Deep.add_add] at k0 k1 k2
          have b0 := bounds_i64 w0
          have b1 := bounds_i64 w1
          have B0 : I64 s0 := ⟨by omega, by omega⟩
          have B1 : I64 s1 := ⟨by omega, by omega⟩
          exact ⟨⟨s0, s1, s2⟩, (by unfold maxLen at w2; exact w2), B0, B1, k0, k1, k2⟩
    obtain ⟨F, hF⟩ := Go.Deep.choose_lt (α := On) hel
    have hlen : ((List.range n).map F).length = n := by simp
    refine ⟨(List.range n).map F, ⟨some x, _, by rw [hlen], by rw [hlen]; omega, by omega, fun hz => ?_⟩, fun o ho => by
      obtain ⟨i, hi, rfl⟩ := List.mem_map.1 ho
      exact (hF i (List.mem_range.1 hi)).1⟩
    rw [hlen] at hz
    have h0 := (hF 0 (by omega)).2.2.2.1
    have hsp := World.cell?_spot h0
    obtain ⟨b, off, sp⟩ := x
    have hsp' : sp = none := by
      cases sp with
      | none => rfl
      | some k => simp [Addr.add] at hsp
    subst hsp'
    refine ⟨b, off, rfl, ?_, fun i hi => ?_⟩
    · rw [addr_add] at h0
      exact World.block_lt_of_cell? W ⟨b, off + 0 * 3, none⟩ h0
    · have hi' : i < n := by rw [hlen] at hi; exact hi
      obtain ⟨_, j0, j1, q0, q1, q2⟩ := hF i hi'
      rw [addr_add] at q0 q1 q2
      have e : ((List.range n).map F)[i] = F i := by simp
      rw [e]
      simp only [← Nat.add_assoc] at q1 q2
      exact { c0 := q0, c1 := q1, c2 := q2, i0 := j0, i1 := j1 }

theorem open_ones' {H : Type} {enc : TypeId × Value → H} {W : World} {v : Value} {y : DataW H × List MemPlace} {fuel : Nat}
    (hf : DataW.trod enc Tryz.prog W 0 (fun _ => true) true fuel 30 [v] = some y) : ∃ l : List On, OnL W v l ∧ (∀ o ∈ l, o.head.size ≤ 9223372036854775807) ∧ ∀ B, (∀ x ∈ y.1.weights Tryz.prog 30, x ≤ B) → l.length * 32 ≤ B := by
  rcases Go.Deep.open_slice Tryz.underlying30 hf with ⟨hcs, hx⟩ | ⟨x, n, cap, m, k, D, Pl, hcs, _, hln, hm, hz, hx, hcell⟩
  · simp at hcs
    subst hcs
    obtain ⟨l, hl, hh⟩ := open_onesH (enc := enc) (d := y.1) (p := y.2) ⟨fuel, by simpa [Value.cells] using hf⟩
    refine ⟨l, hl, hh, fun B _ => ?_⟩
    obtain ⟨ao, cp, e, _⟩ := hl
    injection e with e1 e2 e3
    omega
  · simp at hcs
    subst hcs
    obtain ⟨l, hl, hh⟩ := open_onesH (enc := enc) (d := y.1) (p := y.2) ⟨fuel, by simpa [Value.cells] using hf⟩
    refine ⟨l, hl, hh, fun B hB => ?_⟩
    obtain ⟨ao, cp, e, _⟩ := hl
    injection e with e1 e2 e3
    have hw := hB ((((List.range n).map D).length + ((List.range (m - n)).map fun j => D (n + j)).length) * Tryz.prog.bytesOf 46) (by rw [hx]; simp [DataW.weights, Tryz.underlying30])
    rw [Tryz.bytesOne] at hw
    simp at hw
    omega
theorem open_intl' {H : Type} {enc : TypeId × Value → H} {W : World} {v : Value} {y : DataW H × List MemPlace} {fuel : Nat}
    (hf : DataW.trod enc Tryz.prog W 0 (fun _ => true) true fuel 31 [v] = some y) : ∃ l : List Int, Ints W v l := by
  rcases open_ints Tryz.underlying31 Tryz.underlying3 Tryz.cellsIntJ hf with ⟨hcs, hx⟩ | ⟨x, l, cp, zs, hcs, _, hl, hm, hz, hx, hcell, hwz⟩
  · simp at hcs
    subst hcs
    exact ⟨[], none, 0, rfl, by simp, by simp, fun h => absurd rfl h⟩
  · simp at hcs
    subst hcs
    exact open_intl (enc := enc) (d := y.1) (p := y.2) ⟨fuel, by simpa [Value.cells] using hf⟩
/-- A call, as it reads. -/
structure JCl where
  kind : Int
  n : Int
  ws : List On
  picks : List Int
instance : Inhabited JCl := ⟨⟨0, 0, [], []⟩⟩
structure JClAt (w : World) (b o B : Nat) (c : JCl) : Prop where
  c0 : w.cell? ⟨b, o, none⟩ = some (.int .i64 c.kind)
  c1 : w.cell? ⟨b, o + 1, none⟩ = some (.int .i64 c.n)
  c2 : ∃ v, w.cell? ⟨b, o + 2, none⟩ = some v ∧ OnL w v c.ws
  c3 : ∃ v, w.cell? ⟨b, o + 3, none⟩ = some v ∧ Ints w v c.picks
  i1 : I64 c.n
  dl : c.ws.length * 32 ≤ B
  hd : ∀ o ∈ c.ws, o.head.size ≤ 9223372036854775807
/-- A slice of calls, whose raw blocks take no more than B bytes each. -/
def JClL (w : World) (v : Value) (l : List JCl) (B : Nat) : Prop :=
  ∃ ao cap, v = .slice ao l.length cap ∧ l.length ≤ 9223372036854775807 ∧ (0 < l.length → ∃ b off, ao = some ⟨b, off, none⟩ ∧ b < w.heap.size ∧ ∀ i, (h : i < l.length) → JClAt w b (off + i * 4) B l[i])
theorem Tryz.cellsJCall : Tryz.prog.cellsOf 33 = 4 := by kernel_rfl
theorem Tryz.cellsOnesJ : Tryz.prog.cellsOf 30 = 1 := by kernel_rfl
theorem Tryz.cellsIntsJ : Tryz.prog.cellsOf 31 = 1 := by kernel_rfl
theorem Tryz.underJCall : ∃ f0 f1 f2 f3, Tryz.prog.underlying 33 = some (.struct #[f0, f1, f2, f3]) ∧ (f0.offset = 0 ∧ f1.offset = 1 ∧ f2.offset = 2 ∧ f3.offset = 3) ∧ f0.type = 3 ∧ f1.type = 3 ∧ f2.type = 30 ∧ f3.type = 31 := ⟨_, _, _, _, Tryz.underlying33, ⟨rfl, rfl, rfl, rfl⟩, rfl, rfl, rfl, rfl⟩
set_option maxRecDepth 100000 in
theorem open_jcalls {H : Type} {enc : TypeId × Value → H} {W : World} {a : Option Addr} {n c : Nat} {d : DataW H} {p : List MemPlace}
    (h : DataW.Trod enc Tryz.prog W 0 (fun _ => true) true 22 (.slice a n c) d p) {B : Nat} (hB : ∀ x ∈ d.weights Tryz.prog 22, x ≤ B) : ∃ l : List JCl, JClL W (.slice a n c) l B := by
  obtain ⟨fuel, hf⟩ := h
  obtain ⟨f0, f1, f2, f3, hu, ⟨o0, o1, o2, o3⟩, t0, t1, t2, t3⟩ := Tryz.underJCall
  rcases Go.Deep.open_slice Tryz.underlying22 hf with ⟨hcs, hx⟩ | ⟨x, n', cap, m, k, D, Pl, hcs, _, hl, hm, hz, hx, hcell⟩
  · simp [Value.cells] at hcs
    obtain ⟨rfl, rfl, rfl⟩ := hcs
    exact ⟨[], none, 0, rfl, by simp, fun h => by simp at h⟩
  · simp [Value.cells] at hcs
    obtain ⟨rfl, rfl, rfl⟩ := hcs
    rw [if_pos rfl] at hz
    subst hz
    unfold maxLen at hm
    have hel : ∀ i, i < n → ∃ e : JCl, (∀ o ∈ e.ws, o.head.size ≤ 9223372036854775807) ∧ I64 e.n ∧ W.cell? (x.add (i * 4)) = some (.int .i64 e.kind) ∧ W.cell? (x.add (i * 4 + 1)) = some (.int .i64 e.n) ∧ (∃ v, W.cell? (x.add (i * 4 + 2)) = some v ∧ OnL W v e.ws) ∧ (∃ v, W.cell? (x.add (i * 4 + 3)) = some v ∧ Ints W v e.picks) ∧ (∀ B, (∀ x ∈ (D i).weights Tryz.prog 33, x ≤ B) → e.ws.length * 32 ≤ B) := by
      intro i hi
      obtain ⟨cs, q1, q2⟩ := hcell i (by omega)
      rw [Tryz.cellsJCall] at q1
      obtain ⟨_, hlen, hc⟩ := World.cells?_some q1
      match cs, hlen with
      | [c0, c1, c2, c3], _ =>
        obtain ⟨xs, k', _, hDx, _, hxl, hfl⟩ := DataW.trod_struct hu q2
        match xs, hxl with
        | [x0, x1, x2, x3], _ =>
          have g0 := hfl 0 f0 rfl
          have g1 := hfl 1 f1 rfl
          have g2 := hfl 2 f2 rfl
          have g3 := hfl 3 f3 rfl
          rw [o0, t0, Tryz.cellsIntJ] at g0
          rw [o1, t1, Tryz.cellsIntJ] at g1
          rw [o2, t2, Tryz.cellsOnesJ] at g2
          rw [o3, t3, Tryz.cellsIntsJ] at g3
          obtain ⟨s0, e0, _, w0⟩ := DataW.trod_int Tryz.underlying3 g0
          obtain ⟨s1, e1, _, w1⟩ := DataW.trod_int Tryz.underlying3 g1
          simp at e0 e1
          subst e0 e1
          simp at g2 g3
          obtain ⟨l2, h2, hh2, hb2⟩ := open_ones' g2
          obtain ⟨l3, h3⟩ := open_intl' g3
          have hDi : D i = .agg [x0.1, x1.1, x2.1, x3.1] := by simpa using congrArg Prod.fst hDx
          have hbd : ∀ B, (∀ x ∈ (D i).weights Tryz.prog 33, x ≤ B) → l2.length * 32 ≤ B := by
            intro B hB
            refine hb2 B fun x hx => hB x ?_
            rw [hDi]
            simp only [DataW.weights, hu, DataW.weightsEach, List.map_cons, t2, List.mem_append]
            exact .inr (.inr (.inl hx))
          have k0 := hc 0 (by omega)
          have k1 := hc 1 (by omega)
          have k2 := hc 2 (by omega)
          have k3 := hc 3 (by omega)
          rw [Go.Deep.add_add] at k0 k1 k2 k3
          have b1 := bounds_i64 w1
          exact ⟨⟨s0, s1, l2, l3⟩, hh2, ⟨by simp only; omega, by simp only; omega⟩, k0, k1, ⟨c2, k2, h2⟩, ⟨c3, k3, h3⟩, hbd⟩
    obtain ⟨F, hF⟩ := Go.Deep.choose_lt (α := JCl) hel
    have hlen : ((List.range n).map F).length = n := by simp
    refine ⟨(List.range n).map F, some x, _, by rw [hlen], by rw [hlen]; omega, fun hz => ?_⟩
    rw [hlen] at hz
    have h0 := (hF 0 (by omega)).2.2.1
    have hsp := World.cell?_spot h0
    obtain ⟨b, off, sp⟩ := x
    have hsp' : sp = none := by
      cases sp with
      | none => rfl
      | some k => simp [Addr.add] at hsp
    subst hsp'
    refine ⟨b, off, rfl, ?_, fun i hi => ?_⟩
    · rw [addr_add] at h0
      exact World.block_lt_of_cell? W ⟨b, off + 0 * 4, none⟩ h0
    · have hi' : i < n := by rw [hlen] at hi; exact hi
      obtain ⟨jh, j1, q0, q1, ⟨v2, q2, s2⟩, ⟨v, q3, s3⟩, q5⟩ := hF i hi'
      rw [addr_add] at q0 q1 q2 q3
      have e : ((List.range n).map F)[i] = F i := by simp
      rw [e]
      simp only [← Nat.add_assoc] at q1 q2 q3
      refine { c0 := q0, c1 := q1, c2 := ⟨v2, q2, s2⟩, c3 := ⟨v, q3, s3⟩, i1 := j1, dl := ?_, hd := jh }
      have hdd : d = .slice ((List.range n).map D) ((List.range (m - n)).map fun j => D (n + j)) := by simpa using congrArg Prod.fst hx
      refine q5 B fun x hx => hB x ?_
      rw [hdd]
      simp only [DataW.weights, Tryz.underlying22, List.mem_cons, List.mem_append]
      exact .inr (.inl (weightsAll_mem (List.mem_map.2 ⟨i, List.mem_range.2 hi', rfl⟩) hx))
end Go.Proofs.YtfnhhjpebilacaaGreat
