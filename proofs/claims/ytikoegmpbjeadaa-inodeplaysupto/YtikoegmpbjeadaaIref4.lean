/-
  DERIVED. The document's Extend.
-/
import Derived.Test.YtikoegmpbjeadaaIref2
import Derived.Deep.Cut
namespace Go.Proofs.Ytikoegmpbjeadaa
open Go.RowKit
set_option linter.unusedVariables false

theorem rExtend_neg (w : World) (b : Nat) (m : Int) (u : Value) (hm : m < 0) : Calls Try.prog 29 #[.pointer (some ⟨b, 0, none⟩), .int .i64 m, u] w fun e w' => e = .returned (.int .i64 1) ∧ w' = w := by
  go_enter Try.func29, Try.ntmps29
  go_wp2_with fail
  refine (rNeed_neg w b m hm).mono ?_
  rintro e w1 ⟨rfl, rfl⟩
  go_wp2
  go_ret
  exact ⟨rfl, rfl⟩
theorem rExtend_far (w : World) (b n : Nat) (v u : Value) (L : List Nat) (h : RdAt w b n v L) (m : Int) (hm : 32768 < (n : Int) + m) (h0 : 0 ≤ m) (h9 : m ≤ 9223372036854775807) : Calls Try.prog 29 #[.pointer (some ⟨b, 0, none⟩), .int .i64 m, u] w fun e w' => e = .returned (.int .i64 60) ∧ w' = w := by
  go_enter Try.func29, Try.ntmps29
  go_wp2_with fail
  refine (rNeed_far w b n v L h m hm h0 h9).mono ?_
  rintro e w1 ⟨rfl, rfl⟩
  go_wp2
  go_ret
  exact ⟨rfl, rfl⟩

theorem okR_take {l : List (Int × Int)} {k : Nat} (hk : k < l.length) (h : ∀ x ∈ l.take k, okR x) (hx : okR l[k]) : ∀ x ∈ l.take (k + 1), okR x := by
  rw [List.take_succ_eq_append_getElem hk]
  intro x hx'
  rcases List.mem_append.1 hx' with h' | h'
  · exact h x h'
  · simp at h'
    subst h'
    exact hx
/-- The blocks of runs that may be. -/
def bksI (l : List (Int × Int)) : List Nat := bks (l.map fun x => (x.1.toNat, x.2.toNat))
theorem bksI_snoc (l : List (Int × Int)) (x : Int × Int) : bksI (l ++ [x]) = bksI l ++ List.range' x.1.toNat x.2.toNat := by simp [bksI, bks]
theorem bksI_len {l : List (Int × Int)} (h : ∀ x ∈ l, okR x) : ((bksI l).length : Int) = sumL l := by
  induction l with
  | nil => rfl
  | cons x l ih =>
    have h1 := ih fun y hy => h y (List.mem_cons_of_mem _ hy)
    have h2 := h x (List.mem_cons_self ..)
    unfold okR at h2
    have e1 : bksI (x :: l) = List.range' x.1.toNat x.2.toNat ++ bksI l := by simp [bksI, bks]
    have e2 : sumL (x :: l) = x.2 + sumL l := by simp [sumL]
    rw [e1, e2, List.length_append, List.length_range', ← h1]
    omega
theorem bksI_toI (Y : List (Nat × Nat)) : bksI (Y.map toI) = bks Y := by
  unfold bksI
  rw [List.map_map]
  congr 1
  conv => rhs; rw [← List.map_id Y]
  exact List.map_congr_left fun x _ => by simp [toI]
theorem bksI_low {l : List (Int × Int)} (h : ∀ x ∈ l, okR x) : low (bksI l) := by
  refine low_bks fun y hy => ?_
  obtain ⟨x, hx, rfl⟩ := List.mem_map.1 hy
  have := h x hx
  unfold okR at this
  simp only
  omega
theorem take_more {α : Type} (A : List α) (r : List α) (k : Nat) (h : k ≤ A.length) : (A ++ r).take k = A.take k := List.take_append_of_le_length h

def REPost (w : World) (b n m : Nat) (L : List Nat) (l : List (Int × Int)) (e : Ending) (w' : World) : Prop :=
  (¬ okL l ((bf (n + m) - bf n : Nat) : Int) ∧ e = .returned (.int .i64 1) ∧ w.grownBy w' none) ∨ (okL l ((bf (n + m) - bf n : Nat) : Int) ∧ e = .returned (.int .i64 0) ∧ ∃ v', RdAt w' b (n + m) v' (L ++ bksI l) ∧ w.grownBy w' (some b))

set_option maxRecDepth 20000 in
set_option maxHeartbeats 8000000 in
theorem rExtend_any (w : World) (b n m : Nat) (v u : Value) (L : List Nat) (l : List (Int × Int)) (h : RdAt w b n v L) (hm : n + m ≤ 32768) (hu : Rn w u l) (hl : l.length ≤ 1125899906842624) :
    Calls Try.prog 29 #[.pointer (some ⟨b, 0, none⟩), .int .i64 (m : Int), u] w (REPost w b n m L l) := by
  have HM := hide h
  have HU := hide hu
  obtain ⟨ao, cap, rfl, hu1, hu2, hu3, hu4⟩ := hu
  clear hu4
  have hbl := h.lt
  have hd64 : bf (n + m) - bf n ≤ 64 := by have := bf_le hm; omega
  have hni : (n : Int) + (m : Int) ≤ 32768 := by omega
  obtain ⟨d, hd⟩ : ∃ d, d = bf (n + m) - bf n := ⟨_, rfl⟩
  have HD := hide hd
  rw [← hd] at hd64
  have HP : Hid (REPost w b n m L l = fun e w' => (¬ okL l (d : Int) ∧ e = .returned (.int .i64 1) ∧ w.grownBy w' none) ∨ (okL l (d : Int) ∧ e = .returned (.int .i64 0) ∧ ∃ v', RdAt w' b (n + m) v' (L ++ bksI l) ∧ w.grownBy w' (some b))) := hide (by
    funext e w'
    unfold REPost
    rw [← hd])
  have hdI : (d : Int) ≤ 64 := by omega
  have hLs := h.small
  clear h
  obtain ⟨q, hq⟩ : ∃ q, q = l.length := ⟨_, rfl⟩
  rw [← hq] at hu1 HU hl ⊢
  have HQ := hide hq
  have hqI : (q : Int) ≤ 1125899906842624 := by omega
  clear hq
  go_enter Try.func29, Try.ntmps29
  go_wp2_with fail
  refine (rNeed_ok w b n v L (unhide HM) m hm).mono ?_
  rintro e w1 ⟨rfl, g1⟩
  rw [← hd]
  have G1 := hide g1
  clear g1 hd
  go_wp2
  go_loopw [9, 10] (fun a i wr => ∃ (k : Nat), i = .int .i64 (k : Int) ∧ k ≤ q ∧ (∀ x ∈ l.take k, okR x) ∧ NOwn wr w.heap.size a ((bksI (l.take k)).take (d + 1)) ∧ w.grownBy wr none) (fun _ i _ => q - (intOf i).toNat)
  case atStart => exact ⟨0, rfl, by omega, by simp, by simpa [bksI, bks] using NOwn.nil w1 w.heap.size, unhide G1⟩
  case round =>
    obtain ⟨k, rfl, hk, hok, ho, hg⟩ := hrel
    have HOk := hide hok
    have HO := hide ho
    have HG := hide hg
    clear hok ho hg
    by_cases hlt : k < q
    · have hlt' : (k : Int) < (q : Int) := by omega
      have hkl : k < l.length := by rw [← unhide HQ]; exact hlt
      obtain ⟨pb, off, hao, hpb, hc⟩ : ∃ pb off, ao = some ⟨pb, off, none⟩ ∧ pb < wr.heap.size ∧ ∀ i, (h : i < l.length) → wr.cell? ⟨pb, off + i * 2, none⟩ = some (.int .i64 l[i].1) ∧ wr.cell? ⟨pb, off + i * 2 + 1, none⟩ = some (.int .i64 l[i].2) := by
        obtain ⟨ao', cap', e, _, _, _, h4⟩ := (unhide HU).kept (unhide HG)
        injection e with e1 e2 e3
        subst e1
        exact h4 (by omega)
      subst hao
      obtain ⟨c0, c1⟩ := hc k hkl
      have hfit := hu3 l[k] (List.getElem_mem hkl)
      have HOk2 := hide (fun h => okR_take hkl (unhide HOk) h)
      have HTk : Hid (bksI (l.take (k + 1)) = bksI (l.take k) ++ List.range' (l[k]).1.toNat (l[k]).2.toNat) := hide (by rw [List.take_succ_eq_append_getElem hkl, bksI_snoc])
      have HIn : Hid (l[k] ∈ l) := hide (List.getElem_mem hkl)
      obtain ⟨x, hx⟩ : ∃ x, x = l[k] := ⟨_, rfl⟩
      rw [← hx] at c0 c1 hfit HOk2 HTk HIn
      clear hc hx hlt
      obtain ⟨x1, x2⟩ := x
      obtain ⟨f1, f2, f3, f4⟩ := hfit
      simp only at c0 c1 f1 f2 f3 f4 HTk
      by_cases hx : okR (x1, x2)
      · have HOk3 := hide (unhide HOk2 hx)
        unfold okR at hx
        obtain ⟨o1, o2, o3⟩ := hx
        simp only at o1 o2 o3
        obtain ⟨y1, rfl⟩ := Int.eq_ofNat_of_zero_le o2
        obtain ⟨y2, rfl⟩ := Int.eq_ofNat_of_zero_le (show 0 ≤ x2 by omega)
        have hn1 : ¬ (y2 : Int) < 1 := by omega
        have hn2 : ¬ (512 : Int) < (y2 : Int) := by omega
        have hn3 : ¬ (y1 : Int) < 0 := by omega
        have hn4 : ¬ (511 : Int) < (y1 : Int) := by omega
        have hn5 : ¬ (512 : Int) < (y1 : Int) + (y2 : Int) := by omega
        have HO2 := hide ((unhide HO).grown (World.grownBy_alloc wr (.cells #[.int .i64 (y1 : Int), .int .i64 (y2 : Int)] 51) none))
        have HG2 : Hid (w.grownBy (wr.alloc (.cells #[.int .i64 (y1 : Int), .int .i64 (y2 : Int)] 51)) none) := hide ((unhide HG).trans (World.grownBy_alloc _ _ _))
        have HBx : Hid ((wr.alloc (.cells #[.int .i64 (y1 : Int), .int .i64 (y2 : Int)] 51)).heap[wr.heap.size]? = some (.cells #[.int .i64 (y1 : Int), .int .i64 (y2 : Int)] 51 (0, 0))) := hide (heap_alloc_new _ _)
        clear HO HG HOk HOk2
        obtain ⟨A, hA⟩ : ∃ A, A = bksI (l.take k) := ⟨_, rfl⟩
        rw [← hA] at HTk HO2
        have HTk2 : Hid (bksI (l.take (k + 1)) = A ++ List.range' y1 y2) := hide (by simpa using unhide HTk)
        clear hA HTk
        have hyI : (y1 : Int) + (y2 : Int) ≤ 512 := by omega
        go_wp2
        obtain ⟨bx, hbx0⟩ : ∃ bx, bx = wr.heap.size := ⟨_, rfl⟩
        rw [← hbx0] at HBx ⊢
        clear hbx0
        go_loopw [9, 12] (fun a i wi => ∃ j : Nat, i = .int .i64 (j : Int) ∧ j ≤ y2 ∧ NOwn wi w.heap.size a ((A ++ List.range' y1 j).take (d + 1)) ∧ wi.heap[bx]? = some (.cells #[.int .i64 (y1 : Int), .int .i64 (y2 : Int)] 51 (0, 0)) ∧ w.grownBy wi none) (fun _ i _ => y2 - (intOf i).toNat)
        case atStart => exact ⟨0, rfl, by omega, by simpa using unhide HO2, unhide HBx, unhide HG2⟩
        case round =>
          obtain ⟨j, rfl, hj, hN, hbx, hG⟩ := hrel
          have c1 : wr.cell? ⟨bx, 1, none⟩ = some (.int .i64 (y2 : Int)) := (cell_of_row _ _ _ _ _ _ hbx).trans rfl
          have c0 : wr.cell? ⟨bx, 0, none⟩ = some (.int .i64 (y1 : Int)) := (cell_of_row _ _ _ _ _ _ hbx).trans rfl
          have HBx2 := hide hbx
          have HN2 := hide hN
          have HG3 := hide hG
          obtain ⟨bo, bcap, hbu, hb1, hb2, _⟩ := hN.form
          have hAl : ((A ++ List.range' y1 j).take (d + 1)).length = min (d + 1) (A.length + j) := by simp
          rw [hAl] at hbu hb1
          obtain ⟨mn, hmn⟩ : ∃ mn, mn = min (d + 1) (A.length + j) := ⟨_, rfl⟩
          rw [← hmn] at hbu hb1 hAl
          have HMn := hide hmn
          have hmn65 : mn ≤ d + 1 := by omega
          clear hmn
          subst hbu
          have hmnI : (mn : Int) ≤ 65 := by omega
          clear hbx hN hG HO2 HG2 HBx
          by_cases hgo : j < y2 ∧ mn ≤ d
          · have hj1 : (j : Int) < (y2 : Int) := by omega
            have hj2 : (mn : Int) ≤ (d : Int) := by omega
            have hfull : A.length + j ≤ d := by have := unhide HMn; omega
            have HEq : Hid ((A ++ List.range' y1 j).take (d + 1) = A ++ List.range' y1 j) := hide (List.take_of_length_le (by simp; omega))
            have HEq2 : Hid ((A ++ List.range' y1 (j + 1)).take (d + 1) = A ++ List.range' y1 j ++ [y1 + j]) := hide (by
              rw [range_snoc, ← List.append_assoc]
              exact List.take_of_length_le (by simp; omega))
            have HN3 : Hid (NOwn wr w.heap.size (.slice bo mn bcap) (A ++ List.range' y1 j)) := hide (by
              have h := unhide HN2
              rw [unhide HEq] at h
              exact h)
            have hll : (A ++ List.range' y1 j).length ≤ 65536 := by simp; omega
            clear hgo HN2 hAl
            go_wp2_with (at_builtin; refine wpList_append_int rfl (.tmp 70) (.tmp 75) rfl w.heap.size _ (A ++ List.range' y1 j) rfl ?ho ?hb2 hll ⟨_, 0, none⟩ 1 (y1 + j) rfl ?hc ?_)
            case ho => exact (unhide HN3).grown (World.grownBy_alloc _ _ _)
            case hb2 => have := (unhide HG3).size; simp; omega
            case hc => exact (cell_of_row _ _ _ _ _ _ (heap_alloc_new _ _)).trans rfl
            intro v5 w5 o5 g5
            have N5 : Hid (NOwn w5 w.heap.size v5 ((A ++ List.range' y1 (j + 1)).take (d + 1))) := hide (by rw [unhide HEq2, List.append_assoc]; exact o5)
            have G5 : Hid (w.grownBy w5 none) := hide (((unhide HG3).trans (World.grownBy_alloc _ _ _)).andThen g5 (fun z e => .inl ((unhide HN3).row e).1))
            have BX5 : Hid (w5.heap[bx]? = some (.cells #[.int .i64 (y1 : Int), .int .i64 (y2 : Int)] 51 (0, 0))) := hide (by
              have h1 := (World.grownBy_alloc wr (.cells #[.int .i64 ((y1 : Int) + (j : Int))] 3) none).block bx (lt_of_block (unhide HBx2)) (by simp)
              have hlt5 : bx < (wr.alloc (.cells #[.int .i64 ((y1 : Int) + (j : Int))] 3)).heap.size := by rw [World.size_alloc]; have := lt_of_block (unhide HBx2); omega
              have h2 := g5.block bx hlt5 (fun e => ((unhide HN3).grown (World.grownBy_alloc wr (.cells #[.int .i64 ((y1 : Int) + (j : Int))] 3) none)).ne e.symm (h1.trans (unhide HBx2)) (by decide) rfl)
              exact (h2.trans h1).trans (unhide HBx2))
            clear o5 g5 HN3 HG3 HBx2 c0 c1
            go_wp2
            go_roundw
            case rel => exact ⟨j + 1, rfl, by omega, unhide N5, unhide BX5, unhide G5⟩
            case measure => simp [intOf]; omega
          · have N5 : Hid (NOwn wr w.heap.size (.slice bo mn bcap) ((bksI (l.take (k + 1))).take (d + 1))) := hide (by
              have h := unhide HN2
              rw [unhide HTk2]
              by_cases hjy : j = y2
              · rw [hjy] at h
                exact h
              · have hge : d + 1 ≤ (A ++ List.range' y1 j).length := by
                  have := unhide HMn
                  simp
                  omega
                have e1 : A ++ List.range' y1 y2 = (A ++ List.range' y1 j) ++ List.range' (y1 + j) (y2 - j) := by
                  rw [List.append_assoc, range_join, show j + (y2 - j) = y2 by omega]
                rw [e1, take_more _ _ _ hge]
                exact h)
            have hout : ¬ ((j : Int) < (y2 : Int) ∧ (mn : Int) ≤ (d : Int)) := by omega
            have HLL : Hid (∀ K : Prop, ((¬ (j : Int) < (y2 : Int)) → K) → (((j : Int) < (y2 : Int) ∧ ¬ (mn : Int) ≤ (d : Int)) → K) → K) := hide (fun K h1 h2 => by
              by_cases e : (j : Int) < (y2 : Int)
              · exact h2 ⟨e, fun h => hout ⟨e, h⟩⟩
              · exact h1 e)
            clear hgo hout HN2
            refine unhide HLL _ ?_ ?_
            all_goals intro hx
            all_goals try obtain ⟨hx1, hx2⟩ := hx
            all_goals go_wp2
            all_goals
              go_roundw
              case rel => exact ⟨k + 1, rfl, by omega, unhide HOk3, unhide N5, unhide HG3⟩
              case measure => simp [intOf]; omega
      · have HNo : Hid (REPost w b n m L l (.returned (.int .i64 1)) (wr.alloc (.cells #[.int .i64 x1, .int .i64 x2] 51))) := hide (by
          rw [unhide HP]
          exact .inl ⟨fun h => hx (h.1 _ (unhide HIn)), rfl, (unhide HG).trans (World.grownBy_alloc _ _ _)⟩)
        unfold okR at hx
        simp only at hx
        clear HOk HOk2 HO HG HTk HIn
        by_cases q1 : x2 < 1
        · go_wp2
          go_ret
          exact unhide HNo
        · by_cases q2 : (512 : Int) < x2
          · go_wp2
            go_ret
            exact unhide HNo
          · by_cases q3 : x1 < 0
            · go_wp2
              go_ret
              exact unhide HNo
            · by_cases q4 : (511 : Int) < x1
              · go_wp2
                go_ret
                exact unhide HNo
              · have q5 : (512 : Int) < x1 + x2 := by omega
                clear hx
                go_wp2
                go_ret
                exact unhide HNo
    · have hlt' : ¬ (k : Int) < (q : Int) := by omega
      have HOkA : Hid (∀ x ∈ l, okR x) := hide (by
        have h := unhide HOk
        rw [List.take_of_length_le (by have := unhide HQ; omega)] at h
        exact h)
      have HN : Hid (NOwn wr w.heap.size u9 ((bksI l).take (d + 1))) := hide (by
        have h := unhide HO
        rw [show l.take k = l from List.take_of_length_le (by have := unhide HQ; omega)] at h
        exact h)
      clear HO HOk
      obtain ⟨bo, bcap, hbu, hb1, hb2, hb4⟩ := (unhide HN).form
      clear hb4
      rw [List.length_take] at hbu hb1
      obtain ⟨mn, hmn⟩ : ∃ mn, mn = min (d + 1) (bksI l).length := ⟨_, rfl⟩
      rw [← hmn] at hbu hb1
      have HMn := hide hmn
      subst hbu
      have hmnI : (mn : Int) ≤ 65 := by omega
      have HBl := hide (bksI_len (unhide HOkA))
      clear hmn
      by_cases hfit : (mn : Int) = (d : Int)
      · have hle : (bksI l).length = d := by have := unhide HMn; omega
        have HYes : Hid (okL l (d : Int)) := hide ⟨unhide HOkA, by rw [← unhide HBl, hle]⟩
        have HEq : Hid ((bksI l).take (d + 1) = bksI l) := hide (List.take_of_length_le (by omega))
        have HBd := hide hle
        clear hle
        have m0 := (unhide HM).grown (unhide HG)
        obtain ⟨lo, lcap, hlv, hlv1, hlv2, hlv4⟩ := m0.list.form
        clear hlv4
        have hlv' : ∃ z, v = .slice lo z lcap := ⟨_, hlv⟩
        have hg01 := setCell_grown wr b 0 (.int .i64 ((n : Int) + (m : Int)))
        have hb1' := heap_setCell_same wr b 0 _ _ (.int .i64 ((n : Int) + (m : Int))) m0.blk
        have hl1 := m0.list.kept hg01 (fun z hz e => m0.list.ne hz m0.blk (by decide) (by simpa using e))
        have hm1 := (unhide HN).kept hg01 (fun z hz e => (unhide HN).ne hz m0.blk (by decide) (by simpa using e))
        have hfz := m0.frozen
        have c0 := m0.num
        have c1 := m0.val
        have hbw := m0.lt
        obtain ⟨W1, hW1⟩ : ∃ W1, W1 = wr.setCell ⟨b, 0, none⟩ (.int .i64 ((n : Int) + (m : Int))) := ⟨_, rfl⟩
        have c1' : W1.cell? ⟨b, 1, none⟩ = some v := by rw [hW1]; exact (cell_of_row _ _ _ _ _ _ hb1').trans rfl
        rw [← hW1] at hg01 hb1' hl1 hm1
        have hbw1 : b < W1.heap.size := lt_of_block hb1'
        have HB1 := hide hb1'
        have HL1 := hide hl1
        have HM1 := hide hm1
        have HG01 := hide hg01
        have HLen : Hid ((L ++ bksI l).length = bf (n + m)) := hide (by
          rw [List.length_append, m0.len, unhide HBd, unhide HD]
          have : bf n ≤ bf (n + m) := by unfold bf; omega
          omega)
        have HLow : Hid (low (L ++ bksI l)) := hide (low_append m0.lw (bksI_low (unhide HOkA)))
        obtain ⟨z, hz⟩ := hlv'
        clear hlv m0 hg01 hb1' hl1 hm1
        subst hz
        have c1a : (W1.alloc (.cells #[] 3)).cell? ⟨b, 1, none⟩ = some (.slice lo z lcap) := (World.grownBy_alloc W1 (.cells #[] 3) none).cell c1' (by simp)
        have HNc : Hid (∀ c, Value.slice lo z lcap = .slice none 0 c → c = 0) := hide (fun c e => by
          injection e with e1 e2 e3
          subst e3
          exact (unhide HL1).nilcap e1)
        have HNc2 : Hid (∀ c, Value.slice bo mn bcap = .slice none 0 c → c = 0) := hide (fun c e => by
          injection e with e1 e2 e3
          subst e3
          exact (unhide HN).nilcap e1)
        go_upto_region 18 with fail
        rw [← hW1]
        clear hW1 c0 c1
        go_wp2_with (at_builtin; refine wpList_append_nums rfl (.tmp 91) (.tmp 95) rfl W1.heap.size _ [] rfl (nown_empty W1) _ L rfl ((unhide HL1).nr.kept (World.grownBy_alloc _ _ _)) (unhide HNc) (by simp; omega) (by simp) ?_)
        intro v6 w6 o6 g6
        have g16 : W1.grownBy w6 none := (World.grownBy_alloc _ _ _).andThen g6 (fun z e => .inl (by cases e; exact Nat.le_refl _))
        have O6 : Hid (NOwn w6 W1.heap.size v6 L) := hide o6
        have G6 := hide g16
        have SZ6 := hide g16.size
        clear o6 g6 g16
        go_wp2_with (at_builtin; refine wpList_append_nums rfl (.tmp 96) (.tmp 97) rfl W1.heap.size _ L rfl (unhide O6) _ ((bksI l).take (d + 1)) rfl (((unhide HM1).nr).kept (unhide G6)) (unhide HNc2) (by rw [unhide HEq, unhide HBd]; omega) (unhide SZ6) ?_)
        intro v7 w7 o7 g7
        rw [unhide HEq] at o7
        have g17 : W1.grownBy w7 none := (unhide G6).andThen g7 (fun z e => .inl ((unhide O6).row e).1)
        have hb7 : w7.heap[b]? = some (.cells #[.int .i64 ((n : Int) + (m : Int)), .slice lo z lcap] 30 (0, 0)) := (g17.block b hbw1 (by simp)).trans (unhide HB1)
        have hh := heap_setCell_same w7 b 1 _ _ v7 hb7
        have hs7 := setCell_grown w7 b 1 v7
        have HYes2 : Hid (REPost w b n m L l (.returned (.int .i64 0)) (w7.setCell ⟨b, 1, none⟩ v7)) := hide (by
          rw [unhide HP]
          refine .inr ⟨unhide HYes, rfl, v7, ⟨?_, ?_, hm, unhide HLen, unhide HLow⟩, ?_⟩
          · rw [hh]
            rfl
          · have := o7.kept hs7 (fun q hq e => o7.ne hq hb7 (by decide) (by simpa using e))
            obtain ⟨h1, h2⟩ := this
            refine ⟨h1, ?_⟩
            rcases h2 with h2 | ⟨g, cap, cur, a, _, c⟩
            · exact .inl h2
            · exact .inr ⟨g, cap, cur, a, Nat.zero_le _, c⟩
          · exact (((unhide HG).but _).trans (unhide HG01)).trans ((g17.but _).trans hs7))
        have e1 : w7.cell? ⟨b, 1, none⟩ = some (.slice lo z lcap) := (cell_of_row _ _ _ _ _ _ hb7).trans rfl
        have f7 : w7.frozen? ⟨b, 1, none⟩ = false := by simp [World.frozen?, hb7]
        obtain ⟨ao7, cap7, hv7, _⟩ := o7.form
        obtain ⟨n7, hn7⟩ : ∃ n7, v7 = .slice ao7 n7 cap7 := ⟨_, hv7⟩
        clear hv7 o7 g7 g17 hb7 hh hs7
        subst hn7
        go_wp2
        go_ret
        exact unhide HYes2
      · have HNo : Hid (REPost w b n m L l (.returned (.int .i64 1)) wr) := hide (by
          rw [unhide HP]
          exact .inl ⟨fun h => hfit (by
            have h1 := h.2
            have h2 := unhide HBl
            have h3 := unhide HMn
            omega), rfl, unhide HG⟩)
        go_wp2
        go_ret
        exact unhide HNo
end Go.Proofs.Ytikoegmpbjeadaa
