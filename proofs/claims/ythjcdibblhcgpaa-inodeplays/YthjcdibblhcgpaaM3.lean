/-
  DERIVED. parted, Cut, Copy.
-/
import Derived.Test.YthjcdibblhcgpaaM1
import Derived.Deep.Cut
import Derived.Deep.CutRange
import Derived.BigRegion
import Derived.Test.YthjcdibblhcgpaaM2
namespace Go.Proofs.Ythjcdibblhcgpaa
open Go.RowKit
set_option linter.unusedVariables false

theorem rcells_append (xs ys : List (Nat × Nat)) : rcells (xs ++ ys) = rcells xs ++ rcells ys := by simp [rcells]
theorem rcells_take : ∀ (xs : List (Nat × Nat)) (r j : Nat) (u : Value), (rcells (xs.take r))[j]? = some u → (rcells xs)[j]? = some u := by
  intro xs r j u h
  have e : rcells xs = rcells (xs.take r) ++ rcells (xs.drop r) := by rw [← rcells_append, List.take_append_drop]
  rw [e, List.getElem?_append_left (List.getElem?_eq_some_iff.1 h).1]
  exact h
theorem rcells_drop : ∀ (xs : List (Nat × Nat)) (r j : Nat) (u : Value), r ≤ xs.length → (rcells (xs.drop r))[j]? = some u → (rcells xs)[r * 2 + j]? = some u := by
  intro xs r j u hr h
  have e : rcells xs = rcells (xs.take r) ++ rcells (xs.drop r) := by rw [← rcells_append, List.take_append_drop]
  have hl : (rcells (xs.take r)).length = r * 2 := by rw [rcells_len, List.length_take]; omega
  rw [e, List.getElem?_append_right (by omega), hl, show r * 2 + j - r * 2 = j by omega]
  exact h

theorem rows_succ {W : World} {base : Nat} {e : TypeId} {size : Nat} {v : Value} {k : Nat} {xs : List Value} (h : W.ownsRow base e size v (k + 1) xs) : ∃ g cap, v = .slice (some ⟨g, 0, none⟩) (k + 1) cap := by
  rcases h.2 with ⟨_, h0⟩ | ⟨g, cap, cur, e, _⟩
  · omega
  · exact ⟨g, cap, e⟩
theorem run_append_run3 (w : World) (base : Nat) (ty : TypeId) (v : Value) (xs : List (Nat × Nat)) (hown : ROwn w base v xs) (hb : base ≤ w.heap.size) (hl : xs.length ≤ 65536) (ad : Addr) (c : Nat) (x : Nat × Nat)
    (hc : ∀ j u, ([.int .i64 (x.1 : Int), .int .i64 (x.2 : Int)] : List Value)[j]? = some u → w.cell? (ad.add j) = some u) :
    ∃ v' w', (Builtin.append_ #[28, 28] ty #[v, .slice (some ad) 1 c]).run Try.prog w = .ok v' w' ∧ ROwn w' base v' (xs ++ [x]) ∧ w.grownBy w' v.ownBlock ∧ (v'.ownBlock = v.ownBlock ∨ ∃ g, v'.ownBlock = some g ∧ w.heap.size ≤ g) := by
  obtain ⟨i0, hi, hz0, hz1, hz2⟩ := info_parts Try.infoRun3
  have h1c : ∀ u ∈ ([.int .i64 (x.1 : Int), .int .i64 (x.2 : Int)] : List Value), u.oneCell' = true := by
    intro u hu
    rcases List.mem_cons.1 hu with rfl | hu
    · rfl
    · rcases List.mem_cons.1 hu with rfl | hu
      · rfl
      · cases hu
  have fin : ∀ {w' : World} {v' : Value} {b2 : Nat}, base ≤ b2 → w'.ownsRow b2 36 2 v' (xs.length + 1) (rcells xs ++ [.int .i64 (x.1 : Int), .int .i64 (x.2 : Int)]) → ROwn w' base v' (xs ++ [x]) := fun {w' v' b2} hb2 h => by
    unfold ROwn
    rw [rcells_snoc, List.length_append]
    obtain ⟨h1, h2⟩ := h
    refine ⟨h1, ?_⟩
    rcases h2 with h2 | ⟨g, cap, cur, a1, a2, a3⟩
    · exact .inl h2
    · exact .inr ⟨g, cap, cur, a1, by omega, a3⟩
  have hown0 := hown
  have hm : xs.length + 1 ≤ maxLen := by unfold maxLen; omega
  rcases hown.2 with ⟨rfl, h0⟩ | ⟨g, cap, cur, rfl, hbg, hg, hn, hcm, hsz, ht⟩
  · have hx0 : xs = [] := List.eq_nil_of_length_eq_zero h0
    subst hx0
    obtain ⟨v', w', hr, r1, r2, _⟩ := run_append_own (P := Try.prog) w w.heap.size 28 ty 36 i0 (.agg #[.int .i64 0, .int .i64 0]) 2 16 Try.underlying28 hi hz0 hz1 hz2 rfl (by decide) (.slice none 0 0) 0 [] (World.ownsRow_nil w _ _ _) ad 1 c _ rfl hc h1c (by unfold maxLen; omega) (by omega) (Nat.le_refl _)
    refine ⟨v', w', hr, fin hb (by simpa [rcells] using r1), r2, .inr ?_⟩
    obtain ⟨g, cap, rfl⟩ := rows_succ (k := 0) (by simpa using r1)
    refine ⟨g, rfl, ?_⟩
    rcases r1.2 with ⟨e, _⟩ | ⟨g', cap', cur, e, hb', _⟩
    · cases e
    · cases e; exact hb'
  · by_cases hfit : xs.length + 1 ≤ cap
    · obtain ⟨w', hr, r1, r2⟩ := run_append_fits (P := Try.prog) w base 28 ty 36 i0 2 Try.underlying28 hi hz1 g xs.length cap (rcells xs) hown0 ad 1 c _ rfl hc h1c hfit
      exact ⟨_, w', hr, fin (Nat.le_refl _) r1, r2, .inl rfl⟩
    · have hlo : (rcells xs).length = xs.length * 2 := hown.1
      obtain ⟨v', w', hr, r1, r2⟩ := run_append_arg_grows (P := Try.prog) w 28 ty 36 i0 (.agg #[.int .i64 0, .int .i64 0]) 2 16 Try.underlying28 hi hz0 hz1 hz2 rfl (by decide) ⟨g, 0, none⟩ xs.length cap (rcells xs) hlo (fun j u hj => by
        have hjl : j < (rcells xs).length := (List.getElem?_eq_some_iff.1 hj).1
        rw [addr_add, cell_of_row _ _ _ _ _ _ hg]
        have e : (cur.toList.take (xs.length * 2))[j]? = (rcells xs)[j]? := by rw [ht]
        rw [List.getElem?_take_of_lt (by omega)] at e
        rw [Nat.zero_add, ← hj, ← e]
        simp) ad 1 c _ rfl hc (by omega) hm (by omega)
      refine ⟨v', w', hr, fin hb (by simpa using r1), r2.but _, .inr ?_⟩
      obtain ⟨g', cap', rfl⟩ := rows_succ (k := xs.length) (by simpa using r1)
      refine ⟨g', rfl, ?_⟩
      rcases r1.2 with ⟨e, _⟩ | ⟨g'', cap'', cur', e, hb', _⟩
      · cases e
      · cases e; exact hb'
theorem wpList_append_run3 {ops : Array Oper} {rest : List Oper} {o : Oper} {a : Act} {w : World} {Q : Exit → Act → World → Prop} (hgd : o.guard = none) (s x : Operand)
    (hop : o.op = Op.call { callee := Callee.builtin Builtin.append, args := #[s, x], argTypes := #[28, 28] }) (base : Nat) (v : Value) (xs : List (Nat × Nat)) (hs : a.eval s = v) (hown : ROwn w base v xs) (hb : base ≤ w.heap.size) (hl : xs.length ≤ 65536) (ad : Addr) (c : Nat) (y : Nat × Nat)
    (hx : a.eval x = .slice (some ad) 1 c) (hc : ∀ j u, ([.int .i64 (y.1 : Int), .int .i64 (y.2 : Int)] : List Value)[j]? = some u → w.cell? (ad.add j) = some u)
    (hK : ∀ v' w', ROwn w' base v' (xs ++ [y]) → w.grownBy w' v.ownBlock → (v'.ownBlock = v.ownBlock ∨ ∃ g, v'.ownBlock = some g ∧ w.heap.size ≤ g) → wpList Try.prog ops Q rest (a.put o.dst v') w') :
    wpList Try.prog ops Q (o :: rest) a w := by
  refine wpList_plain hgd fun K hK' => ?_
  obtain ⟨v', w', hrun, r1, r2, r3⟩ := run_append_run3 w base o.type v xs hown hb hl ad c y hc
  unfold Oper.wp execOp
  simp [hop, resolve, invoke, builtin, hs, hx, hrun, Result.andThen]
  exact hK' _ _ (hK v' w' r1 r2 r3)

theorem Clone_at (w : World) (g off m c : Nat) (xs : List (Nat × Nat)) (hm : xs.length = m) (hlen : m ≤ 65536)
    (hc : ∀ j u, (rcells xs)[j]? = some u → w.cell? ⟨g, off + j, none⟩ = some u) :
    Calls Try.prog 39 #[.slice (some ⟨g, off, none⟩) m c] w fun e w' => ∃ u, e = .returned u ∧ ROwn w' w.heap.size u xs ∧ w.grownBy w' none := by
  subst hm
  exact Clone_part w g off c xs hlen hc

theorem Clone_drew (w : World) (g off m c : Nat) (xs : List (Nat × Nat)) (hm : xs.length = m) (hlen : m ≤ 65536)
    (hc : ∀ j u, (rcells xs)[j]? = some u → w.cell? ⟨g, off + j, none⟩ = some u) :
    Calls Try.prog 39 #[.slice (some ⟨g, off, none⟩) m c] w.drew fun e w' => ∃ u, e = .returned u ∧ ROwn w' w.heap.size u xs ∧ w.grownBy w' none := by
  refine (Clone_at w.drew g off m c xs hm hlen fun j u hj => (show w.drew.cell? _ = some u from hc j u hj)).mono ?_
  rintro e w' ⟨u, rfl, o, g⟩
  exact ⟨u, rfl, o, ⟨g.os, g.tape, g.output, g.size, g.block⟩⟩

set_option maxRecDepth 20000 in
set_option maxHeartbeats 4000000 in
theorem parted_any (w : World) (b n : Nat) (v : Value) (L : List Nat) (h : NdAt w b n v L) (k : Nat) (hk : k < L.length) :
    Calls Try.prog 47 #[.pointer (some ⟨b, 0, none⟩), .int .i64 (k : Int)] w fun e w' => ∃ a c, e = .returned (.tuple #[a, c]) ∧ ROwn w' w.heap.size a (canon (L.take k)) ∧ ROwn w' w.heap.size c (canon (L.drop k)) ∧ (∀ q, c.ownBlock = some q → a.ownBlock ≠ some q) ∧ w.grownBy w' none := by
  have HM := hide h
  have hne : ¬ (k : Int) = (L.length : Int) := by omega
  have hsm := h.small
  have hT := tot_canon L
  have hcl : (canon L).length ≠ 0 := by
    intro e
    rw [List.eq_nil_of_length_eq_zero e, tot_nil] at hT
    omega
  have hlow := low_canon h.lw
  have c1 := h.val
  clear hT
  rcases h.runs.2 with ⟨hv, h0⟩ | ⟨g, cap, cur, rfl, _, hgb, hn, hm, hs, ht⟩
  · exact absurd h0 hcl
  have HR := hide h.runs
  have HX := hide hgb
  unfold maxLen at hm
  clear h ht hs hgb
  go_enter Try.func47, Try.ntmps47
  go_wp2_with fail
  refine (Blocks_any w b n _ L (unhide HM)).mono ?_
  rintro e w1 ⟨rfl, rfl⟩
  go_wp2_with fail
  refine (place_any w1 b n _ L (unhide HM) k hk).mono ?_
  rintro e w2 ⟨r, j, rfl, hin, rfl⟩
  have HK := hide hin.kept.1
  have HG := hide hin.kept.2
  have hr := hin.lt
  have hj := hin.kl
  obtain ⟨x, hx0⟩ : ∃ x, x = (canon L)[r] := ⟨_, rfl⟩
  have HE : Hid ((canon L).drop r = (x.1, x.2) :: (canon L).drop (r + 1)) := hide (by rw [hx0]; exact List.drop_eq_getElem_cons hr)
  have HD : Hid ((canon L)[r]?.getD (0, 0) = x) := hide (by rw [hin.getD, hx0])
  have hx := hlow _ (List.getElem_mem hr)
  rw [← hx0] at hj hx
  clear hx0 hlow hin
  obtain ⟨x1, x2⟩ := x
  simp only at hj hx HE
  have HC0 : Hid (∀ j u, (rcells ((canon L).take r))[j]? = some u → w2.cell? ⟨g, 0 + j, none⟩ = some u) := hide (fun j u hj => by rw [Nat.zero_add]; exact (unhide HR).cells j u (rcells_take _ _ _ _ hj))
  have HC1 : Hid (∀ j u, (rcells ((canon L).drop r))[j]? = some u → w2.cell? ⟨g, r * 2 + j, none⟩ = some u) := hide (fun j u hj => (unhide HR).cells _ u (rcells_drop _ _ _ _ (by omega) hj))
  obtain ⟨X, hX⟩ : ∃ X, X = canon L := ⟨_, rfl⟩
  rw [← hX] at HR hr hcl hn hsm HK HG HE HD HC0 HC1 c1 HM
  have hl1 : (X.take r).length = r := by rw [List.length_take]; omega
  have hl2 : (X.drop r).length = X.length - r := by rw [List.length_drop]
  obtain ⟨q, hq⟩ : ∃ q, q = X.length := ⟨_, rfl⟩
  rw [← hq] at hr hcl hn hsm HR c1 hl2 HM
  clear hX hq hcl
  have hrI : (r : Int) < (q : Int) := by omega
  have hnI : (q : Int) ≤ (cap : Int) := by omega
  have hmI : (cap : Int) ≤ 9223372036854775807 := by omega
  go_wp2_with fail
  clear hne
  go_cut [8, 9] from 24 to 37 (fun a c wx => ∃ ao cp gb cpb, a = .slice ao r cp ∧ c = .slice (some ⟨gb, 0, none⟩) (q - r) cpb ∧ ROwn wx w2.heap.size a (X.take r) ∧ ROwn wx w2.heap.size c (X.drop r) ∧ (∀ z, a.ownBlock = some z → z ≠ gb) ∧ w2.grownBy wx none)
  case first =>
    go_region_with (first | (go_at_call 39; refine (Clone_drew w2 g 0 r cap (X.take r) hl1 (by omega) (unhide HC0)).mono ?_; rintro e wa ⟨ua, rfl, oa, ga⟩; have c1a : wa.cell? ⟨b, 1, none⟩ = some (.slice (some ⟨g, 0, none⟩) q cap) := ga.cell c1 (by simp); have OA := hide oa; have GA := hide ga; clear oa ga) | (go_at_call 39; refine (Clone_at _ g (r * 2) (q - r) (cap - r) (X.drop r) hl2 (by omega) (fun j u hj => (unhide GA).cell (unhide HC1 j u hj) (by simp))).mono ?_; rintro e wb ⟨ub, rfl, ob, gb⟩; have OB := hide ob; have GB := hide gb; clear ob gb))
    all_goals go_wp2_with fail
    all_goals go_meet
    all_goals
      have ob := unhide OB
      have oa := (unhide OA).grown (unhide GB)
      have g2 := (unhide GA).trans (unhide GB)
      have sA := (unhide GA).size
      have e1 : ∃ ao cp, ua = .slice ao r cp := by
        obtain ⟨ao, cp, e, _⟩ := oa.form
        rw [hl1] at e
        exact ⟨ao, cp, e⟩
      have e2 : ∃ gb cpb, ub = .slice (some ⟨gb, 0, none⟩) (q - r) cpb ∧ wa.heap.size ≤ gb := by
        obtain ⟨ao, cp, e, _, _, h4⟩ := ob.form
        obtain ⟨gb, e2, h5, _⟩ := h4 (by omega)
        rw [hl2, e2] at e
        exact ⟨gb, cp, e, h5⟩
      obtain ⟨ao, cp, ha⟩ := e1
      obtain ⟨gb, cpb, hb, hgb⟩ := e2
      refine ⟨ao, cp, gb, cpb, ha, hb, oa, ob.mono sA, fun z hz => ?_, g2⟩
      obtain ⟨_, cur', hc'⟩ := (unhide OA).row hz
      have := lt_of_block hc'
      omega
  case rest =>
    obtain ⟨ao, cp, gb, cpb, rfl, rfl, oa, ob, hsep, hg⟩ := hcut
    clear HC0 HC1 HR HX c1 HM
    have OA := hide oa
    have OB := hide ob
    have HS := hide hsep
    have GG := hide hg
    obtain ⟨_, curb, hcb⟩ := ob.row (q := gb) rfl
    have HGb := hide (lt_of_block hcb)
    obtain ⟨hgb2, _⟩ := ob.row (q := gb) rfl
    have HGb2 := hide hgb2
    have HFr : Hid (∀ i, wc.frozen? ⟨gb, i, none⟩ = false) := hide (fun i => by simp [World.frozen?, hcb])
    have dd : wc.cell? ⟨gb, 0, none⟩ = some (.int .i64 (x1 : Int)) ∧ wc.cell? ⟨gb, 1, none⟩ = some (.int .i64 (x2 : Int)) := by
      have h0 := ob.cells 0
      have h1 := ob.cells 1
      rw [unhide HE, rcells_cons] at h0 h1
      exact ⟨h0 _ rfl, h1 _ rfl⟩
    obtain ⟨d0, d1⟩ := dd
    clear oa ob hsep hg hcb hgb2
    have hqr : (0 : Int) < ((q - r : Nat) : Int) := by omega
    by_cases hj0 : j = 0
    · subst hj0
      have e1 : X.take r = canon (L.take k) := by rw [← unhide HK]; simp [keptL]
      have e2 : X.drop r = canon (L.drop k) := by rw [← unhide HG, goneL, unhide HD, unhide HE]; rfl
      have OA2 : Hid (ROwn wc w2.heap.size (.slice ao r cp) (canon (L.take k))) := hide (e1 ▸ unhide OA)
      have OB2 : Hid (ROwn wc w2.heap.size (.slice (some ⟨gb, 0, none⟩) (q - r) cpb) (canon (L.drop k))) := hide (e2 ▸ unhide OB)
      clear e1 e2 OA OB d0 d1
      go_wp2
      go_ret2
      exact ⟨_, _, rfl, unhide OA2, unhide OB2, fun z hz e => unhide HS z e (by cases hz; rfl), unhide GG⟩
    · have hji : (0 : Int) < (j : Int) := by omega
      obtain ⟨hx1, hx2⟩ := hx
      have hxi : (x1 : Int) + (x2 : Int) ≤ 512 := by omega
      have hji2 : (j : Int) < (x2 : Int) := by omega
      have HJ := hide hj0
      clear hj0
      go_wp2_with (at_builtin; refine wpList_append_run3 rfl (.tmp 40) (.tmp 47) rfl w2.heap.size _ (X.take r) rfl ?ho ?hb ?hl ⟨_, 0, none⟩ 1 (x1, j) rfl ?hc ?_)
      case ho => exact (unhide OA).grown (World.grownBy_alloc _ _ _)
      case hb => have := (unhide GG).size; simp; omega
      case hl => omega
      intro v3 w3 o3 g3 s3
      have OA3 : Hid (ROwn w3 w2.heap.size v3 (canon (L.take k))) := hide (by
        rw [← unhide HK, keptL, unhide HD, if_pos (by omega)]
        exact o3)
      have hne : some gb ≠ (Value.slice ao r cp).ownBlock := fun e => unhide HS gb e.symm rfl
      have g3' : wc.grownBy w3 (Value.slice ao r cp).ownBlock := (World.grownBy_alloc _ _ _).trans g3
      have hbk : w3.heap[gb]? = wc.heap[gb]? := g3'.block gb (unhide HGb) hne
      have OB3 : Hid (ROwn w3 w2.heap.size (.slice (some ⟨gb, 0, none⟩) (q - r) cpb) (X.drop r)) := hide ((unhide OB).kept g3' (fun z hz => by cases hz; exact hne))
      have GG3 : Hid (w2.grownBy w3 none) := hide (own_step' ((unhide GG).trans (World.grownBy_alloc _ _ _)) ((unhide OA).grown (World.grownBy_alloc _ _ _)) g3)
      have HS3 : Hid (v3.ownBlock ≠ some gb) := hide (by
        intro e
        rcases s3 with h | ⟨z, h1, h2⟩
        · exact hne (by rw [← h, e])
        · rw [e] at h1
          cases h1
          have := unhide HGb
          (try simp at h2)
          omega)
      have HF3 : Hid (∀ i, w3.frozen? ⟨gb, i, none⟩ = false) := hide (fun i => by
        have := unhide HFr i
        simp only [World.frozen?, hbk] at this ⊢
        exact this)
      have f0 := unhide HF3 0
      have f1 := unhide HF3 1
      have k0 : w3.cell? ⟨gb, 0, none⟩ = some (.int .i64 (x1 : Int)) := by rw [← d0]; simp only [World.cell?, hbk]
      have k1 : w3.cell? ⟨gb, 1, none⟩ = some (.int .i64 (x2 : Int)) := by rw [← d1]; simp only [World.cell?, hbk]
      obtain ⟨ao3, cap3, hv3, _⟩ := o3.form
      have hv3' : ∃ n3, v3 = .slice ao3 n3 cap3 := ⟨_, hv3⟩
      obtain ⟨n3, rfl⟩ := hv3'
      have HFin : Hid (ROwn ((w3.setCell ⟨gb, 0, none⟩ (.int .i64 ((x1 : Int) + (j : Int)))).setCell ⟨gb, 1, none⟩ (.int .i64 ((x2 : Int) - (j : Int)))) w2.heap.size (.slice (some ⟨gb, 0, none⟩) (q - r) cpb) (canon (L.drop k))) := hide (by
        have h1 := unhide OB3
        rw [unhide HE] at h1
        have h2 := h1.set0 0 (x1 + j) (by simp)
        have h3 := h2.set1 0 (x2 - j) (by simp)
        rw [← unhide HG, goneL, unhide HD]
        rw [← Int.natCast_add, ← Int.natCast_sub (by omega)]
        exact h3)
      have HGF : Hid (w2.grownBy ((w3.setCell ⟨gb, 0, none⟩ (.int .i64 ((x1 : Int) + (j : Int)))).setCell ⟨gb, 1, none⟩ (.int .i64 ((x2 : Int) - (j : Int)))) none) := hide (own_step (unhide GG3) (unhide HGb2) ((setCell_grown _ _ _ _).trans (setCell_grown _ _ _ _)))
      have HKF : Hid (ROwn ((w3.setCell ⟨gb, 0, none⟩ (.int .i64 ((x1 : Int) + (j : Int)))).setCell ⟨gb, 1, none⟩ (.int .i64 ((x2 : Int) - (j : Int)))) w2.heap.size (.slice ao3 n3 cap3) (canon (L.take k))) := hide ((unhide OA3).kept ((setCell_grown _ gb _ _).trans (setCell_grown _ gb _ _)) (fun z hz e => unhide HS3 (by rw [hz, e])))
      clear hv3 o3 g3 s3 g3' hbk OA OB OB3 OA3 GG GG3 d0 d1 HFr HF3 hne
      go_wp2
      go_ret2
      exact ⟨_, _, rfl, unhide HKF, unhide HFin, fun z hz e => unhide HS3 (by cases hz; exact e), unhide HGF⟩
end Go.Proofs.Ythjcdibblhcgpaa

/-
  DERIVED. Cut, Copy.
-/
namespace Go.Proofs.Ythjcdibblhcgpaa
open Go.RowKit
set_option linter.unusedVariables false

theorem parted_all (w : World) (b n : Nat) (v : Value) (L : List Nat) (h : NdAt w b n v L) (k : Nat) (hk : k ≤ L.length) :
    Calls Try.prog 47 #[.pointer (some ⟨b, 0, none⟩), .int .i64 (k : Int)] w fun e w' => ∃ a c, e = .returned (.tuple #[a, c]) ∧ ROwn w' 0 a (canon (L.take k)) ∧ ROwn w' w.heap.size c (canon (L.drop k)) ∧ (∀ q, c.ownBlock = some q → a.ownBlock ≠ some q) ∧ w.grownBy w' none := by
  by_cases hlt : k < L.length
  · refine (parted_any w b n v L h k hlt).mono ?_
    rintro e w' ⟨a, c, rfl, h1, h2, h3, h4⟩
    exact ⟨a, c, rfl, h1.mono (Nat.zero_le _), h2, h3, h4⟩
  · have hke : (k : Int) = (L.length : Int) := by omega
    have c1 := h.val
    have HM := hide h
    have e1 : L.take k = L := List.take_of_length_le (by omega)
    have e2 : L.drop k = [] := List.drop_eq_nil_of_le (by omega)
    rw [e1, e2]
    clear h hlt e1 e2
    go_enter Try.func47, Try.ntmps47
    go_wp2_with fail
    refine (Blocks_any w b n v L (unhide HM)).mono ?_
    rintro e w1 ⟨rfl, rfl⟩
    go_wp2
    go_ret2
    exact ⟨_, _, rfl, (unhide HM).runs, ROwn.nil _ _, fun q hq => (by cases hq), World.grownBy.refl _ _⟩

set_option maxHeartbeats 2000000 in
theorem Cut_ok (w : World) (b n : Nat) (v : Value) (L : List Nat) (h : NdAt w b n v L) (k : Nat) (hk : k ≤ n) :
    Calls Try.prog 35 #[.pointer (some ⟨b, 0, none⟩), .int .i64 (k : Int)] w fun e w' => ∃ a c, e = .returned (.tuple #[c, .int .i64 0]) ∧ NdAt w' b k a (L.take (bf k)) ∧ ROwn w' w.heap.size c (canon (L.drop (bf k))) ∧ (∀ q, c.ownBlock = some q → a.ownBlock ≠ some q) ∧ w.grownBy w' (some b) := by
  have c0 := h.num
  have HM := hide h
  have hle := h.le
  have hn1 : ¬ (k : Int) < 0 := by omega
  have hn2 : ¬ (n : Int) < (k : Int) := by omega
  have hni : (n : Int) ≤ 32768 := by omega
  have hbk : bf k ≤ L.length := by rw [h.len]; unfold bf; omega
  clear h
  go_enter Try.func35, Try.ntmps35
  go_wp2_with fail
  refine (blocksFor_any w k (by omega)).mono ?_
  rintro e w1 ⟨rfl, rfl⟩
  go_wp2_with fail
  refine (parted_all w1 b n v L (unhide HM) (bf k) hbk).mono ?_
  rintro e w2 ⟨a, c, rfl, oa, oc, hs, hg⟩
  have m2 := (unhide HM).grown hg
  obtain ⟨t1, t2, t3⟩ := m2.turned oa (show k ≤ 32768 by omega) (by rw [List.length_take]; omega) (low_take m2.lw _) (k : Int) rfl
  have T1 := hide t1
  have T3 := hide t3
  have OC : Hid (ROwn ((w2.setCell ⟨b, 0, none⟩ (.int .i64 (k : Int))).setCell ⟨b, 1, none⟩ a) w1.heap.size c (canon (L.drop (bf k)))) := hide (oc.far m2 t3)
  have HS := hide hs
  have HG := hide hg
  have d0 := m2.num
  have d1 := m2.val
  have f0 := m2.frozen 0
  have f1 := m2.frozen 1
  obtain ⟨ao, cap, ha, _⟩ := oa.form
  obtain ⟨m, hm⟩ : ∃ m, a = .slice ao m cap := ⟨_, ha⟩
  clear ha
  subst hm
  clear t1 t2 t3 oa oc hs hg m2 c0
  go_wp2
  go_ret2
  exact ⟨_, c, rfl, unhide T1, unhide OC, unhide HS, ((unhide HG).but _).trans (unhide T3)⟩
theorem Cut_far (w : World) (b n : Nat) (v : Value) (L : List Nat) (h : NdAt w b n v L) (k : Int) (hk : k < 0 ∨ (n : Int) < k) :
    Calls Try.prog 35 #[.pointer (some ⟨b, 0, none⟩), .int .i64 k] w fun e w' => e = .returned (.tuple #[.slice none 0 0, .int .i64 60]) ∧ w' = w := by
  have c0 := h.num
  clear h
  by_cases h1 : k < 0
  · clear hk
    go_enter Try.func35, Try.ntmps35
    go_wp2
    go_ret2
    exact ⟨rfl, rfl⟩
  · have h2 : (n : Int) < k := by omega
    clear hk
    go_enter Try.func35, Try.ntmps35
    go_wp2
    go_ret2
    exact ⟨rfl, rfl⟩

set_option maxRecDepth 20000 in
set_option maxHeartbeats 2000000 in
theorem Copy_any (w : World) (b n : Nat) (v : Value) (L : List Nat) (h : NdAt w b n v L) :
    Calls Try.prog 18 #[.pointer (some ⟨b, 0, none⟩)] w fun e w' => ∃ c u, e = .returned (.pointer (some ⟨c, 0, none⟩)) ∧ w.heap.size ≤ c ∧ NdAt w' c n u L ∧ ROwn w' w.heap.size u (canon L) ∧ w.grownBy w' none := by
  have c0 := h.num
  have c1 := h.val
  have HM := hide h
  clear h
  go_enter Try.func18, Try.ntmps18
  go_wp2_with fail
  go_region_with (go_at_call 31; refine (Runs_any _ b n v L ((unhide HM).drewN _)).mono ?_; rintro e w1 ⟨u, rfl, o1, g1⟩; obtain ⟨ao, cap, hu, _, _, _⟩ := o1.form; subst hu; have d0 : w1.cell? ⟨b, 0, none⟩ = some (.int .i64 (n : Int)) := g1.cell c0 (by simp); have O1 := hide o1; have G1 := hide g1; have M1 := hide (((unhide HM).drewN _).grown g1); clear o1 g1)
  all_goals go_wp2
  all_goals go_ret
  all_goals
    have o2 := (unhide O1).grown (World.grownBy_alloc w1 (.cells #[.int .i64 (n : Int), .slice ao (canon L).length cap] 58) none)
    have m1 := unhide M1
    refine ⟨w1.heap.size, _, rfl, (unhide G1).size, ⟨heap_alloc_new _ _, o2.mono (Nat.zero_le _), m1.le, m1.len, m1.lw⟩, o2, ?_⟩
    exact World.grownBy.trans (b := w1) ⟨(unhide G1).os, (unhide G1).tape, (unhide G1).output, (unhide G1).size, (unhide G1).block⟩ ⟨rfl, rfl, rfl, by simp, fun k hk _ => Below.heap_alloc _ _ _ hk⟩
end Go.Proofs.Ythjcdibblhcgpaa

/-
  DERIVED. parts, bytes.Equal, bytes.HasPrefix.
-/
namespace Go.Proofs.Ythjcdibblhcgpaa
open Go.RowKit
set_option linter.unusedVariables false

def pairs : List Nat → List (Nat × Nat)
  | a :: b :: r => (a, b) :: pairs r
  | _ => []
theorem pairs_step : ∀ (xs : List Nat) (k : Nat), 2 * k + 1 < xs.length → pairs (xs.take (2 * (k + 1))) = pairs (xs.take (2 * k)) ++ [(xs.getD (2 * k) 0, xs.getD (2 * k + 1) 0)]
  | [], k, h => by simp at h
  | [a], k, h => by simp at h
  | a :: b :: r, 0, h => by simp [pairs]
  | a :: b :: r, k + 1, h => by
    have h' : 2 * k + 1 < r.length := by simp at h; omega
    have ih := pairs_step r k h'
    rw [show 2 * (k + 1 + 1) = 2 * (k + 1) + 1 + 1 by omega, List.take_succ_cons, List.take_succ_cons, show 2 * (k + 1) = 2 * k + 1 + 1 by omega, List.take_succ_cons, List.take_succ_cons, show 2 * k + 1 + 1 = 2 * (k + 1) by omega]
    simp only [pairs]
    rw [ih, List.cons_append]
    congr 3
theorem pairs_len : ∀ (n : Nat) (xs : List Nat), xs.length = 2 * n → (pairs xs).length = n
  | 0, xs, h => by
    have e : xs = [] := List.eq_nil_of_length_eq_zero (by omega)
    subst e
    rfl
  | n + 1, xs, h => by
    match xs, h with
    | a :: b :: r, h =>
      have := pairs_len n r (by simp at h; omega)
      simp [pairs, this]
    | [a], h => simp at h; omega
    | [], h => simp at h
theorem pairs_mem : ∀ (xs : List Nat), (∀ x ∈ xs, x ≤ 32768) → ∀ y ∈ pairs xs, y.1 ≤ 32768 ∧ y.2 ≤ 32768
  | [], _, y, hy => by cases hy
  | [a], _, y, hy => by cases hy
  | a :: b :: r, h, y, hy => by
    rcases List.mem_cons.1 hy with rfl | hy
    · exact ⟨h _ (by simp), h _ (by simp)⟩
    · exact pairs_mem r (fun x hx => h x (by simp [hx])) y hy

/-- A size and runs off bytes, and what is behind them. -/
def prt (l : List UInt8) : Option (Nat × List (Nat × Nat) × List UInt8) :=
  match nums 2 l with
  | none => none
  | some (hd, r) => (nums (2 * hd.getD 1 0) r).map fun p => (hd.getD 0 0, pairs p.1, p.2)
theorem prt_facts {l : List UInt8} {a : Nat} {X : List (Nat × Nat)} {r : List UInt8} (h : prt l = some (a, X, r)) : a ≤ 32768 ∧ X.length ≤ 32768 ∧ ∀ y ∈ X, y.1 ≤ 32768 ∧ y.2 ≤ 32768 := by
  unfold prt at h
  cases h2 : nums 2 l with
  | none => rw [h2] at h; cases h
  | some p =>
    rw [h2] at h
    obtain ⟨hd, r0⟩ := p
    simp only at h
    obtain ⟨p, hp, e⟩ := Option.map_eq_some_iff.1 h
    obtain ⟨xs, r2⟩ := p
    simp only [Prod.mk.injEq] at e
    obtain ⟨rfl, rfl, rfl⟩ := e
    obtain ⟨l1, m1⟩ := nums_len _ _ _ _ h2
    obtain ⟨l2, m2⟩ := nums_len _ _ _ _ hp
    match hd, l1 with
    | [x, y], _ =>
      refine ⟨m1 x (by simp), ?_, pairs_mem xs m2⟩
      rw [pairs_len y xs (by simpa using l2)]
      exact m1 y (by simp)

def PrtPost (w : World) (l : List UInt8) (e : Ending) (w' : World) : Prop :=
  w.grownBy w' none ∧ ((prt l = none ∧ ∃ (z : Int) (vx : Value), e = .returned (.tuple #[.int .i64 z, vx, .bool false])) ∨ ∃ a X r vx, prt l = some (a, X, r) ∧ e = .returned (.tuple #[.int .i64 (a : Int), vx, .bool true]) ∧ ROwn w' w.heap.size vx X)

set_option maxRecDepth 20000 in
set_option maxHeartbeats 4000000 in
theorem parts_any (w : World) (v : Value) (l : List UInt8) (hv : Sl w v l) : Calls Try.prog 25 #[v] w (PrtPost w l) := by
  have HV := hide hv
  clear hv
  have e2 : ((2 : Nat) : Int) = 2 := rfl
  go_enter Try.func25, Try.ntmps25
  go_wp2_with fail
  refine (numbers_any w v l 2 (unhide HV) (by omega)).mono ?_
  rintro e w1 ⟨g1, h1⟩
  have G1 := hide g1
  rcases h1 with ⟨h1, rfl⟩ | ⟨hd, r, vx, vr, h1, rfl, o1, s1⟩
  · have HNo : Hid (prt l = none) := hide (by unfold prt; rw [h1])
    clear g1 h1
    go_wp2
    go_ret3
    exact ⟨unhide G1, .inl ⟨unhide HNo, _, _, rfl⟩⟩
  · obtain ⟨hl2, hm2⟩ := nums_len _ _ _ _ h1
    have H1 := hide h1
    match hd, hl2 with
    | [a, m], _ =>
      have ha : a ≤ 32768 := hm2 a (by simp)
      have hm : m ≤ 32768 := hm2 m (by simp)
      have hmI : (m : Int) ≤ 32768 := by omega
      obtain ⟨ao, cap, rfl, hc1, hc2, h4⟩ := o1.form
      obtain ⟨g, rfl, hgl, hcell⟩ := h4 (by simp)
      have HC0 := hide (hcell 0 (by simp))
      have HC1 := hide (hcell 1 (by simp))
      have c1 := hcell 1 (by simp)
      simp only [List.length_cons, List.length_nil, Nat.zero_add, Nat.reduceAdd, List.getElem_cons_succ, List.getElem_cons_zero] at c1 HC0 HC1 hc1 ⊢
      have S1 := hide s1
      clear g1 o1 s1 h4 hcell hm2 h1 e2
      go_wp2_with fail
      refine (show Calls Try.prog 41 #[vr, .int .i64 (2 * (m : Int))] w1 _ from ?_)
      have := numbers_any w1 vr r (2 * m) (unhide S1) (by omega)
      rw [show (((2 * m : Nat)) : Int) = 2 * (m : Int) by omega] at this
      refine this.mono ?_
      clear this c1
      rintro e w2 ⟨g2, h2⟩
      have G2 : Hid (w.grownBy w2 none) := hide ((unhide G1).trans g2)
      have d0 := g2.cell (unhide HC0) (by simp)
      have SZ := hide (unhide G1).size
      rcases h2 with ⟨h2, rfl⟩ | ⟨xs, r2, vy, vr2, h2, rfl, o2, s2⟩
      · have HNo : Hid (prt l = none) := hide (by unfold prt; rw [unhide H1]; simp only; rw [show 2 * [a, m].getD 1 0 = 2 * m from rfl, h2]; rfl)
        clear g2 h2
        go_wp2
        go_loopw [10, 11] (fun x i wr => i = .int .i64 0 ∧ x = .slice none 0 0 ∧ wr = w2) (fun _ i _ => 0)
        case atStart => exact ⟨rfl, rfl, rfl⟩
        case round =>
          obtain ⟨rfl, rfl, rfl⟩ := hrel
          go_wp2
          go_ret3
          exact ⟨unhide G2, .inl ⟨unhide HNo, _, _, rfl⟩⟩
      · have HYes : Hid (prt l = some (a, pairs xs, r2)) := hide (by unfold prt; rw [unhide H1]; simp only; rw [show 2 * [a, m].getD 1 0 = 2 * m from rfl, h2]; rfl)
        obtain ⟨hl3, hm3⟩ := nums_len _ _ _ _ h2
        obtain ⟨bo, bcap, rfl, hb1, hb2, hb4⟩ := o2.form
        have O2 := hide o2
        obtain ⟨n, hn⟩ : ∃ n, n = xs.length := ⟨_, rfl⟩
        rw [← hn] at hb1 hl3 O2 ⊢
        have HNn := hide hn
        have hnI : (n : Int) ≤ 65536 := by omega
        have hnm : n = 2 * m := hl3
        have HNm := hide hnm
        clear hn g2 h2 o2 s2 hb4 hl3 hnm
        go_wp2
        go_loopw [10, 11] (fun x i wr => ∃ k : Nat, i = .int .i64 ((2 * k : Nat) : Int) ∧ k ≤ m ∧ ROwn wr w2.heap.size x (pairs (xs.take (2 * k))) ∧ w2.grownBy wr none) (fun _ i _ => n - (intOf i).toNat)
        case atStart => exact ⟨0, rfl, by omega, by simpa [pairs] using ROwn.nil w2 w2.heap.size, World.grownBy.refl _ _⟩
        case round =>
          obtain ⟨k, rfl, hk, hR, hG⟩ := hrel
          have HR := hide hR
          have HGi := hide hG
          obtain ⟨i, hi⟩ : ∃ i, i = 2 * k := ⟨_, rfl⟩
          rw [← hi] at HR ⊢
          have HIk := hide hi
          have hiI : (i : Int) ≤ 65536 := by omega
          clear hR hG
          by_cases hlt : k < m
          · have hlt' : (i : Int) < (n : Int) := by have := unhide HNm; omega
            have hlt2 : (i : Int) + 1 < (n : Int) := by have := unhide HNm; omega
            have hk1 : i + 1 < xs.length := by have := unhide HNm; have := unhide HNn; omega
            have hpl : (pairs (xs.take i)).length ≤ 65536 := by rw [pairs_len k _ (by rw [List.length_take]; omega)]; omega
            obtain ⟨ao', cap', e, _, _, h4⟩ := ((unhide O2).grown (unhide HGi)).form
            injection e with e1 e2 e3
            obtain ⟨g2, hbo, hg2l, hcell⟩ := h4 (by omega)
            rw [← e1] at hbo
            subst hbo
            have d1 := hcell i (by omega)
            have d2 := hcell (i + 1) hk1
            have HPs : Hid (pairs (xs.take (2 * (k + 1))) = pairs (xs.take i) ++ [(xs[i], xs[i + 1])]) := hide (by
              have h := pairs_step xs k (by omega)
              rw [← hi] at h
              rw [h]
              simp [List.getD_eq_getElem?_getD, List.getElem?_eq_getElem hk1, List.getElem?_eq_getElem (show i < xs.length by omega)])
            have hy1 := hm3 xs[i] (List.getElem_mem _)
            have hy2 := hm3 xs[i + 1] (List.getElem_mem _)
            obtain ⟨y1, hy1e⟩ : ∃ y, y = xs[i] := ⟨_, rfl⟩
            obtain ⟨y2, hy2e⟩ : ∃ y, y = xs[i + 1] := ⟨_, rfl⟩
            rw [← hy1e] at d1 HPs hy1
            rw [← hy2e] at d2 HPs hy2
            clear e1 e2 e3 h4 hcell hy1e hy2e hi
            have HSz : Hid (w2.heap.size ≤ wr.heap.size) := hide (unhide HGi).size
            have hyI1 : (y1 : Int) ≤ 32768 := by omega
            have hwi : IntKind.i64.wrap ((i : Int) + 1) = (i : Int) + 1 := by rw [IntKind.wrap_i64]; omega
            have hi0 : (0 : Int) ≤ (i : Int) + 1 := by omega
            have hyI2 : (y2 : Int) ≤ 32768 := by omega
            go_wp2_with fail
            go_region_law (first | (refine step_append_run rfl (.tmp 36) (.tmp 47) rfl w2.heap.size u10 (pairs (xs.take i)) rfl ?own hpl ?hb ⟨_, 0, none⟩ 1 (y1, y2) rfl ?hy ?_; (case own => (first | exact (unhide HR).grown (gr_da _ _) | exact (unhide HR).grown (gr_ad _ _))); (case hb => (have h7 := unhide HSz; simp; omega)); (case hy => (first | exact one_cells _ _ _ | exact one_cells (wr.drew) _ _)); intro v3 w3 o3 g3; have R3 : Hid (ROwn w3 w2.heap.size v3 (pairs (xs.take (2 * (k + 1))))) := hide (by rw [unhide HPs]; exact o3); have G3 : Hid (w2.grownBy w3 none) := hide (by first | exact ((unhide HGi).trans (gr_ad _ _)).andThen g3 (fun q e => .inl ((unhide HR).row e).1) | exact ((unhide HGi).trans (gr_da _ _)).andThen g3 (fun q e => .inl ((unhide HR).row e).1)); clear o3 g3))
            all_goals
              go_wp2
              go_roundw
              case rel => exact ⟨k + 1, by have := unhide HIk; congr 1; omega, by omega, unhide R3, unhide G3⟩
              case measure => simp [intOf]; omega
          · have hlt' : ¬ (i : Int) < (n : Int) := by have := unhide HNm; omega
            have HF : Hid (ROwn wr w.heap.size u10 (pairs xs)) := hide (by
              have h := (unhide HR).mono (unhide G2).size
              rw [List.take_of_length_le (by have := unhide HNm; have := unhide HNn; omega)] at h
              exact h)
            clear hi
            have d3 := (unhide HGi).cell d0 (by simp)
            go_wp2
            go_ret3
            exact ⟨(unhide G2).trans (unhide HGi), .inr ⟨a, pairs xs, r2, _, unhide HYes, rfl, unhide HF⟩⟩
end Go.Proofs.Ythjcdibblhcgpaa

/-
  DERIVED. bytes.Equal, bytes.HasPrefix, Extend that is refused, Read.
-/
namespace Go.Proofs.Ythjcdibblhcgpaa
open Go.RowKit
set_option linter.unusedVariables false

theorem list_beq (l m : List UInt8) : (l == m) = decide (l = m) := by
  by_cases h : l = m
  · rw [decide_eq_true h]
    exact beq_iff_eq.2 h
  · rw [decide_eq_false h]
    exact beq_eq_false_iff_ne.2 h
theorem Equal_any (w : World) (v u : Value) (l m : List UInt8) (hv : Sl w v l) (hu : Sl w u m) :
    Calls Try.prog 42 #[v, u] w fun e w' => e = .returned (.bool (decide (l = m))) ∧ w' = w := by
  have s1 := hv.str
  have s2 := hu.str
  have HE := hide (list_beq l m)
  clear hv hu
  go_enter Try.func42, Try.ntmps42
  go_wp2
  go_ret
  rw [← unhide HE]
  exact ⟨rfl, rfl⟩
theorem HasPrefix_any (w : World) (v u : Value) (l m : List UInt8) (hv : Sl w v l) (hu : Sl w u m) :
    Calls Try.prog 26 #[v, u] w fun e w' => e = .returned (.bool (decide (l.take m.length = m))) ∧ w' = w := by
  have HV := hide hv
  have HU := hide hu
  obtain ⟨ao, cap, rfl, h1, h2, h4⟩ := hv
  obtain ⟨bo, bap, rfl, k1, k2, k4⟩ := hu
  unfold maxLen at h2 k2
  have hl1 : (l.length : Int) ≤ (cap : Int) := by omega
  have hl2 : (cap : Int) ≤ 9223372036854775807 := by omega
  clear h4 k4
  by_cases hle : m.length ≤ l.length
  · have hle' : (m.length : Int) ≤ (l.length : Int) := by omega
    have HT : Hid (Sl w (.slice ao m.length cap) (l.take m.length)) := hide (by
      obtain ⟨ao', cap', e, a1, a2, a4⟩ := unhide HV
      injection e with e1 e2 e3
      subst e1 e3
      have hl : (l.take m.length).length = m.length := by rw [List.length_take]; omega
      refine ⟨ao, cap, by rw [hl], by rw [hl]; omega, a2, fun hne => ?_⟩
      obtain ⟨b, off, e, hb, hc⟩ := a4 hne
      exact ⟨b, off, e, hb, fun i hi => by rw [List.getElem_take]; exact hc i (by rw [hl] at hi; omega)⟩)
    go_enter Try.func26, Try.ntmps26
    go_wp2_with fail
    refine (Equal_any w _ _ (l.take m.length) m (unhide HT) (unhide HU)).mono ?_
    rintro e w1 ⟨rfl, rfl⟩
    go_wp2
    go_ret
    exact ⟨rfl, rfl⟩
  · have hle' : ¬ (m.length : Int) ≤ (l.length : Int) := by omega
    have HF : Hid (decide (l.take m.length = m) = false) := hide (decide_eq_false (fun e => by
      have := congrArg List.length e
      rw [List.length_take] at this
      omega))
    go_enter Try.func26, Try.ntmps26
    go_wp2
    go_ret
    rw [unhide HF]
    exact ⟨rfl, rfl⟩

theorem Extend_bad (w : World) (b n m : Nat) (v u : Value) (L : List Nat) (l : List (Int × Int)) (h : NdAt w b n v L) (hm : n + m ≤ 32768) (hu : Rn w u l) (hl : l.length ≤ 1125899906842624) (hno : ¬ okL l ((bf (n + m) - bf n : Nat) : Int)) :
    Calls Try.prog 10 #[.pointer (some ⟨b, 0, none⟩), .int .i64 (m : Int), u] w fun e w' => e = .returned (.int .i64 1) ∧ w.grownBy w' none := by
  have HM := hide h
  have HU := hide hu
  have HNo := hide (decide_eq_false hno)
  have hbl := bf_le hm
  clear h hu hno
  go_enter Try.func10, Try.ntmps10
  go_wp2_with fail
  refine (Need_ok w b n v L (unhide HM) m hm).mono ?_
  rintro e w1 ⟨rfl, rfl⟩
  obtain ⟨d, hd⟩ : ∃ d, d = bf (n + m) - bf n := ⟨_, rfl⟩
  rw [← hd] at HNo ⊢
  have hd64 : d ≤ 64 := by omega
  clear hd
  go_wp2_with fail
  refine (haveJust_any w1 u l d (unhide HU) (by omega) hl).mono ?_
  rintro e w2 ⟨rfl, g2⟩
  rw [unhide HNo]
  go_wp2
  go_ret
  exact ⟨rfl, g2⟩

/-- What Read reads: the size, the blocks, how many bytes. -/
def rdN (l : List UInt8) : Option (Nat × List Nat × Nat) :=
  match prt l with
  | none => none
  | some (a, X, _) => if okL (X.map toI) ((bf a : Nat) : Int) ∧ l.take (tellN a (bks X)).length = tellN a (bks X) then some (a, bks X, (tellN a (bks X)).length) else none
def ReadPost (w : World) (l : List UInt8) (e : Ending) (w' : World) : Prop :=
  w.grownBy w' none ∧ ((rdN l = none ∧ e = .returned (.tuple #[.pointer none, .int .i64 0, .int .i64 61])) ∨ ∃ a L n b v, rdN l = some (a, L, n) ∧ e = .returned (.tuple #[.pointer (some ⟨b, 0, none⟩), .int .i64 (n : Int), .int .i64 0]) ∧ w.heap.size ≤ b ∧ NdAt w' b a v L)

set_option maxRecDepth 20000 in
set_option maxHeartbeats 4000000 in
theorem Read_any (w : World) (v : Value) (l : List UInt8) (hv : Sl w v l) : Calls Try.prog 12 #[v] w (ReadPost w l) := by
  have HV := hide hv
  clear hv
  go_enter Try.func12, Try.ntmps12
  go_wp2_with fail
  refine (parts_any w v l (unhide HV)).mono ?_
  rintro e w1 ⟨g1, h1⟩
  have G1 := hide g1
  rcases h1 with ⟨h1, z, vx, rfl⟩ | ⟨a, X, r, vx, h1, rfl, o1⟩
  · have HNo : Hid (rdN l = none) := hide (by unfold rdN; rw [h1])
    clear g1 h1
    go_wp2_with fail
    refine (New_any w1).mono ?_
    rintro e w2 ⟨rfl, _, g2⟩
    have G2 : Hid (w.grownBy w2 none) := hide ((unhide G1).trans g2)
    clear g2
    go_wp2
    go_ret3
    exact ⟨unhide G2, .inl ⟨unhide HNo, rfl⟩⟩
  · obtain ⟨ha, hXl, hXm⟩ := prt_facts h1
    have H1 := hide h1
    have O1 := hide o1
    clear g1 h1 o1
    go_wp2_with fail
    refine (New_any w1).mono ?_
    rintro e w2 ⟨rfl, m2, g2⟩
    have SB : Hid (w.heap.size ≤ w1.heap.size) := hide (unhide G1).size
    obtain ⟨b, hb⟩ : ∃ b, b = w1.heap.size := ⟨_, rfl⟩
    rw [← hb] at m2 SB ⊢
    have M2 := hide m2
    have G2 : Hid (w.grownBy w2 none) := hide ((unhide G1).trans g2)
    have R2 : Hid (Rn w2 vx (X.map toI)) := hide (((unhide O1).grown g2).rn (fun x hx => by have := hXm x hx; omega))
    have HB0 : Hid (bf (0 + a) - bf 0 = bf a) := hide (by rw [Nat.zero_add]; unfold bf; omega)
    clear hb m2 g2 O1 hXm
    by_cases hok : okL (X.map toI) ((bf a : Nat) : Int)
    · obtain ⟨Y, hY, hY2, hYt⟩ := of_okL hok
      have hXY : X = Y := by
        have inj : ∀ (A B : List (Nat × Nat)), A.map toI = B.map toI → A = B := by
          intro A
          induction A with
          | nil => intro B h; cases B with
            | nil => rfl
            | cons _ _ => cases h
          | cons x A ih => intro B h; cases B with
            | nil => cases h
            | cons y B =>
              simp only [List.map_cons, List.cons.injEq, toI, Prod.mk.injEq] at h
              obtain ⟨⟨h1, h2⟩, h3⟩ := h
              rw [ih B h3]
              congr 1
              exact Prod.ext (by omega) (by omega)
        exact inj X Y hY
      subst hXY
      have HY2 := hide hY2
      have HOk := hide hok
      clear hok hY
      go_wp2_with fail
      refine (Extend_ok w2 b 0 a _ vx [] X (unhide M2) (by omega) (unhide R2) (unhide HY2) (by rw [hYt]; exact (unhide HB0).symm)).mono ?_
      rintro e w3 ⟨rfl, v3, m3, _, g3⟩
      rw [Nat.zero_add, List.nil_append] at m3
      have M3 := hide m3
      have G3 := hide (own_step (unhide G2) (unhide SB) g3)
      have hcl := m3.small.2
      clear m3 g3 M2 G2 R2
      go_wp2_with fail
      refine (Bytes_any w3 b a v3 (bks X) (unhide M3)).mono ?_
      rintro e w4 ⟨u4, rfl, o4, g4⟩
      have M4 := hide ((unhide M3).grown g4)
      have G4 : Hid (w.grownBy w4 none) := hide ((unhide G3).trans g4)
      have S4 := hide o4.sl
      obtain ⟨co, ccap, hu4, _, _, _⟩ := o4.sl
      clear o4 g4 M3 G3
      subst hu4
      have hTl : ((tellN a (bks X)).length : Int) ≤ 1400 := by have := tellN_len (n := a) hcl; omega
      go_wp2_with fail
      refine (HasPrefix_any w4 v _ l (tellN a (bks X)) ((unhide HV).kept (unhide G4)) (unhide S4)).mono ?_
      rintro e w5 ⟨rfl, rfl⟩
      by_cases hp : l.take (tellN a (bks X)).length = tellN a (bks X)
      · have hD : decide (l.take (tellN a (bks X)).length = tellN a (bks X)) = true := decide_eq_true hp
        have HYes : Hid (rdN l = some (a, bks X, (tellN a (bks X)).length)) := hide (by unfold rdN; rw [unhide H1]; simp only; rw [if_pos ⟨unhide HOk, hp⟩])
        rw [hD]
        clear hp hD
        go_wp2
        go_ret3
        exact ⟨unhide G4, .inr ⟨a, bks X, _, b, v3, unhide HYes, rfl, unhide SB, unhide M4⟩⟩
      · have hD : decide (l.take (tellN a (bks X)).length = tellN a (bks X)) = false := decide_eq_false hp
        have HNo : Hid (rdN l = none) := hide (by unfold rdN; rw [unhide H1]; simp only; rw [if_neg (fun h => hp h.2)])
        rw [hD]
        clear hp hD
        go_wp2
        go_ret3
        exact ⟨unhide G4, .inl ⟨unhide HNo, rfl⟩⟩
    · have HNo : Hid (rdN l = none) := hide (by unfold rdN; rw [unhide H1]; simp only; rw [if_neg (fun h => hok h.1)])
      have HOk := hide hok
      clear hok
      go_wp2_with fail
      refine (Extend_bad w2 b 0 a _ vx [] (X.map toI) (unhide M2) (by omega) (unhide R2) (by rw [List.length_map]; omega) (by rw [unhide HB0]; exact unhide HOk)).mono ?_
      rintro e w3 ⟨rfl, g3⟩
      have G3 : Hid (w.grownBy w3 none) := hide ((unhide G2).trans g3)
      clear g3
      go_wp2
      go_ret3
      exact ⟨unhide G3, .inl ⟨unhide HNo, rfl⟩⟩
end Go.Proofs.Ythjcdibblhcgpaa

/-
  DERIVED. Calls on a node and on the document's, side by side: what both answer.
-/
namespace Go.Proofs.Ythjcdibblhcgpaa
open Go.RowKit
set_option linter.unusedVariables false

def needV (n : Nat) (N : Int) : Int × Int := if N < 0 then (0, 1) else if 32768 < (n : Int) + N then (0, 60) else (((bf (n + N.toNat) - bf n : Nat) : Int), 0)
theorem Need_val (w : World) (b n : Nat) (v : Value) (L : List Nat) (h : NdAt w b n v L) (N : Int) (hN : I64 N) : Calls Try.prog 9 #[.pointer (some ⟨b, 0, none⟩), .int .i64 N] w fun e w' => e = .returned (.tuple #[.int .i64 (needV n N).1, .int .i64 (needV n N).2]) ∧ w.grownBy w' none := by
  unfold needV
  by_cases h1 : N < 0
  · rw [if_pos h1]
    refine (Need_neg w b n v L h N h1).mono ?_
    rintro e w' ⟨rfl, rfl⟩
    exact ⟨rfl, World.grownBy.refl _ _⟩
  · rw [if_neg h1]
    by_cases h2 : 32768 < (n : Int) + N
    · rw [if_pos h2]
      refine (Need_far w b n v L h N h2 (by omega) hN.2).mono ?_
      rintro e w' ⟨rfl, rfl⟩
      exact ⟨rfl, World.grownBy.refl _ _⟩
    · rw [if_neg h2]
      obtain ⟨m, rfl⟩ := Int.eq_ofNat_of_zero_le (show 0 ≤ N by omega)
      refine (Need_ok w b n v L h m (by omega)).mono ?_
      rintro e w' ⟨rfl, rfl⟩
      exact ⟨rfl, World.grownBy.refl _ _⟩
theorem rNeed_val (w : World) (b n : Nat) (v : Value) (L : List Nat) (h : RdAt w b n v L) (N : Int) (hN : I64 N) : Calls Try.prog 34 #[.pointer (some ⟨b, 0, none⟩), .int .i64 N] w fun e w' => e = .returned (.tuple #[.int .i64 (needV n N).1, .int .i64 (needV n N).2]) ∧ w.grownBy w' none := by
  unfold needV
  by_cases h1 : N < 0
  · rw [if_pos h1]
    refine (rNeed_neg w b N h1).mono ?_
    rintro e w' ⟨rfl, rfl⟩
    exact ⟨rfl, World.grownBy.refl _ _⟩
  · rw [if_neg h1]
    by_cases h2 : 32768 < (n : Int) + N
    · rw [if_pos h2]
      refine (rNeed_far w b n v L h N h2 (by omega) hN.2).mono ?_
      rintro e w' ⟨rfl, rfl⟩
      exact ⟨rfl, World.grownBy.refl _ _⟩
    · rw [if_neg h2]
      obtain ⟨m, rfl⟩ := Int.eq_ofNat_of_zero_le (show 0 ≤ N by omega)
      refine (rNeed_ok w b n v L h m (by omega)).mono ?_
      rintro e w' ⟨rfl, hg⟩
      exact ⟨rfl, hg⟩
theorem needV_small (n : Nat) (N : Int) (hn : n ≤ 32768) : 0 ≤ (needV n N).1 ∧ (needV n N).1 ≤ 64 := by
  unfold needV
  split
  · simp
  · split
    · simp
    · have := bf_le (show n + N.toNat ≤ 32768 by omega)
      simp only
      omega

def atV (n : Nat) (L : List Nat) (k : Int) : Int × Int × Int := if k < 0 ∨ (n : Int) ≤ k then (0, 0, 60) else ((L.getD (k.toNat / 512) 0 : Nat), ((k.toNat % 512 : Nat) : Int), 0)
theorem At_val (w : World) (b n : Nat) (v : Value) (L : List Nat) (h : NdAt w b n v L) (k : Int) (hk : I64 k) : Calls Try.prog 15 #[.pointer (some ⟨b, 0, none⟩), .int .i64 k] w fun e w' => e = .returned (.tuple #[.int .i64 (atV n L k).1, .int .i64 (atV n L k).2.1, .int .i64 (atV n L k).2.2]) ∧ w' = w := by
  unfold atV
  by_cases h1 : k < 0 ∨ (n : Int) ≤ k
  · rw [if_pos h1]
    exact At_far w b n v L h k h1 hk.2
  · rw [if_neg h1]
    obtain ⟨m, rfl⟩ := Int.eq_ofNat_of_zero_le (show 0 ≤ k by omega)
    refine (At_ok w b n v L h m (by omega)).mono ?_
    rintro e w' ⟨c, rfl, hc, rfl⟩
    have : L.getD (m / 512) 0 = c := by rw [List.getD_eq_getElem?_getD, hc]; rfl
    simp only [Int.toNat_natCast, this]
    exact ⟨trivial, trivial⟩
theorem rAt_val (w : World) (b n : Nat) (v : Value) (L : List Nat) (h : RdAt w b n v L) (k : Int) (hk : I64 k) : Calls Try.prog 37 #[.pointer (some ⟨b, 0, none⟩), .int .i64 k] w fun e w' => e = .returned (.tuple #[.int .i64 (atV n L k).1, .int .i64 (atV n L k).2.1, .int .i64 (atV n L k).2.2]) ∧ w' = w := by
  unfold atV
  by_cases h1 : k < 0 ∨ (n : Int) ≤ k
  · rw [if_pos h1]
    exact rAt_far w b n v L h k h1 hk.2
  · rw [if_neg h1]
    obtain ⟨m, rfl⟩ := Int.eq_ofNat_of_zero_le (show 0 ≤ k by omega)
    refine (rAt_ok w b n v L h m (by omega)).mono ?_
    rintro e w' ⟨c, rfl, hc, rfl⟩
    have : L.getD (m / 512) 0 = c := by rw [List.getD_eq_getElem?_getD, hc]; rfl
    simp only [Int.toNat_natCast, this]
    exact ⟨trivial, trivial⟩

/-- What Extend answers, and what is there behind it. -/
def extC (n : Nat) (N : Int) (l : List (Int × Int)) : Int := if N < 0 then 1 else if 32768 < (n : Int) + N then 60 else if okL l ((bf (n + N.toNat) - bf n : Nat) : Int) then 0 else 1
def extN (n : Nat) (N : Int) (l : List (Int × Int)) : Nat := if extC n N l = 0 then n + N.toNat else n
def extL (n : Nat) (L : List Nat) (N : Int) (l : List (Int × Int)) : List Nat := if extC n N l = 0 then L ++ bksI l else L
theorem Extend_gen (w : World) (b n : Nat) (v u : Value) (L : List Nat) (l : List (Int × Int)) (h : NdAt w b n v L) (N : Int) (hN : I64 N) (hu : Rn w u l) (hl : l.length ≤ 1125899906842624) :
    Calls Try.prog 10 #[.pointer (some ⟨b, 0, none⟩), .int .i64 N, u] w fun e w' => ∃ v', e = .returned (.int .i64 (extC n N l)) ∧ NdAt w' b (extN n N l) v' (extL n L N l) ∧ (v' = v ∨ ROwn w' w.heap.size v' (canon (extL n L N l))) ∧ w.grownBy w' (some b) := by
  by_cases h1 : N < 0
  · have e1 : extC n N l = 1 := by unfold extC; rw [if_pos h1]
    have e2 : extN n N l = n := by unfold extN; rw [if_neg (by rw [e1]; decide)]
    have e3 : extL n L N l = L := by unfold extL; rw [if_neg (by rw [e1]; decide)]
    rw [e1, e2, e3]
    have H := hide h
    clear h hu e1 e2 e3
    go_enter Try.func10, Try.ntmps10
    go_wp2_with fail
    refine (Need_neg w b n v L (unhide H) N h1).mono ?_
    rintro e w1 ⟨rfl, rfl⟩
    go_wp2
    go_ret
    exact ⟨v, rfl, unhide H, .inl rfl, World.grownBy.refl _ _⟩
  · by_cases h2 : 32768 < (n : Int) + N
    · have e1 : extC n N l = 60 := by unfold extC; rw [if_neg h1, if_pos h2]
      have e2 : extN n N l = n := by unfold extN; rw [if_neg (by rw [e1]; decide)]
      have e3 : extL n L N l = L := by unfold extL; rw [if_neg (by rw [e1]; decide)]
      rw [e1, e2, e3]
      have H := hide h
      clear h hu e1 e2 e3
      go_enter Try.func10, Try.ntmps10
      go_wp2_with fail
      refine (Need_far w b n v L (unhide H) N h2 (by omega) hN.2).mono ?_
      rintro e w1 ⟨rfl, rfl⟩
      go_wp2
      go_ret
      exact ⟨v, rfl, unhide H, .inl rfl, World.grownBy.refl _ _⟩
    · obtain ⟨m, rfl⟩ := Int.eq_ofNat_of_zero_le (show 0 ≤ N by omega)
      by_cases h3 : okL l ((bf (n + m) - bf n : Nat) : Int)
      · have e1 : extC n (m : Int) l = 0 := by unfold extC; rw [if_neg h1, if_neg h2, Int.toNat_natCast, if_pos h3]
        have e2 : extN n (m : Int) l = n + m := by unfold extN; rw [if_pos e1, Int.toNat_natCast]
        have e3 : extL n L (m : Int) l = L ++ bksI l := by unfold extL; rw [if_pos e1]
        rw [e1, e2, e3]
        obtain ⟨Y, hY, hY2, hYt⟩ := of_okL h3
        subst hY
        rw [bksI_toI]
        refine (Extend_ok w b n m v u L Y h (by omega) hu hY2 hYt).mono ?_
        rintro e w' ⟨rfl, v', k1, k2, k3⟩
        exact ⟨v', rfl, k1, .inr k2, k3⟩
      · have e1 : extC n (m : Int) l = 1 := by unfold extC; rw [if_neg h1, if_neg h2, Int.toNat_natCast, if_neg h3]
        have e2 : extN n (m : Int) l = n := by unfold extN; rw [if_neg (by rw [e1]; decide)]
        have e3 : extL n L (m : Int) l = L := by unfold extL; rw [if_neg (by rw [e1]; decide)]
        rw [e1, e2, e3]
        refine (Extend_bad w b n m v u L l h (by omega) hu hl h3).mono ?_
        rintro e w' ⟨rfl, k1⟩
        exact ⟨v, rfl, h.grown k1, .inl rfl, k1.but _⟩
theorem rExtend_gen (w : World) (b n : Nat) (v u : Value) (L : List Nat) (l : List (Int × Int)) (h : RdAt w b n v L) (N : Int) (hN : I64 N) (hu : Rn w u l) (hl : l.length ≤ 1125899906842624) :
    Calls Try.prog 29 #[.pointer (some ⟨b, 0, none⟩), .int .i64 N, u] w fun e w' => ∃ v', e = .returned (.int .i64 (extC n N l)) ∧ RdAt w' b (extN n N l) v' (extL n L N l) ∧ w.grownBy w' (some b) := by
  by_cases h1 : N < 0
  · have e1 : extC n N l = 1 := by unfold extC; rw [if_pos h1]
    have e2 : extN n N l = n := by unfold extN; rw [if_neg (by rw [e1]; decide)]
    have e3 : extL n L N l = L := by unfold extL; rw [if_neg (by rw [e1]; decide)]
    rw [e1, e2, e3]
    refine (rExtend_neg w b N u h1).mono ?_
    rintro e w' ⟨rfl, rfl⟩
    exact ⟨v, rfl, h, World.grownBy.refl _ _⟩
  · by_cases h2 : 32768 < (n : Int) + N
    · have e1 : extC n N l = 60 := by unfold extC; rw [if_neg h1, if_pos h2]
      have e2 : extN n N l = n := by unfold extN; rw [if_neg (by rw [e1]; decide)]
      have e3 : extL n L N l = L := by unfold extL; rw [if_neg (by rw [e1]; decide)]
      rw [e1, e2, e3]
      refine (rExtend_far w b n v u L h N h2 (by omega) hN.2).mono ?_
      rintro e w' ⟨rfl, rfl⟩
      exact ⟨v, rfl, h, World.grownBy.refl _ _⟩
    · obtain ⟨m, rfl⟩ := Int.eq_ofNat_of_zero_le (show 0 ≤ N by omega)
      refine (rExtend_any w b n m v u L l h (by omega) hu hl).mono ?_
      rintro e w' (⟨h3, rfl, k1⟩ | ⟨h3, rfl, v', k1, k2⟩)
      · have e1 : extC n (m : Int) l = 1 := by unfold extC; rw [if_neg h1, if_neg h2, Int.toNat_natCast, if_neg h3]
        have e2 : extN n (m : Int) l = n := by unfold extN; rw [if_neg (by rw [e1]; decide)]
        have e3 : extL n L (m : Int) l = L := by unfold extL; rw [if_neg (by rw [e1]; decide)]
        rw [e1, e2, e3]
        exact ⟨v, rfl, h.grown k1, k1.but _⟩
      · have e1 : extC n (m : Int) l = 0 := by unfold extC; rw [if_neg h1, if_neg h2, Int.toNat_natCast, if_pos h3]
        have e2 : extN n (m : Int) l = n + m := by unfold extN; rw [if_pos e1, Int.toNat_natCast]
        have e3 : extL n L (m : Int) l = L ++ bksI l := by unfold extL; rw [if_pos e1]
        rw [e1, e2, e3]
        exact ⟨v', rfl, k1, k2⟩

/-- What Cut answers. -/
def cutC (n : Nat) (k : Int) : Int := if k < 0 ∨ (n : Int) < k then 60 else 0
def cutN (n : Nat) (k : Int) : Nat := if cutC n k = 0 then k.toNat else n
def cutL (n : Nat) (L : List Nat) (k : Int) : List Nat := if cutC n k = 0 then L.take (bf k.toNat) else L
def cutG (n : Nat) (L : List Nat) (k : Int) : List (Nat × Nat) := if cutC n k = 0 then canon (L.drop (bf k.toNat)) else []
theorem cutG_fit {n : Nat} {L : List Nat} {k : Int} (h : low L) : ∀ x ∈ cutG n L k, x.1 ≤ 65536 ∧ x.2 ≤ 65536 := by
  intro x hx
  unfold cutG at hx
  split at hx
  · have := low_canon (low_drop h (bf k.toNat)) x hx
    omega
  · cases hx
theorem Cut_gen (w : World) (b n : Nat) (v : Value) (L : List Nat) (h : NdAt w b n v L) (k : Int) : Calls Try.prog 35 #[.pointer (some ⟨b, 0, none⟩), .int .i64 k] w fun e w' => ∃ a c, e = .returned (.tuple #[c, .int .i64 (cutC n k)]) ∧ NdAt w' b (cutN n k) a (cutL n L k) ∧ ROwn w' w.heap.size c (cutG n L k) ∧ (∀ q, c.ownBlock = some q → a.ownBlock ≠ some q) ∧ w.grownBy w' (some b) := by
  by_cases h1 : k < 0 ∨ (n : Int) < k
  · have e1 : cutC n k = 60 := by unfold cutC; rw [if_pos h1]
    have e2 : cutN n k = n := by unfold cutN; rw [if_neg (by rw [e1]; decide)]
    have e3 : cutL n L k = L := by unfold cutL; rw [if_neg (by rw [e1]; decide)]
    have e4 : cutG n L k = [] := by unfold cutG; rw [if_neg (by rw [e1]; decide)]
    rw [e1, e2, e3, e4]
    refine (Cut_far w b n v L h k h1).mono ?_
    rintro e w' ⟨rfl, rfl⟩
    exact ⟨v, _, rfl, h, ROwn.nil _ _, (fun q hq => by cases hq), World.grownBy.refl _ _⟩
  · obtain ⟨m, rfl⟩ := Int.eq_ofNat_of_zero_le (show 0 ≤ k by omega)
    have e1 : cutC n (m : Int) = 0 := by unfold cutC; rw [if_neg h1]
    have e2 : cutN n (m : Int) = m := by unfold cutN; rw [if_pos e1, Int.toNat_natCast]
    have e3 : cutL n L (m : Int) = L.take (bf m) := by unfold cutL; rw [if_pos e1, Int.toNat_natCast]
    have e4 : cutG n L (m : Int) = canon (L.drop (bf m)) := by unfold cutG; rw [if_pos e1, Int.toNat_natCast]
    rw [e1, e2, e3, e4]
    exact Cut_ok w b n v L h m (by omega)
theorem rCut_gen (w : World) (b n : Nat) (v : Value) (L : List Nat) (h : RdAt w b n v L) (k : Int) : Calls Try.prog 36 #[.pointer (some ⟨b, 0, none⟩), .int .i64 k] w fun e w' => ∃ a c, e = .returned (.tuple #[c, .int .i64 (cutC n k)]) ∧ RdAt w' b (cutN n k) a (cutL n L k) ∧ ROwn w' w.heap.size c (cutG n L k) ∧ w.grownBy w' (some b) := by
  by_cases h1 : k < 0 ∨ (n : Int) < k
  · have e1 : cutC n k = 60 := by unfold cutC; rw [if_pos h1]
    have e2 : cutN n k = n := by unfold cutN; rw [if_neg (by rw [e1]; decide)]
    have e3 : cutL n L k = L := by unfold cutL; rw [if_neg (by rw [e1]; decide)]
    have e4 : cutG n L k = [] := by unfold cutG; rw [if_neg (by rw [e1]; decide)]
    rw [e1, e2, e3, e4]
    refine (rCut_far w b n v L h k h1).mono ?_
    rintro e w' ⟨rfl, rfl⟩
    exact ⟨v, _, rfl, h, ROwn.nil _ _, World.grownBy.refl _ _⟩
  · obtain ⟨m, rfl⟩ := Int.eq_ofNat_of_zero_le (show 0 ≤ k by omega)
    have e1 : cutC n (m : Int) = 0 := by unfold cutC; rw [if_neg h1]
    have e2 : cutN n (m : Int) = m := by unfold cutN; rw [if_pos e1, Int.toNat_natCast]
    have e3 : cutL n L (m : Int) = L.take (bf m) := by unfold cutL; rw [if_pos e1, Int.toNat_natCast]
    have e4 : cutG n L (m : Int) = canon (L.drop (bf m)) := by unfold cutG; rw [if_pos e1, Int.toNat_natCast]
    rw [e1, e2, e3, e4]
    exact rCut_ok w b n v L h m (by omega)

/-- Nothing old has turned but two blocks. -/
structure Fr2 (w w' : World) (b c : Nat) : Prop where
  os : w'.os = w.os
  tape : w'.tape = w.tape
  output : w'.output = w.output
  size : w.heap.size ≤ w'.heap.size
  block : ∀ k, k < w.heap.size → k ≠ b → k ≠ c → w'.heap[k]? = w.heap[k]?
theorem Fr2.of (w w' : World) (b c : Nat) (h : w.grownBy w' none) : Fr2 w w' b c := ⟨h.os, h.tape, h.output, h.size, fun k hk _ _ => h.block k hk (by simp)⟩
theorem Fr2.left {w w' w'' : World} {b c : Nat} (h : Fr2 w w' b c) (g : w'.grownBy w'' (some b)) : Fr2 w w'' b c := ⟨g.os.trans h.os, g.tape.trans h.tape, g.output.trans h.output, Nat.le_trans h.size g.size, fun k hk h1 h2 => (g.block k (Nat.lt_of_lt_of_le hk h.size) (by simpa using h1)).trans (h.block k hk h1 h2)⟩
theorem Fr2.right {w w' w'' : World} {b c : Nat} (h : Fr2 w w' b c) (g : w'.grownBy w'' (some c)) : Fr2 w w'' b c := ⟨g.os.trans h.os, g.tape.trans h.tape, g.output.trans h.output, Nat.le_trans h.size g.size, fun k hk h1 h2 => (g.block k (Nat.lt_of_lt_of_le hk h.size) (by simpa using h2)).trans (h.block k hk h1 h2)⟩
theorem Fr2.none {w w' w'' : World} {b c : Nat} (h : Fr2 w w' b c) (g : w'.grownBy w'' none) : Fr2 w w'' b c := h.left (g.but _)
theorem Fr2.new {w w' w'' : World} {b c z : Nat} (h : Fr2 w w' b c) (hz : w.heap.size ≤ z) (g : w'.grownBy w'' (some z)) : Fr2 w w'' b c := ⟨g.os.trans h.os, g.tape.trans h.tape, g.output.trans h.output, Nat.le_trans h.size g.size, fun k hk h1 h2 => (g.block k (Nat.lt_of_lt_of_le hk h.size) (by simp; omega)).trans (h.block k hk h1 h2)⟩
def DoPost (w : World) (b c : Nat) (e : Ending) (w' : World) : Prop := e = .returned (.bool true) ∧ (∃ n v u L, NdAt w' b n v L ∧ RdAt w' c n u L) ∧ Fr2 w w' b c
end Go.Proofs.Ythjcdibblhcgpaa

/-
  DERIVED. The law's 'do', by kinds: those that change nothing, and Cut.
-/
namespace Go.Proofs.Ythjcdibblhcgpaa
open Go.RowKit
set_option linter.unusedVariables false

/-- What 'do' is handed: a call, whose runs read so. -/
def clA (k N : Int) (vl : Value) (two : Bool) : Value := .agg #[.int .i64 k, .int .i64 N, vl, .bool two]

set_option maxRecDepth 20000 in
set_option maxHeartbeats 4000000 in
theorem do_other (w : World) (b c n : Nat) (v u vl : Value) (L : List Nat) (k N : Int) (two : Bool) (ao : Option Addr) (q cap : Nat) (hvl : vl = .slice ao q cap) (h : NdAt w b n v L) (h2 : RdAt w c n u L) (hk : ¬ k = 1 ∧ ¬ k = 7 ∧ ¬ k = 2 ∧ ¬ k = 3 ∧ ¬ k = 4 ∧ ¬ k = 5) :
    Calls Try.prog 20 #[.pointer (some ⟨b, 0, none⟩), .pointer (some ⟨c, 0, none⟩), clA k N vl two] w (DoPost w b c) := by
  obtain ⟨k1, k7, k2, k3, k4, k5⟩ := hk
  subst hvl
  unfold clA
  have HF : Hid (DoPost w b c (.returned (.bool true)) (w.alloc (.cells #[.int .i64 k, .int .i64 N, .slice ao q cap, .bool two] 30))) := hide ⟨rfl, ⟨n, v, u, L, h.grown (World.grownBy_alloc _ _ _), h2.grown (World.grownBy_alloc _ _ _)⟩, Fr2.of _ _ _ _ (World.grownBy_alloc _ _ _)⟩
  clear h h2
  go_enter Try.func20, Try.ntmps20
  go_wp2
  go_ret
  exact unhide HF

set_option maxRecDepth 20000 in
set_option maxHeartbeats 4000000 in
theorem do_asked (w : World) (b c n : Nat) (v u vl : Value) (L : List Nat) (N : Int) (two : Bool) (ao : Option Addr) (q cap : Nat) (hvl : vl = .slice ao q cap) (h : NdAt w b n v L) (h2 : RdAt w c n u L) :
    Calls Try.prog 20 #[.pointer (some ⟨b, 0, none⟩), .pointer (some ⟨c, 0, none⟩), clA 5 N vl two] w (DoPost w b c) := by
  subst hvl
  unfold clA
  have HM := hide (h.grown (World.grownBy_alloc w (.cells #[.int .i64 5, .int .i64 N, .slice ao q cap, .bool two] 30) none))
  have HR := hide (h2.grown (World.grownBy_alloc w (.cells #[.int .i64 5, .int .i64 N, .slice ao q cap, .bool two] 30) none))
  clear h h2
  go_enter Try.func20, Try.ntmps20
  go_wp2_with fail
  refine (asked_ok _ b c n v u L (unhide HM) (unhide HR)).mono ?_
  rintro e w1 ⟨rfl, g1⟩
  have HF : Hid (DoPost w b c (.returned (.bool true)) w1) := hide ⟨rfl, ⟨n, v, u, L, (unhide HM).grown g1, (unhide HR).grown g1⟩, Fr2.of _ _ _ _ ((World.grownBy_alloc _ _ _).trans g1)⟩
  clear g1
  go_wp2
  go_ret
  exact unhide HF

set_option maxRecDepth 20000 in
set_option maxHeartbeats 4000000 in
theorem do_need (w : World) (b c n : Nat) (v u vl : Value) (L : List Nat) (N : Int) (two : Bool) (ao : Option Addr) (q cap : Nat) (hvl : vl = .slice ao q cap) (h : NdAt w b n v L) (h2 : RdAt w c n u L) (hN : I64 N) :
    Calls Try.prog 20 #[.pointer (some ⟨b, 0, none⟩), .pointer (some ⟨c, 0, none⟩), clA 4 N vl two] w (DoPost w b c) := by
  subst hvl
  unfold clA
  obtain ⟨W, hW⟩ : ∃ W, W = w.alloc (.cells #[.int .i64 4, .int .i64 N, .slice ao q cap, .bool two] 30) := ⟨_, rfl⟩
  have HM : Hid (NdAt W b n v L) := hide (by rw [hW]; exact h.grown (World.grownBy_alloc _ _ _))
  have HR : Hid (RdAt W c n u L) := hide (by rw [hW]; exact h2.grown (World.grownBy_alloc _ _ _))
  have HG : Hid (w.grownBy W none) := hide (by rw [hW]; exact World.grownBy_alloc _ _ _)
  have cN : W.cell? ⟨w.heap.size, 1, none⟩ = some (.int .i64 N) := by rw [hW]; exact (cell_of_row _ _ _ _ _ _ (heap_alloc_new _ _)).trans rfl
  clear h h2
  go_enter Try.func20, Try.ntmps20
  go_wp2_with fail
  rw [← hW]
  clear hW
  refine (Need_val W b n v L (unhide HM) N hN).mono ?_
  rintro e w1 ⟨rfl, g1⟩
  have c1 := g1.cell cN (by simp)
  have M1 := hide ((unhide HM).grown g1)
  have R1 := hide ((unhide HR).grown g1)
  have G1 : Hid (w.grownBy w1 none) := hide ((unhide HG).trans g1)
  clear g1 cN HM HR HG
  go_wp2_with fail
  refine (rNeed_val w1 c n u L (unhide R1) N hN).mono ?_
  rintro e w2 ⟨rfl, g2⟩
  have HF : Hid (DoPost w b c (.returned (.bool true)) w2) := hide ⟨rfl, ⟨n, v, u, L, (unhide M1).grown g2, (unhide R1).grown g2⟩, Fr2.of _ _ _ _ ((unhide G1).trans g2)⟩
  clear g2 c1
  go_wp2
  go_ret
  exact unhide HF

set_option maxRecDepth 20000 in
set_option maxHeartbeats 4000000 in
theorem do_at (w : World) (b c n : Nat) (v u vl : Value) (L : List Nat) (N : Int) (two : Bool) (ao : Option Addr) (q cap : Nat) (hvl : vl = .slice ao q cap) (h : NdAt w b n v L) (h2 : RdAt w c n u L) (hN : I64 N) :
    Calls Try.prog 20 #[.pointer (some ⟨b, 0, none⟩), .pointer (some ⟨c, 0, none⟩), clA 3 N vl two] w (DoPost w b c) := by
  subst hvl
  unfold clA
  obtain ⟨W, hW⟩ : ∃ W, W = w.alloc (.cells #[.int .i64 3, .int .i64 N, .slice ao q cap, .bool two] 30) := ⟨_, rfl⟩
  have HM : Hid (NdAt W b n v L) := hide (by rw [hW]; exact h.grown (World.grownBy_alloc _ _ _))
  have HR : Hid (RdAt W c n u L) := hide (by rw [hW]; exact h2.grown (World.grownBy_alloc _ _ _))
  have HG : Hid (w.grownBy W none) := hide (by rw [hW]; exact World.grownBy_alloc _ _ _)
  have cN : W.cell? ⟨w.heap.size, 1, none⟩ = some (.int .i64 N) := by rw [hW]; exact (cell_of_row _ _ _ _ _ _ (heap_alloc_new _ _)).trans rfl
  clear h h2
  go_enter Try.func20, Try.ntmps20
  go_wp2_with fail
  rw [← hW]
  clear hW
  refine (At_val W b n v L (unhide HM) N hN).mono ?_
  rintro e w1 ⟨rfl, rfl⟩
  go_wp2_with fail
  refine (rAt_val w1 c n u L (unhide HR) N hN).mono ?_
  rintro e w2 ⟨rfl, rfl⟩
  have HF : Hid (DoPost w b c (.returned (.bool true)) w2) := hide ⟨rfl, ⟨n, v, u, L, unhide HM, unhide HR⟩, Fr2.of _ _ _ _ (unhide HG)⟩
  clear cN
  go_wp2
  go_ret
  exact unhide HF

set_option maxRecDepth 20000 in
set_option maxHeartbeats 8000000 in
theorem do_cut (w : World) (b c n : Nat) (v u vl : Value) (L : List Nat) (N : Int) (two : Bool) (ao : Option Addr) (q cap : Nat) (hvl : vl = .slice ao q cap) (h : NdAt w b n v L) (h2 : RdAt w c n u L) (hN : I64 N) :
    Calls Try.prog 20 #[.pointer (some ⟨b, 0, none⟩), .pointer (some ⟨c, 0, none⟩), clA 2 N vl two] w (DoPost w b c) := by
  subst hvl
  unfold clA
  have hlw := h.lw
  have hLl := h.small.1
  obtain ⟨W, hW⟩ : ∃ W, W = w.alloc (.cells #[.int .i64 2, .int .i64 N, .slice ao q cap, .bool two] 30) := ⟨_, rfl⟩
  have HM : Hid (NdAt W b n v L) := hide (by rw [hW]; exact h.grown (World.grownBy_alloc _ _ _))
  have HR : Hid (RdAt W c n u L) := hide (by rw [hW]; exact h2.grown (World.grownBy_alloc _ _ _))
  have HG : Hid (w.grownBy W none) := hide (by rw [hW]; exact World.grownBy_alloc _ _ _)
  have hbx : W.heap[w.heap.size]? = some (.cells #[.int .i64 2, .int .i64 N, .slice ao q cap, .bool two] 30 (0, 0)) := by rw [hW]; exact heap_alloc_new _ _
  have HBx := hide hbx
  have cN : W.cell? ⟨w.heap.size, 1, none⟩ = some (.int .i64 N) := (cell_of_row _ _ _ _ _ _ hbx).trans rfl
  have HNe : Hid (w.heap.size ≠ b) := hide (by have := h.lt; omega)
  clear h h2 hbx
  go_enter Try.func20, Try.ntmps20
  go_wp2_with fail
  rw [← hW]
  clear hW
  refine (Cut_gen W b n v L (unhide HM) N).mono ?_
  rintro e w1 ⟨a1, g1, rfl, m1, o1, s1, gr1⟩
  have c1 : w1.cell? ⟨w.heap.size, 1, none⟩ = some (.int .i64 N) := gr1.cell cN (by simpa using unhide HNe)
  have M1 := hide m1
  have O1 := hide o1
  have S1 := hide s1
  have R1 := hide ((unhide HR).nodes (unhide HM) gr1)
  have F1 := hide ((Fr2.of w W b c (unhide HG)).left gr1)
  have SZ1 := hide (unhide HG).size
  clear m1 o1 s1 gr1 cN HM HR HG
  go_wp2_with fail
  refine (rCut_gen w1 c n u L (unhide R1) N).mono ?_
  rintro e w2 ⟨a2, g2, rfl, m2, o2, gr2⟩
  have M2 := hide ((unhide M1).nodes (unhide R1) gr2)
  have R2 := hide m2
  have O12 := hide ((unhide O1).kept gr2 (fun z hz e => (unhide O1).ne hz (unhide R1).blk (by decide) (by simpa using e)))
  have O2 := hide o2
  have F2 := hide ((unhide F1).right gr2)
  clear m2 o2 gr2 c1 M1 R1 O1 F1
  go_wp2_with fail
  refine (SameRuns_any w2 g1 g2 _ _ ((unhide O12).rn (cutG_fit hlw)) ((unhide O2).rn (cutG_fit hlw))).mono ?_
  rintro e w3 ⟨rfl, gr3⟩
  simp only [decide_true]
  have M3 := hide ((unhide M2).grown gr3)
  have R3 := hide ((unhide R2).grown gr3)
  have F3 := hide ((unhide F2).none gr3)
  have O3 : Hid (∃ xs, ROwn w3 w.heap.size g1 xs ∧ xs.length = (cutG n L N).length) := hide ⟨_, ((unhide O12).grown gr3).mono (unhide SZ1), rfl⟩
  have hGl : (cutG n L N).length ≤ 64 := by
    unfold cutG
    split
    · have h1 := canon_len (L.drop (bf N.toNat))
      rw [List.length_drop] at h1
      omega
    · simp
  obtain ⟨ro, rcap, hru, _⟩ := (unhide O12).form
  obtain ⟨t, ht⟩ : ∃ t, t = (cutG n L N).length := ⟨_, rfl⟩
  rw [← ht] at O3 hGl hru
  subst hru
  clear gr3 M2 R2 O12 O2 F2 ht
  have htI : (t : Int) ≤ 64 := by omega
  go_wp2
  go_loopw [18] (fun i wr => ∃ (j : Nat) (xs : List (Nat × Nat)), i = .int .i64 (j : Int) ∧ j ≤ t ∧ ROwn wr w.heap.size (.slice ro t rcap) xs ∧ xs.length = t ∧ NdAt wr b (cutN n N) a1 (cutL n L N) ∧ RdAt wr c (cutN n N) a2 (cutL n L N) ∧ Fr2 w wr b c) (fun i _ => t - (intOf i).toNat)
  case atStart =>
    obtain ⟨xs, h1, h2⟩ := unhide O3
    exact ⟨0, xs, rfl, by omega, h1, h2, unhide M3, unhide R3, unhide F3⟩
  case round =>
    obtain ⟨j, xs, rfl, hj, ho, hxl, hm, hr, hf⟩ := hrel
    have HO := hide ho
    have HXl := hide hxl
    have HM := hide hm
    have HR := hide hr
    have HF := hide hf
    clear ho hxl hm hr hf M3 R3 O3 F3
    by_cases hlt : j < t
    · have hlt' : (j : Int) < (t : Int) := by omega
      have hjx : j < xs.length := by rw [unhide HXl]; exact hlt
      obtain ⟨ao', cap', e, _, _, h4⟩ := (unhide HO).form
      injection e with e1 e2 e3
      obtain ⟨g, hro, hgb, hgl, hcell⟩ := h4 (by omega)
      rw [← e1] at hro
      subst hro
      clear e1 e2 e3 h4
      obtain ⟨d0, d1⟩ := hcell j hjx
      obtain ⟨_, cur, hcur⟩ := (unhide HO).row (q := g) rfl
      have f0 : wr.frozen? ⟨g, j * 2, none⟩ = false := by simp [World.frozen?, hcur]
      have f1 : wr.frozen? ⟨g, j * 2 + 1, none⟩ = false := by simp [World.frozen?, hcur]
      have hgr : wr.grownBy ((wr.setCell ⟨g, j * 2, none⟩ (.int .i64 0)).setCell ⟨g, j * 2 + 1, none⟩ (.int .i64 0)) (some g) := (setCell_grown _ _ _ _).trans (setCell_grown _ _ _ _)
      have HO2 : Hid (∃ ys, ROwn ((wr.setCell ⟨g, j * 2, none⟩ (.int .i64 0)).setCell ⟨g, j * 2 + 1, none⟩ (.int .i64 0)) w.heap.size (.slice (some ⟨g, 0, none⟩) t rcap) ys ∧ ys.length = t) := hide ⟨_, ((unhide HO).set0 j 0 hjx).set1 j 0 (by simpa using hjx), by simpa using unhide HXl⟩
      have HM2 := hide ((unhide HM).other hgr (fun e => by
        have h7 := (unhide HM).blk
        rw [e, hcur] at h7
        injection h7 with h7
        injection h7 with _ h7
        exact absurd h7 (by decide)) (fun z hz e => unhide S1 g rfl (by rw [hz, e])))
      have HR2 := hide ((unhide HR).other hgr (fun e => by
        have h7 := (unhide HR).blk
        rw [e, hcur] at h7
        injection h7 with h7
        injection h7 with _ h7
        exact absurd h7 (by decide)) (fun z hz => (unhide HR).list.ne hz hcur (by decide)))
      have HF2 := hide ((unhide HF).new hgb hgr)
      clear hcell hcur HO HM HR HF hgr
      go_wp2
      go_roundw
      case rel =>
        obtain ⟨ys, h1, h2⟩ := unhide HO2
        exact ⟨j + 1, ys, rfl, by omega, h1, h2, unhide HM2, unhide HR2, unhide HF2⟩
      case measure => simp [intOf]; omega
    · have hlt' : ¬ (j : Int) < (t : Int) := by omega
      have HD : Hid (DoPost w b c (.returned (.bool true)) wr) := hide ⟨rfl, ⟨_, _, _, _, unhide HM, unhide HR⟩, unhide HF⟩
      clear HO HM HR HF
      go_wp2
      go_ret
      exact unhide HD
end Go.Proofs.Ythjcdibblhcgpaa

/-
  DERIVED. The law's 'do': Extend.
-/
namespace Go.Proofs.Ythjcdibblhcgpaa
open Go.RowKit
set_option linter.unusedVariables false

/-! ### Slices of runs of one's own, of whatever numbers -/
def icells (l : List (Int × Int)) : List Value := l.flatMap fun x => [.int .i64 x.1, .int .i64 x.2]
theorem icells_cons (x : Int × Int) (l : List (Int × Int)) : icells (x :: l) = .int .i64 x.1 :: .int .i64 x.2 :: icells l := by simp [icells]
theorem icells_len : ∀ l : List (Int × Int), (icells l).length = l.length * 2
  | [] => rfl
  | x :: l => by rw [icells_cons, List.length_cons, List.length_cons, icells_len l, List.length_cons]; omega
theorem icells_at : ∀ (l : List (Int × Int)) (i : Nat) (h : i < l.length), (icells l)[i * 2]? = some (.int .i64 l[i].1) ∧ (icells l)[i * 2 + 1]? = some (.int .i64 l[i].2)
  | x :: l, 0, _ => by simp [icells]
  | x :: l, i + 1, h => by
    have ih := icells_at l i (by simpa using h)
    rw [icells_cons, show (i + 1) * 2 = i * 2 + 1 + 1 by omega, show i * 2 + 1 + 1 + 1 = (i * 2 + 1) + 1 + 1 by omega]
    simp only [List.getElem?_cons_succ, List.getElem_cons_succ]
    exact ih
theorem icells_one (l : List (Int × Int)) : ∀ u ∈ icells l, u.oneCell' = true := by
  intro u hu
  unfold icells at hu
  rw [List.mem_flatMap] at hu
  obtain ⟨x, _, hx⟩ := hu
  rcases List.mem_cons.1 hx with rfl | hx
  · rfl
  · rcases List.mem_cons.1 hx with rfl | hx
    · rfl
    · cases hx
theorem icells_set : ∀ (l : List (Int × Int)) (i : Nat) (a b : Int), i < l.length → ((icells l).set (i * 2) (.int .i64 a)).set (i * 2 + 1) (.int .i64 b) = icells (l.set i (a, b))
  | x :: l, 0, a, b, _ => by simp [icells]
  | x :: l, i + 1, a, b, h => by
    have ih := icells_set l i a b (by simpa using h)
    rw [icells_cons, show (i + 1) * 2 + 1 = (i * 2 + 1) + 1 + 1 by omega, show (i + 1) * 2 = i * 2 + 1 + 1 by omega, List.set_cons_succ, List.set_cons_succ, List.set_cons_succ, List.set_cons_succ, ih, List.set_cons_succ, icells_cons]
def IR (w : World) (base : Nat) (v : Value) (l : List (Int × Int)) : Prop := w.ownsRow base 36 2 v l.length (icells l)
theorem IR.nil (w : World) (base : Nat) : IR w base (.slice none 0 0) [] := World.ownsRow_nil w _ _ _
theorem IR.kept {W W' : World} {base : Nat} {v : Value} {l : List (Int × Int)} {row : Option Nat} (h : IR W base v l) (hg : W.grownBy W' row) (hne : ∀ q, v.ownBlock = some q → some q ≠ row) : IR W' base v l := by
  obtain ⟨h1, h2⟩ := h
  refine ⟨h1, ?_⟩
  rcases h2 with h2 | ⟨g, cap, cur, rfl, hb, hgb, r⟩
  · exact .inl h2
  · exact .inr ⟨g, cap, cur, rfl, hb, (hg.block g (lt_of_block hgb) (hne g rfl)).trans hgb, r⟩
theorem IR.mono {w : World} {base b2 : Nat} {v : Value} {l : List (Int × Int)} (h : IR w base v l) (hb : b2 ≤ base) : IR w b2 v l := by
  obtain ⟨h1, h2⟩ := h
  refine ⟨h1, ?_⟩
  rcases h2 with h | ⟨g, cap, cur, a, b, c⟩
  · exact .inl h
  · exact .inr ⟨g, cap, cur, a, by omega, c⟩
theorem IR.row {W : World} {base : Nat} {v : Value} {l : List (Int × Int)} (h : IR W base v l) {q : Nat} (hq : v.ownBlock = some q) : base ≤ q ∧ ∃ cur, W.heap[q]? = some (.cells cur 36 (0, 0)) := by
  rcases h.2 with ⟨rfl, _⟩ | ⟨g, cap, cur, rfl, hb, hg, r⟩
  · cases hq
  · cases hq; exact ⟨hb, cur, hg⟩
theorem IR.ne {W : World} {base : Nat} {v : Value} {l : List (Int × Int)} (h : IR W base v l) {q j : Nat} {C : Array Value} {t : TypeId} {fr : Nat × Nat} (hq : v.ownBlock = some q) (hj : W.heap[j]? = some (.cells C t fr)) (ht : t ≠ 36) : q ≠ j := by
  rintro rfl
  obtain ⟨_, cur, hc⟩ := h.row hq
  rw [hc] at hj
  cases hj
  exact ht rfl
theorem IR.form {w : World} {base : Nat} {v : Value} {l : List (Int × Int)} (h : IR w base v l) : ∃ ao cap, v = .slice ao l.length cap ∧ l.length ≤ cap ∧ cap ≤ 9223372036854775807 ∧ (l.length ≠ 0 → ∃ g, ao = some ⟨g, 0, none⟩ ∧ base ≤ g ∧ g < w.heap.size ∧ ∀ i, (h : i < l.length) → w.cell? ⟨g, i * 2, none⟩ = some (.int .i64 l[i].1) ∧ w.cell? ⟨g, i * 2 + 1, none⟩ = some (.int .i64 l[i].2)) := by
  rcases h.2 with ⟨rfl, h0⟩ | ⟨g, cap, cur, rfl, hb, hg, hn, hm, hs, ht⟩
  · exact ⟨none, 0, by rw [h0], by omega, by omega, fun h => absurd h0 h⟩
  · refine ⟨some ⟨g, 0, none⟩, cap, rfl, hn, by unfold maxLen at hm; omega, fun _ => ⟨g, rfl, hb, lt_of_block hg, fun i hi => ?_⟩⟩
    obtain ⟨e1, e2⟩ := icells_at l i hi
    have at' : ∀ j, j < l.length * 2 → cur[j]? = (icells l)[j]? := fun j hj => by
      have e : (cur.toList.take (l.length * 2))[j]? = (icells l)[j]? := by rw [ht]
      rw [List.getElem?_take_of_lt (by omega)] at e
      simpa using e
    constructor
    · rw [cell_of_row _ _ _ _ _ _ hg, at' _ (by omega), e1]
    · rw [cell_of_row _ _ _ _ _ _ hg, at' _ (by omega), e2]
theorem IR.at_ {w : World} {base q cap : Nat} {ao : Option Addr} {l : List (Int × Int)} (h : IR w base (.slice ao q cap) l) (hl : 0 < l.length) : ∃ g, ao = some ⟨g, 0, none⟩ ∧ base ≤ g ∧ g < w.heap.size ∧ ∀ i, (h : i < l.length) → w.cell? ⟨g, i * 2, none⟩ = some (.int .i64 l[i].1) ∧ w.cell? ⟨g, i * 2 + 1, none⟩ = some (.int .i64 l[i].2) := by
  obtain ⟨ao', cap', e, _, _, h4⟩ := h.form
  injection e with e1 e2 e3
  subst e1
  exact h4 (by omega)
theorem IR.rn {w : World} {base : Nat} {v : Value} {l : List (Int × Int)} (h : IR w base v l) (hf : ∀ x ∈ l, fits x) : Rn w v l := by
  obtain ⟨ao, cap, e, h1, h2, h4⟩ := h.form
  refine ⟨ao, cap, e, h1, h2, hf, fun hl => ?_⟩
  obtain ⟨g, e2, _, hlt, hc⟩ := h4 hl
  exact ⟨g, 0, e2, hlt, fun i hi => by have := hc i hi; simpa using this⟩
theorem IR.set {w : World} {base g n cap : Nat} {l : List (Int × Int)} (h : IR w base (.slice (some ⟨g, 0, none⟩) n cap) l) (i : Nat) (a b : Int) (hi : i < l.length) : IR ((w.setCell ⟨g, i * 2, none⟩ (.int .i64 a)).setCell ⟨g, i * 2 + 1, none⟩ (.int .i64 b)) base (.slice (some ⟨g, 0, none⟩) n cap) (l.set i (a, b)) := by
  obtain ⟨h1, h2⟩ := h
  refine ⟨by rw [icells_len, List.length_set], ?_⟩
  rcases h2 with ⟨e, _⟩ | ⟨g', cap', cur, e, hb, hg, hn, hm, hs, ht⟩
  · cases e
  · cases e
    refine .inr ⟨g, cap, _, by rw [List.length_set], hb, heap_setCell_same _ g (i * 2 + 1) _ _ _ (heap_setCell_same w g (i * 2) cur _ _ hg), by rw [List.length_set]; exact hn, hm, by simpa using hs, ?_⟩
    rw [← icells_set l i a b hi, ← ht, List.length_set, Array.toList_setIfInBounds, Array.toList_setIfInBounds, List.take_set, List.take_set]
theorem IR.one (w : World) (x1 x2 : Int) : IR (w.alloc (.cells #[.int .i64 x1, .int .i64 x2] 36)) w.heap.size (.slice (some ⟨w.heap.size, 0, none⟩) 1 1) [(x1, x2)] :=
  ⟨rfl, .inr ⟨w.heap.size, 1, _, rfl, Nat.le_refl _, heap_alloc_new _ _, by simp, by unfold maxLen; omega, by simp, by simp [icells]⟩⟩
theorem ir_empty (w : World) : IR (w.alloc (.cells #[] 36)) w.heap.size (.slice (some ⟨w.heap.size, 0, none⟩) 0 0) [] := ⟨rfl, .inr ⟨w.heap.size, 0, #[], rfl, Nat.le_refl _, heap_alloc_new _ _, by simp, by unfold maxLen; omega, by simp, by simp [icells]⟩⟩

/-- Runs that lie somewhere, appended to nothing of one's own. -/
theorem wpList_append_iruns {w : World} {ops : Array Oper} {rest : List Oper} {o : Oper} {a : Act} {Q : Exit → Act → World → Prop} (hgd : o.guard = none) (s x : Operand)
    (ho : o.op = .call { callee := .builtin .append, args := #[s, x], argTypes := #[28, 28] })
    (base : Nat) (v : Value) (hs : a.eval s = v) (hown : IR w base v [])
    (y : Value) (m : List (Int × Int)) (hx : a.eval x = y) (hy : Rn w y m) (hne : ∀ c, y = .slice none 0 c → c = 0) (hlen : m.length ≤ 8796093021952) (hbase : base ≤ w.heap.size)
    (h : ∀ v' w', IR w' base v' m → w.grownBy w' v.ownBlock → wpList Try.prog ops Q rest (a.put o.dst v') w') : wpList Try.prog ops Q (o :: rest) a w := by
  obtain ⟨i0, hi, hz0, hz1, hz2⟩ := info_parts Try.infoRun3
  obtain ⟨ao, cap, rfl, h1, h2, h3, h4⟩ := hy
  cases ao with
  | none =>
    have hm0 : m = [] := by
      cases m with
      | nil => rfl
      | cons x r => obtain ⟨_, _, e, _⟩ := h4 (by simp); cases e
    subst hm0
    obtain rfl : cap = 0 := hne cap rfl
    refine wpList_append_own_none hgd s x 28 ho base 36 i0 2 Try.underlying28 hi v 0 [] hs hown hx ?_
    exact h v w hown (World.grownBy.refl _ _)
  | some ad =>
    refine wpList_append_own w hgd s x 28 ho base 36 i0 (.agg #[.int .i64 0, .int .i64 0]) 2 16 Try.underlying28 hi hz0 hz1 hz2 rfl (by decide) v 0 [] hs hown ad m.length cap (icells m) hx (icells_len m) ?_ (icells_one m) (by unfold maxLen; omega) (by omega) hbase ?_
    · intro j u hj
      have hjl : j < (icells m).length := (List.getElem?_eq_some_iff.1 hj).1
      rw [icells_len] at hjl
      obtain ⟨g, off, e, _, hc⟩ := h4 (by omega)
      cases e
      have hjm : j / 2 < m.length := by omega
      obtain ⟨c0, c1⟩ := hc (j / 2) hjm
      obtain ⟨e0, e1⟩ := icells_at m (j / 2) hjm
      rw [addr_add]
      rcases (show j = j / 2 * 2 ∨ j = j / 2 * 2 + 1 by omega) with h5 | h5
      · rw [h5] at hj ⊢
        rw [e0] at hj
        rw [← hj]
        have h6 : j / 2 * 2 / 2 = j / 2 := by omega
        exact c0
      · rw [h5] at hj ⊢
        rw [e1] at hj
        rw [← hj, ← Nat.add_assoc]
        exact c1
    · intro v' w' ho' hgr _
      refine h v' w' ?_ hgr
      unfold IR
      simpa using ho'

set_option maxRecDepth 20000 in
set_option maxHeartbeats 16000000 in
theorem do_ext1 (w : World) (b c n : Nat) (v u vl : Value) (L : List Nat) (N : Int) (two : Bool) (ao : Option Addr) (q cap : Nat) (l : List (Int × Int)) (hvl : vl = .slice ao q cap) (hr : Rn w vl l) (hne : ∀ c, vl = .slice none 0 c → c = 0) (hl : l.length ≤ 8796093021952) (h : NdAt w b n v L) (h2 : RdAt w c n u L) (hN : I64 N) :
    Calls Try.prog 20 #[.pointer (some ⟨b, 0, none⟩), .pointer (some ⟨c, 0, none⟩), clA 1 N vl two] w (DoPost w b c) := by
  subst hvl
  unfold clA
  have HRn := hide hr
  have HNn := hide hne
  have hql : q = l.length := by obtain ⟨_, _, e, _⟩ := hr; injection e
  have HQl := hide hql
  have hqI : (q : Int) ≤ 8796093021952 := by omega
  have hn32 := h.le
  obtain ⟨W, hW⟩ : ∃ W, W = w.alloc (.cells #[.int .i64 1, .int .i64 N, .slice ao q cap, .bool two] 30) := ⟨_, rfl⟩
  have HM : Hid (NdAt W b n v L) := hide (by rw [hW]; exact h.grown (World.grownBy_alloc _ _ _))
  have HR : Hid (RdAt W c n u L) := hide (by rw [hW]; exact h2.grown (World.grownBy_alloc _ _ _))
  have HG : Hid (w.grownBy W none) := hide (by rw [hW]; exact World.grownBy_alloc _ _ _)
  have hbx : W.heap[w.heap.size]? = some (.cells #[.int .i64 1, .int .i64 N, .slice ao q cap, .bool two] 30 (0, 0)) := by rw [hW]; exact heap_alloc_new _ _
  have cN : W.cell? ⟨w.heap.size, 1, none⟩ = some (.int .i64 N) := (cell_of_row _ _ _ _ _ _ hbx).trans rfl
  have cL : W.cell? ⟨w.heap.size, 2, none⟩ = some (.slice ao q cap) := (cell_of_row _ _ _ _ _ _ hbx).trans rfl
  have cK : W.cell? ⟨w.heap.size, 0, none⟩ = some (.int .i64 1) := (cell_of_row _ _ _ _ _ _ hbx).trans rfl
  have hbw : w.heap.size < W.heap.size := lt_of_block hbx
  have HNe : Hid (w.heap.size ≠ b) := hide (by have := h.lt; omega)
  clear h h2 hbx hr hne hql
  go_enter Try.func20, Try.ntmps20
  go_upto_region 4 with fail
  rw [← hW]
  clear hW
  go_wp2_with (at_builtin; refine wpList_append_iruns rfl (.tmp 34) (.tmp 36) rfl W.heap.size _ rfl (ir_empty W) _ l rfl (((unhide HRn).kept (unhide HG)).alloc _) (unhide HNn) hl (by simp) ?_)
  intro v3 w3 o3 g3
  have g3' : W.grownBy w3 none := (World.grownBy_alloc _ _ _).andThen g3 (fun z e => .inl (by cases e; exact Nat.le_refl _))
  have I3 := hide o3
  have G3 := hide g3'
  obtain ⟨xo, xc, hx3, _⟩ := o3.form
  rw [← unhide HQl] at hx3
  have eN := g3'.cell cN (by simp)
  have eK := g3'.cell cK (by simp)
  have eL := g3'.cell cL (by simp)
  clear o3 g3 g3'
  subst hx3
  obtain ⟨WX, hWX⟩ : ∃ WX, WX = w3 := ⟨_, rfl⟩
  obtain ⟨xq, hxq⟩ : ∃ xq, xq = q := ⟨_, rfl⟩
  rw [← hWX] at I3 G3 eN eK eL ⊢
  rw [← hxq] at I3 hqI HQl ⊢
  clear hWX hxq
  have IX := I3
  have GX := G3
  obtain ⟨lx, hlx⟩ : ∃ lx, lx = l := ⟨_, rfl⟩
  rw [← hlx] at IX HQl hl
  have LX := hide hl
  have QX := hide (unhide HQl).symm
  have FX : Hid (∀ x ∈ lx, fits x) := hide (by rw [hlx]; obtain ⟨_, _, _, _, _, h, _⟩ := unhide HRn; exact h)
  clear hlx I3 G3
  go_upto_region 10 with fail
  have M4 := hide ((unhide HM).grown (unhide GX))
  have R4 := hide ((unhide HR).grown (unhide GX))
  have cN4 := (unhide GX).cell cN (by simp)
  have G04 : Hid (w.grownBy WX none) := hide ((unhide HG).trans (unhide GX))
  have ZX := hide (unhide GX).size
  go_wp2_with fail
  refine (Extend_gen WX b n v _ L lx (unhide M4) N hN ((unhide IX).rn (unhide FX)) (by have := unhide LX; omega)).mono ?_
  rintro e w5 ⟨v5, rfl, m5, s5, gr5⟩
  have M5 := hide m5
  have R5 := hide ((unhide R4).nodes (unhide M4) gr5)
  have I5 := hide ((unhide IX).kept gr5 (fun z hz e => (unhide IX).ne hz (unhide M4).blk (by decide) (by simpa using e)))
  have F5 := hide ((Fr2.of w WX b c (unhide G04)).left gr5)
  have cN5 : w5.cell? ⟨w.heap.size, 1, none⟩ = some (.int .i64 N) := gr5.cell cN4 (by simpa using unhide HNe)
  have S5 : Hid (∀ z, (Value.slice xo xq xc).ownBlock = some z → v5.ownBlock ≠ some z) := hide (fun z hz e => by
    have h1 := (unhide IX).row hz
    rcases s5 with rfl | s5
    · obtain ⟨_, cur, hcu⟩ := (unhide HM).runs.row e
      have h2 := lt_of_block hcu
      have h3 := h1.1
      omega
    · obtain ⟨h2, _⟩ := s5.row e
      obtain ⟨_, cur, hcu⟩ := h1
      have h4 := lt_of_block hcu
      omega)
  clear m5 gr5 s5 M4 R4 cN4 G04
  go_wp2_with fail
  refine (rExtend_gen w5 c n u _ L lx (unhide R5) N hN ((unhide I5).rn (unhide FX)) (by have := unhide LX; omega)).mono ?_
  rintro e w6 ⟨u6, rfl, m6, gr6⟩
  have M6 := hide ((unhide M5).nodes (unhide R5) gr6)
  have R6 := hide m6
  have I6 : Hid (∃ l', IR w6 w.heap.size (.slice xo xq xc) l' ∧ l'.length = xq) := hide ⟨_, ((unhide I5).kept gr6 (fun z hz e => (unhide I5).ne hz (unhide R5).blk (by decide) (by simpa using e))).mono (unhide HG).size, unhide QX⟩
  have F6 := hide ((unhide F5).right gr6)
  clear m6 gr6 M5 R5 I5 F5 cN5
  have hxqI : (xq : Int) ≤ 8796093021952 := by have := unhide LX; have := unhide QX; omega
  go_wp2
  go_loopw [12] (fun i wr => ∃ (j : Nat) (l' : List (Int × Int)), i = .int .i64 (j : Int) ∧ j ≤ xq ∧ IR wr w.heap.size (.slice xo xq xc) l' ∧ l'.length = xq ∧ NdAt wr b (extN n N lx) v5 (extL n L N lx) ∧ RdAt wr c (extN n N lx) u6 (extL n L N lx) ∧ Fr2 w wr b c) (fun i _ => xq - (intOf i).toNat)
  case atStart =>
    obtain ⟨l', h1, h2⟩ := unhide I6
    exact ⟨0, l', rfl, by omega, h1, h2, unhide M6, unhide R6, unhide F6⟩
  case round =>
    obtain ⟨j, l', rfl, hj, ho, hxl, hm, hr, hf⟩ := hrel
    have HO := hide ho
    have HXl := hide hxl
    have HM7 := hide hm
    have HR7 := hide hr
    have HF7 := hide hf
    clear ho hxl hm hr hf M6 R6 I6 F6
    by_cases hlt : j < xq
    · have hlt' : (j : Int) < (xq : Int) := by omega
      have hjx : j < l'.length := by rw [unhide HXl]; exact hlt
      obtain ⟨g, hro, hgb, hgl, hcell⟩ := (unhide HO).at_ (by omega)
      subst hro
      obtain ⟨d0, d1⟩ := hcell j hjx
      obtain ⟨_, cur, hcur⟩ := (unhide HO).row (q := g) rfl
      have f0 : wr.frozen? ⟨g, j * 2, none⟩ = false := by simp [World.frozen?, hcur]
      have f1 : wr.frozen? ⟨g, j * 2 + 1, none⟩ = false := by simp [World.frozen?, hcur]
      have hgr : wr.grownBy ((wr.setCell ⟨g, j * 2, none⟩ (.int .i64 500)).setCell ⟨g, j * 2 + 1, none⟩ (.int .i64 1)) (some g) := (setCell_grown _ _ _ _).trans (setCell_grown _ _ _ _)
      have HO2 : Hid (∃ ys, IR ((wr.setCell ⟨g, j * 2, none⟩ (.int .i64 500)).setCell ⟨g, j * 2 + 1, none⟩ (.int .i64 1)) w.heap.size (.slice (some ⟨g, 0, none⟩) xq xc) ys ∧ ys.length = xq) := hide ⟨_, (unhide HO).set j 500 1 hjx, by rw [List.length_set]; exact unhide HXl⟩
      have HM2 := hide ((unhide HM7).other hgr (fun e => by
        have h7 := (unhide HM7).blk
        rw [e, hcur] at h7
        injection h7 with h7
        injection h7 with _ h7
        exact absurd h7 (by decide)) (fun z hz e => unhide S5 g rfl (by rw [hz, e])))
      have HR2 := hide ((unhide HR7).other hgr (fun e => by
        have h7 := (unhide HR7).blk
        rw [e, hcur] at h7
        injection h7 with h7
        injection h7 with _ h7
        exact absurd h7 (by decide)) (fun z hz => (unhide HR7).list.ne hz hcur (by decide)))
      have HF2 := hide ((unhide HF7).new hgb hgr)
      clear hcell hcur HO HM7 HR7 HF7 hgr
      go_wp2
      go_roundw
      case rel =>
        obtain ⟨ys, h1, h2⟩ := unhide HO2
        exact ⟨j + 1, ys, rfl, by omega, h1, h2, unhide HM2, unhide HR2, unhide HF2⟩
      case measure => simp [intOf]; omega
    · have hlt' : ¬ (j : Int) < (xq : Int) := by omega
      have HD : Hid (DoPost w b c (.returned (.bool true)) wr) := hide ⟨rfl, ⟨_, _, _, _, unhide HM7, unhide HR7⟩, unhide HF7⟩
      clear HO HM7 HR7 HF7
      go_wp2
      go_ret
      exact unhide HD
end Go.Proofs.Ythjcdibblhcgpaa

/-
  DERIVED. The law's 'do': Extend by one run of what is needed.
-/
namespace Go.Proofs.Ythjcdibblhcgpaa
open Go.RowKit
set_option linter.unusedVariables false

set_option maxRecDepth 20000 in
set_option maxHeartbeats 16000000 in
theorem do_ext7 (w : World) (b c n : Nat) (v u vl : Value) (L : List Nat) (N : Int) (two : Bool) (ao : Option Addr) (q cap : Nat) (l : List (Int × Int)) (hvl : vl = .slice ao q cap) (hr : Rn w vl l) (hne : ∀ c, vl = .slice none 0 c → c = 0) (hl : l.length ≤ 8796093021952) (h : NdAt w b n v L) (h2 : RdAt w c n u L) (hN : I64 N) :
    Calls Try.prog 20 #[.pointer (some ⟨b, 0, none⟩), .pointer (some ⟨c, 0, none⟩), clA 7 N vl two] w (DoPost w b c) := by
  subst hvl
  unfold clA
  have HRn := hide hr
  have HNn := hide hne
  have hql : q = l.length := by obtain ⟨_, _, e, _⟩ := hr; injection e
  have HQl := hide hql
  have hqI : (q : Int) ≤ 8796093021952 := by omega
  have hn32 := h.le
  obtain ⟨W, hW⟩ : ∃ W, W = w.alloc (.cells #[.int .i64 7, .int .i64 N, .slice ao q cap, .bool two] 30) := ⟨_, rfl⟩
  have HM : Hid (NdAt W b n v L) := hide (by rw [hW]; exact h.grown (World.grownBy_alloc _ _ _))
  have HR : Hid (RdAt W c n u L) := hide (by rw [hW]; exact h2.grown (World.grownBy_alloc _ _ _))
  have HG : Hid (w.grownBy W none) := hide (by rw [hW]; exact World.grownBy_alloc _ _ _)
  have hbx : W.heap[w.heap.size]? = some (.cells #[.int .i64 7, .int .i64 N, .slice ao q cap, .bool two] 30 (0, 0)) := by rw [hW]; exact heap_alloc_new _ _
  have cN : W.cell? ⟨w.heap.size, 1, none⟩ = some (.int .i64 N) := (cell_of_row _ _ _ _ _ _ hbx).trans rfl
  have cL : W.cell? ⟨w.heap.size, 2, none⟩ = some (.slice ao q cap) := (cell_of_row _ _ _ _ _ _ hbx).trans rfl
  have cK : W.cell? ⟨w.heap.size, 0, none⟩ = some (.int .i64 7) := (cell_of_row _ _ _ _ _ _ hbx).trans rfl
  have hbw : w.heap.size < W.heap.size := lt_of_block hbx
  have HNe : Hid (w.heap.size ≠ b) := hide (by have := h.lt; omega)
  clear h h2 hbx hr hne hql
  go_enter Try.func20, Try.ntmps20
  go_upto_region 4 with fail
  rw [← hW]
  clear hW
  go_wp2_with (at_builtin; refine wpList_append_iruns rfl (.tmp 34) (.tmp 36) rfl W.heap.size _ rfl (ir_empty W) _ l rfl (((unhide HRn).kept (unhide HG)).alloc _) (unhide HNn) hl (by simp) ?_)
  intro v3 w3 o3 g3
  have g3' : W.grownBy w3 none := (World.grownBy_alloc _ _ _).andThen g3 (fun z e => .inl (by cases e; exact Nat.le_refl _))
  have I3 := hide o3
  have G3 := hide g3'
  obtain ⟨zo, zc, hx3, _⟩ := o3.form
  rw [← unhide HQl] at hx3
  have eN := g3'.cell cN (by simp)
  have eK := g3'.cell cK (by simp)
  have eL := g3'.cell cL (by simp)
  clear o3 g3 g3'
  subst hx3
  have I3u := I3
  have hsm := needV_small n N hn32
  go_wp2_with fail
  refine (rNeed_val w3 c n u L ((unhide HR).grown (unhide G3)) N hN).mono ?_
  rintro e w4 ⟨rfl, g4⟩
  have G4 : Hid (W.grownBy w4 none) := hide ((unhide G3).trans g4)
  have fL := g4.cell eL (by simp)
  have fN := g4.cell eN (by simp)
  have Rn4 := hide ((unhide HRn).kept ((unhide HG).trans (unhide G4)))
  obtain ⟨x, hx⟩ : ∃ x, x = (needV n N).1 := ⟨_, rfl⟩
  obtain ⟨y, hy⟩ : ∃ y, y = (needV n N).2 := ⟨_, rfl⟩
  rw [← hx] at hsm ⊢
  rw [← hy]
  obtain ⟨hx0, hx64⟩ := hsm
  clear g4 eL eN eK hx hy I3 I3u G3
  have hFits : ∀ z ∈ l, fits z := by obtain ⟨_, _, _, _, _, h, _⟩ := unhide HRn; exact h
  by_cases hgo : 0 < x ∧ 0 < q
  · have hg1 : 0 < x := hgo.1
    have hg2 : (0 : Int) < (q : Int) := by omega
    have hl0 : 0 < l.length := by rw [← unhide HQl]; exact hgo.2
    obtain ⟨pb, off, hao, hpb, hc⟩ : ∃ pb off, ao = some ⟨pb, off, none⟩ ∧ pb < w4.heap.size ∧ ∀ i, (h : i < l.length) → w4.cell? ⟨pb, off + i * 2, none⟩ = some (.int .i64 l[i].1) ∧ w4.cell? ⟨pb, off + i * 2 + 1, none⟩ = some (.int .i64 l[i].2) := by
      obtain ⟨ao', cap', e, _, _, _, h4⟩ := unhide Rn4
      injection e with e1 e2 e3
      subst e1
      exact h4 (by omega)
    subst hao
    have d0 := (hc 0 hl0).1
    have hf0 := hFits l[0] (List.getElem_mem hl0)
    obtain ⟨fr, hfr⟩ : ∃ fr, fr = l[0].1 := ⟨_, rfl⟩
    rw [← hfr] at d0
    have hf1 : fits (fr, x) := by
      unfold fits at hf0 ⊢
      rw [hfr]
      simp only at hf0 ⊢
      omega
    simp only [Nat.zero_mul, Nat.add_zero] at d0
    have IX := hide (IR.one w4 fr x)
    have GX : Hid (W.grownBy (w4.alloc (.cells #[.int .i64 fr, .int .i64 x] 36)) none) := hide ((unhide G4).trans (World.grownBy_alloc _ _ _))
    have FX : Hid (∀ z ∈ [(fr, x)], fits z) := hide (fun z hz => by simp at hz; subst hz; exact hf1)
    have ZB := hide (unhide G4).size
    clear hc hfr hf0 hf1 hgo hFits hl0
    go_upto_region 10 with fail
    have IX0 := IX
    have IX : Hid (IR (w4.alloc (.cells #[.int .i64 fr, .int .i64 x] 36)) W.heap.size (.slice (some ⟨w4.heap.size, 0, none⟩) 1 1) [(fr, x)]) := hide ((unhide IX0).mono (unhide ZB))
    have LX : Hid ([(fr, x)].length ≤ 8796093021952) := hide (by simp)
    have QX : Hid ([(fr, x)].length = 1) := hide rfl
    clear IX0 fL fN d0
    have M4 := hide ((unhide HM).grown (unhide GX))
    have R4 := hide ((unhide HR).grown (unhide GX))
    have cN4 := (unhide GX).cell cN (by simp)
    have G04 : Hid (w.grownBy (w4.alloc (.cells #[.int .i64 fr, .int .i64 x] 36)) none) := hide ((unhide HG).trans (unhide GX))
    have ZX := hide (unhide GX).size
    go_wp2_with fail
    refine (Extend_gen (w4.alloc (.cells #[.int .i64 fr, .int .i64 x] 36)) b n v _ L [(fr, x)] (unhide M4) N hN ((unhide IX).rn (unhide FX)) (by have := unhide LX; omega)).mono ?_
    rintro e w5 ⟨v5, rfl, m5, s5, gr5⟩
    have M5 := hide m5
    have R5 := hide ((unhide R4).nodes (unhide M4) gr5)
    have I5 := hide ((unhide IX).kept gr5 (fun z hz e => (unhide IX).ne hz (unhide M4).blk (by decide) (by simpa using e)))
    have F5 := hide ((Fr2.of w (w4.alloc (.cells #[.int .i64 fr, .int .i64 x] 36)) b c (unhide G04)).left gr5)
    have cN5 : w5.cell? ⟨w.heap.size, 1, none⟩ = some (.int .i64 N) := gr5.cell cN4 (by simpa using unhide HNe)
    have S5 : Hid (∀ z, (Value.slice (some ⟨w4.heap.size, 0, none⟩) 1 1).ownBlock = some z → v5.ownBlock ≠ some z) := hide (fun z hz e => by
      have h1 := (unhide IX).row hz
      rcases s5 with rfl | s5
      · obtain ⟨_, cur, hcu⟩ := (unhide HM).runs.row e
        have h2 := lt_of_block hcu
        have h3 := h1.1
        omega
      · obtain ⟨h2, _⟩ := s5.row e
        obtain ⟨_, cur, hcu⟩ := h1
        have h4 := lt_of_block hcu
        omega)
    clear m5 gr5 s5 M4 R4 cN4 G04
    go_wp2_with fail
    refine (rExtend_gen w5 c n u _ L [(fr, x)] (unhide R5) N hN ((unhide I5).rn (unhide FX)) (by have := unhide LX; omega)).mono ?_
    rintro e w6 ⟨u6, rfl, m6, gr6⟩
    have M6 := hide ((unhide M5).nodes (unhide R5) gr6)
    have R6 := hide m6
    have I6 : Hid (∃ l', IR w6 w.heap.size (.slice (some ⟨w4.heap.size, 0, none⟩) 1 1) l' ∧ l'.length = 1) := hide ⟨_, ((unhide I5).kept gr6 (fun z hz e => (unhide I5).ne hz (unhide R5).blk (by decide) (by simpa using e))).mono (unhide HG).size, unhide QX⟩
    have F6 := hide ((unhide F5).right gr6)
    clear m6 gr6 M5 R5 I5 F5 cN5
    have hxqI : (1 : Int) ≤ 8796093021952 := by have := unhide LX; have := unhide QX; omega
    go_wp2
    go_loopw [12] (fun i wr => ∃ (j : Nat) (l' : List (Int × Int)), i = .int .i64 (j : Int) ∧ j ≤ 1 ∧ IR wr w.heap.size (.slice (some ⟨w4.heap.size, 0, none⟩) 1 1) l' ∧ l'.length = 1 ∧ NdAt wr b (extN n N [(fr, x)]) v5 (extL n L N [(fr, x)]) ∧ RdAt wr c (extN n N [(fr, x)]) u6 (extL n L N [(fr, x)]) ∧ Fr2 w wr b c) (fun i _ => 1 - (intOf i).toNat)
    case atStart =>
      obtain ⟨l', h1, h2⟩ := unhide I6
      exact ⟨0, l', rfl, by omega, h1, h2, unhide M6, unhide R6, unhide F6⟩
    case round =>
      obtain ⟨j, l', rfl, hj, ho, hxl, hm, hr, hf⟩ := hrel
      have HO := hide ho
      have HXl := hide hxl
      have HM7 := hide hm
      have HR7 := hide hr
      have HF7 := hide hf
      clear ho hxl hm hr hf M6 R6 I6 F6
      by_cases hlt : j < 1
      · have hlt' : (j : Int) < (1 : Int) := by omega
        have hjx : j < l'.length := by rw [unhide HXl]; exact hlt
        obtain ⟨g, hro, hgb, hgl, hcell⟩ := (unhide HO).at_ (by omega)
        injection hro with hro
        injection hro with hro
        subst hro
        obtain ⟨d0, d1⟩ := hcell j hjx
        obtain ⟨_, cur, hcur⟩ := (unhide HO).row (q := w4.heap.size) rfl
        have f0 : wr.frozen? ⟨w4.heap.size, j * 2, none⟩ = false := by simp [World.frozen?, hcur]
        have f1 : wr.frozen? ⟨w4.heap.size, j * 2 + 1, none⟩ = false := by simp [World.frozen?, hcur]
        have hgr : wr.grownBy ((wr.setCell ⟨w4.heap.size, j * 2, none⟩ (.int .i64 500)).setCell ⟨w4.heap.size, j * 2 + 1, none⟩ (.int .i64 1)) (some w4.heap.size) := (setCell_grown _ _ _ _).trans (setCell_grown _ _ _ _)
        have HO2 : Hid (∃ ys, IR ((wr.setCell ⟨w4.heap.size, j * 2, none⟩ (.int .i64 500)).setCell ⟨w4.heap.size, j * 2 + 1, none⟩ (.int .i64 1)) w.heap.size (.slice (some ⟨w4.heap.size, 0, none⟩) 1 1) ys ∧ ys.length = 1) := hide ⟨_, (unhide HO).set j 500 1 hjx, by rw [List.length_set]; exact unhide HXl⟩
        have HM2 := hide ((unhide HM7).other hgr (fun e => by
          have h7 := (unhide HM7).blk
          rw [e, hcur] at h7
          injection h7 with h7
          injection h7 with _ h7
          exact absurd h7 (by decide)) (fun z hz e => unhide S5 w4.heap.size rfl (by rw [hz, e])))
        have HR2 := hide ((unhide HR7).other hgr (fun e => by
          have h7 := (unhide HR7).blk
          rw [e, hcur] at h7
          injection h7 with h7
          injection h7 with _ h7
          exact absurd h7 (by decide)) (fun z hz => (unhide HR7).list.ne hz hcur (by decide)))
        have HF2 := hide ((unhide HF7).new hgb hgr)
        clear hcell hcur HO HM7 HR7 HF7 hgr
        go_wp2
        go_roundw
        case rel =>
          obtain ⟨ys, h1, h2⟩ := unhide HO2
          exact ⟨j + 1, ys, rfl, by omega, h1, h2, unhide HM2, unhide HR2, unhide HF2⟩
        case measure => simp [intOf]; omega
      · have hlt' : ¬ (j : Int) < (1 : Int) := by omega
        have HD : Hid (DoPost w b c (.returned (.bool true)) wr) := hide ⟨rfl, ⟨_, _, _, _, unhide HM7, unhide HR7⟩, unhide HF7⟩
        clear HO HM7 HR7 HF7
        go_wp2
        go_ret
        exact unhide HD
  · have hout : ¬ (0 < x ∧ (0 : Int) < (q : Int)) := by omega
    have HLL : Hid (∀ K : Prop, ((¬ 0 < x) → K) → ((0 < x ∧ ¬ (0 : Int) < (q : Int)) → K) → K) := hide (fun K h1 h2 => by
      by_cases e : 0 < x
      · exact h2 ⟨e, fun h => hout ⟨e, h⟩⟩
      · exact h1 e)
    have IX : Hid (IR w4 W.heap.size (.slice none 0 0) []) := hide (IR.nil _ _)
    have GX := G4
    have FX : Hid (∀ z ∈ ([] : List (Int × Int)), fits z) := hide (fun z hz => by cases hz)
    have LX : Hid (([] : List (Int × Int)).length ≤ 8796093021952) := hide (by simp)
    have QX : Hid (([] : List (Int × Int)).length = 0) := hide rfl
    clear hgo hout hFits
    refine unhide HLL _ ?_ ?_
    all_goals intro hx
    all_goals try obtain ⟨hx1, hx2⟩ := hx
    all_goals go_upto_region 10 with fail
    all_goals clear fL fN
    all_goals
      have M4 := hide ((unhide HM).grown (unhide GX))
      have R4 := hide ((unhide HR).grown (unhide GX))
      have cN4 := (unhide GX).cell cN (by simp)
      have G04 : Hid (w.grownBy w4 none) := hide ((unhide HG).trans (unhide GX))
      have ZX := hide (unhide GX).size
      go_wp2_with fail
      refine (Extend_gen w4 b n v _ L ([] : List (Int × Int)) (unhide M4) N hN ((unhide IX).rn (unhide FX)) (by have := unhide LX; omega)).mono ?_
      rintro e w5 ⟨v5, rfl, m5, s5, gr5⟩
      have M5 := hide m5
      have R5 := hide ((unhide R4).nodes (unhide M4) gr5)
      have I5 := hide ((unhide IX).kept gr5 (fun z hz e => (unhide IX).ne hz (unhide M4).blk (by decide) (by simpa using e)))
      have F5 := hide ((Fr2.of w w4 b c (unhide G04)).left gr5)
      have cN5 : w5.cell? ⟨w.heap.size, 1, none⟩ = some (.int .i64 N) := gr5.cell cN4 (by simpa using unhide HNe)
      have S5 : Hid (∀ z, (Value.slice none 0 0).ownBlock = some z → v5.ownBlock ≠ some z) := hide (fun z hz e => by
        have h1 := (unhide IX).row hz
        rcases s5 with rfl | s5
        · obtain ⟨_, cur, hcu⟩ := (unhide HM).runs.row e
          have h2 := lt_of_block hcu
          have h3 := h1.1
          omega
        · obtain ⟨h2, _⟩ := s5.row e
          obtain ⟨_, cur, hcu⟩ := h1
          have h4 := lt_of_block hcu
          omega)
      clear m5 gr5 s5 M4 R4 cN4 G04
      go_wp2_with fail
      refine (rExtend_gen w5 c n u _ L ([] : List (Int × Int)) (unhide R5) N hN ((unhide I5).rn (unhide FX)) (by have := unhide LX; omega)).mono ?_
      rintro e w6 ⟨u6, rfl, m6, gr6⟩
      have M6 := hide ((unhide M5).nodes (unhide R5) gr6)
      have R6 := hide m6
      have I6 : Hid (∃ l', IR w6 w.heap.size (.slice none 0 0) l' ∧ l'.length = 0) := hide ⟨_, ((unhide I5).kept gr6 (fun z hz e => (unhide I5).ne hz (unhide R5).blk (by decide) (by simpa using e))).mono (unhide HG).size, unhide QX⟩
      have F6 := hide ((unhide F5).right gr6)
      clear m6 gr6 M5 R5 I5 F5 cN5
      have hxqI : (0 : Int) ≤ 8796093021952 := by have := unhide LX; have := unhide QX; omega
      go_wp2
      go_loopw [12] (fun i wr => ∃ (j : Nat) (l' : List (Int × Int)), i = .int .i64 (j : Int) ∧ j ≤ 0 ∧ IR wr w.heap.size (.slice none 0 0) l' ∧ l'.length = 0 ∧ NdAt wr b (extN n N []) v5 (extL n L N []) ∧ RdAt wr c (extN n N []) u6 (extL n L N []) ∧ Fr2 w wr b c) (fun i _ => 0 - (intOf i).toNat)
      case atStart =>
        obtain ⟨l', h1, h2⟩ := unhide I6
        exact ⟨0, l', rfl, by omega, h1, h2, unhide M6, unhide R6, unhide F6⟩
      case round =>
        obtain ⟨j, l', rfl, hj, ho, hxl, hm, hr, hf⟩ := hrel
        have HO := hide ho
        have HXl := hide hxl
        have HM7 := hide hm
        have HR7 := hide hr
        have HF7 := hide hf
        clear ho hxl hm hr hf M6 R6 I6 F6
        by_cases hlt : j < 0
        · exact absurd hlt (Nat.not_lt_zero _)
        · have hlt' : ¬ (j : Int) < (0 : Int) := by omega
          have HD : Hid (DoPost w b c (.returned (.bool true)) wr) := hide ⟨rfl, ⟨_, _, _, _, unhide HM7, unhide HR7⟩, unhide HF7⟩
          clear HO HM7 HR7 HF7
          go_wp2
          go_ret
          exact unhide HD
end Go.Proofs.Ythjcdibblhcgpaa

/-
  DERIVED. How bytes that came in are opened, and how long they may be.
-/
namespace Go.Proofs.Ythjcdibblhcgpaa
open Go.ChangeShapes Go.WideShapes Go.ChangeAt Go.RowKit
set_option linter.unusedVariables false

theorem nil_sl (w : World) : Sl w (.slice none 0 0) [] := ⟨none, 0, rfl, by simp, by simp [maxLen], fun h => absurd rfl h⟩
theorem Try.bytes5 : Try.prog.bytesOf 5 = 1 := by kernel_rfl
theorem Try.cells5 : Try.prog.cellsOf 5 = 1 := by kernel_rfl

theorem byte_wf {n : Int} (h : (Lit.int .u8 n).wf = true) : n = ((UInt8.ofNat n.toNat).toNat : Int) := by
  have := bounds_u8 h
  simp only [UInt8.toNat_ofNat']
  omega

theorem open_bytes {H : Type} {enc : TypeId × Value → H} {W : World} {a : Option Addr} {n c : Nat} {d : DataW H} {p : List MemPlace}
    (h : DataW.Trod enc Try.prog W 0 (fun _ => true) true 23 (.slice a n c) d p) :
    ∃ l : List UInt8, Sl W (.slice a n c) l ∧ ((d = .nil ∧ l = []) ∨ ∃ es sp, d = .slice es sp ∧ l.length ≤ es.length + sp.length) := by
  obtain ⟨fuel, hf⟩ := h
  rcases open_ints Try.underlying23 Try.underlying5 Try.cells5 hf with ⟨hcs, hx⟩ | ⟨x, l, cp, zs, hcs, _, hl, hm, hz, hx, hcell, hwz⟩
  · simp [Value.cells] at hcs
    obtain ⟨rfl, rfl, rfl⟩ := hcs
    simp only [Prod.mk.injEq] at hx
    exact ⟨[], nil_sl W, .inl ⟨hx.1, rfl⟩⟩
  · simp [Value.cells] at hcs
    obtain ⟨rfl, rfl, rfl⟩ := hcs
    simp only [Prod.mk.injEq] at hx
    rw [if_pos rfl] at hz
    have hlen : ((zs.take n).map (fun z => UInt8.ofNat z.toNat)).length = n := by simp; omega
    refine ⟨(zs.take n).map (fun z => UInt8.ofNat z.toNat), ⟨some x, c, by rw [hlen], by rw [hlen]; exact hl, hm, fun hc => ?_⟩, .inr ⟨_, _, hx.1, ?_⟩⟩
    · have h0 := hcell 0 (by omega)
      have hsp := World.cell?_spot h0
      obtain ⟨b, off, sp⟩ := x
      have hsp' : sp = none := by
        cases sp with
        | none => rfl
        | some k => simp [Addr.add] at hsp
      subst hsp'
      refine ⟨b, off, rfl, ?_, fun i hi => ?_⟩
      · rw [addr_add] at h0
        exact World.block_lt_of_cell? W ⟨b, off + 0, none⟩ h0
      · have hi' : i < n := by rw [hlen] at hi; exact hi
        have := hcell i (by omega)
        rw [addr_add] at this
        rw [this]
        have hmem : zs.getD i 0 ∈ zs := by
          rw [List.getD_eq_getElem?_getD, List.getElem?_eq_getElem (by omega)]; exact List.getElem_mem _
        have hb := byte_wf (hwz _ hmem)
        have e : ((zs.take n).map (fun z => UInt8.ofNat z.toNat))[i] = UInt8.ofNat (zs.getD i 0).toNat := by
          simp [List.getD_eq_getElem?_getD, List.getElem?_eq_getElem (show i < zs.length by omega)]
        rw [e]
        show _ = some (Value.int .u8 _)
        rw [← hb]
    · rw [hlen]; simp only [lits, List.length_map, List.length_take, List.length_drop]; omega
theorem bulkAll_len {H : Type} : ∀ (l : List (DataW H)), l.length ≤ Rows.uptoBulkAll l
  | [] => by simp
  | d :: r => by
    have h1 : 1 ≤ Rows.uptoBulk d := by
      cases d with
      | lit l => cases l <;> simp [Rows.uptoBulk]
      | nil => simp [Rows.uptoBulk]
      | ptr d => simp [Rows.uptoBulk]
      | slice elems spare => simp [Rows.uptoBulk]
      | agg parts => simp [Rows.uptoBulk]
      | iface t d => simp [Rows.uptoBulk]
      | map entries => simp [Rows.uptoBulk]
      | held h => simp [Rows.uptoBulk]
    have := bulkAll_len r
    simp only [Rows.uptoBulkAll, List.length_cons]; omega

end Go.Proofs.Ythjcdibblhcgpaa

/-
  DERIVED. How calls that came in are opened, and how long their runs may be.
-/
namespace Go.Proofs.Ythjcdibblhcgpaa
open Go.ChangeShapes Go.WideShapes Go.ChangeAt Go.RowKit
set_option linter.unusedVariables false

theorem weightsAll_mem {H : Type} {P : Program} {e : TypeId} {d : DataW H} {n : Nat} : ∀ {l : List (DataW H)}, d ∈ l → n ∈ d.weights P e → n ∈ DataW.weightsAll P e l
  | x :: l, h, hn => by
    simp only [DataW.weightsAll, List.mem_append]
    rcases List.mem_cons.1 h with rfl | h
    · exact .inl hn
    · exact .inr (weightsAll_mem h hn)
theorem Try.bytesRun : Try.prog.bytesOf 36 = 16 := by kernel_rfl
theorem open_runs3 {H : Type} {enc : TypeId × Value → H} {W : World} {v : Value} {y : DataW H × List MemPlace} {fuel : Nat}
    (hf : DataW.trod enc Try.prog W 0 (fun _ => true) true fuel 28 [v] = some y) : ∃ l : List (Int × Int), Rn W v l ∧ (∀ n c, v = .slice none n c → c = 0) ∧ ∀ B, (∀ x ∈ y.1.weights Try.prog 28, x ≤ B) → l.length * 16 ≤ B := by
  obtain ⟨l, hl⟩ := open_runs hf
  refine ⟨l, hl, ?_⟩
  rcases Go.Deep.open_slice Try.underlying28 hf with ⟨hcs, hx⟩ | ⟨x, n, cap, m, k, D, Pl, hcs, _, hln, hm, hz, hx, hcell⟩
  · simp at hcs
    subst hcs
    obtain ⟨ao, cp, e, _⟩ := hl
    injection e with e1 e2 e3
    exact ⟨fun n c e => by injection e with _ _ e; exact e.symm, fun B _ => by omega⟩
  · simp at hcs
    subst hcs
    obtain ⟨ao, cp, e, _⟩ := hl
    injection e with e1 e2 e3
    refine ⟨(fun n c e => by cases e), ?_⟩
    intro B hB
    have hm := hB ((((List.range n).map D).length + ((List.range (m - n)).map fun j => D (n + j)).length) * Try.prog.bytesOf 36) (by rw [hx]; simp [DataW.weights, Try.underlying28])
    rw [Try.bytesRun] at hm
    simp at hm
    omega
/-- A slice of calls, whose runs are no longer than B. -/
def IClL3 (w : World) (v : Value) (l : List ICl) (B : Nat) : Prop :=
  ∃ ao cap, v = .slice ao l.length cap ∧ l.length ≤ 9223372036854775807 ∧ (0 < l.length → ∃ b off, ao = some ⟨b, off, none⟩ ∧ b < w.heap.size ∧ ∀ i, (h : i < l.length) → IClAt w b (off + i * 4) l[i] ∧ (∃ v, w.cell? ⟨b, off + i * 4 + 2, none⟩ = some v ∧ Rn w v l[i].l ∧ ∀ n c, v = .slice none n c → c = 0) ∧ l[i].l.length * 16 ≤ B)

set_option maxRecDepth 100000 in
theorem open_icalls3 {H : Type} {enc : TypeId × Value → H} {W : World} {a : Option Addr} {n c : Nat} {d : DataW H} {p : List MemPlace}
    (h : DataW.Trod enc Try.prog W 0 (fun _ => true) true 22 (.slice a n c) d p) {B : Nat} (hB : ∀ x ∈ d.weights Try.prog 22, x ≤ B) : ∃ l : List ICl, IClL3 W (.slice a n c) l B := by
  obtain ⟨fuel, hf⟩ := h
  obtain ⟨f0, f1, f2, f3, hu, ⟨o0, o1, o2, o3⟩, t0, t1, t2, t3⟩ := Try.underICall
  rcases Go.Deep.open_slice Try.underlying22 hf with ⟨hcs, hx⟩ | ⟨x, n', cap, m, k, D, Pl, hcs, _, hl, hm, hz, hx, hcell⟩
  · simp [Value.cells] at hcs
    obtain ⟨rfl, rfl, rfl⟩ := hcs
    exact ⟨[], none, 0, rfl, by simp, fun h => by simp at h⟩
  · simp [Value.cells] at hcs
    obtain ⟨rfl, rfl, rfl⟩ := hcs
    rw [if_pos rfl] at hz
    subst hz
    unfold maxLen at hm
    have hel : ∀ i, i < n → ∃ e : ICl, I64 e.kind ∧ I64 e.n ∧ W.cell? (x.add (i * 4)) = some (.int .i64 e.kind) ∧ W.cell? (x.add (i * 4 + 1)) = some (.int .i64 e.n) ∧ (∃ v, W.cell? (x.add (i * 4 + 2)) = some v ∧ Rn W v e.l ∧ ∀ n c, v = .slice none n c → c = 0) ∧ W.cell? (x.add (i * 4 + 3)) = some (.bool e.two) ∧ (∀ B, (∀ x ∈ (D i).weights Try.prog 30, x ≤ B) → e.l.length * 16 ≤ B) := by
      intro i hi
      obtain ⟨cs, q1, q2⟩ := hcell i (by omega)
      rw [Try.cellsICall] at q1
      obtain ⟨_, hlen, hc⟩ := World.cells?_some q1
      match cs, hlen with
      | [c0, c1, c2, c3], _ =>
        obtain ⟨xs, k', _, hDx, _, hxl, hfl⟩ := DataW.trod_struct hu q2
        match xs, hxl with
        | [x0, x1, x2, x3], _ =>
          have g0 := hfl 0 f0 rfl
          have g1 := hfl 1 f1 rfl
          have g2 := hfl 2 f2 rfl
          have g3 := hfl 3 f3 rfl
          rw [o0, t0, Try.cellsInt] at g0
          rw [o1, t1, Try.cellsInt] at g1
          rw [o2, t2, Try.cellsRuns] at g2
          rw [o3, t3, Try.cellsBool] at g3
          obtain ⟨s0, e0, _, w0⟩ := DataW.trod_int Try.underlying3 g0
          obtain ⟨s1, e1, _, w1⟩ := DataW.trod_int Try.underlying3 g1
          obtain ⟨s3, e3, _⟩ := DataW.trod_bool Try.underlying4 g3
          simp at e0 e1 e3
          subst e0 e1 e3
          simp at g2
          obtain ⟨l2, h2, hn2, hb2⟩ := open_runs3 g2
          have hDi : D i = .agg [x0.1, x1.1, x2.1, x3.1] := by simpa using congrArg Prod.fst hDx
          have hbd : ∀ B, (∀ x ∈ (D i).weights Try.prog 30, x ≤ B) → l2.length * 16 ≤ B := by
            intro B hB
            refine hb2 B fun x hx => hB x ?_
            rw [hDi]
            simp only [DataW.weights, hu, DataW.weightsEach, List.map_cons, t2, List.mem_append]
            exact .inr (.inr (.inl hx))
          have k0 := hc 0 (by omega)
          have k1 := hc 1 (by omega)
          have k2 := hc 2 (by omega)
          have k3 := hc 3 (by omega)
          rw [Go.Deep.add_add] at k0 k1 k2 k3
          have b0 := bounds_i64 w0
          have b1 := bounds_i64 w1
          exact ⟨⟨s0, s1, l2, s3⟩, ⟨by simp only; omega, by simp only; omega⟩, ⟨by simp only; omega, by simp only; omega⟩, k0, k1, ⟨c2, k2, h2, hn2⟩, k3, hbd⟩
    obtain ⟨F, hF⟩ := Go.Deep.choose_lt (α := ICl) hel
    have hlen : ((List.range n).map F).length = n := by simp
    refine ⟨(List.range n).map F, some x, _, by rw [hlen], by rw [hlen]; omega, fun hz => ?_⟩
    rw [hlen] at hz
    have h0 := (hF 0 (by omega)).2.2.1
    have hsp := World.cell?_spot h0
    obtain ⟨b, off, sp⟩ := x
    have hsp' : sp = none := by
      cases sp with
      | none => rfl
      | some k => simp [Addr.add] at hsp
    subst hsp'
    refine ⟨b, off, rfl, ?_, fun i hi => ?_⟩
    · rw [addr_add] at h0
      exact World.block_lt_of_cell? W ⟨b, off + 0 * 4, none⟩ h0
    · have hi' : i < n := by rw [hlen] at hi; exact hi
      obtain ⟨j0, j1, q0, q1, ⟨v, q2, q3, qn⟩, q4, q5⟩ := hF i hi'
      rw [addr_add] at q0 q1 q2 q4
      have e : ((List.range n).map F)[i] = F i := by simp
      rw [e]
      simp only [← Nat.add_assoc] at q1 q2 q4
      refine ⟨{ c0 := q0, c1 := q1, c2 := ⟨v, q2, q3⟩, c3 := q4, i0 := j0, i1 := j1 }, ⟨v, q2, q3, qn⟩, ?_⟩
      have hdd : d = .slice ((List.range n).map D) ((List.range (m - n)).map fun j => D (n + j)) := by simpa using congrArg Prod.fst hx
      refine q5 B fun x hx => hB x ?_
      rw [hdd]
      simp only [DataW.weights, Try.underlying22, List.mem_cons, List.mem_append]
      exact .inr (.inl (weightsAll_mem (List.mem_map.2 ⟨i, List.mem_range.2 hi', rfl⟩) hx))
end Go.Proofs.Ythjcdibblhcgpaa
