/-
  DERIVED. parted, Cut, Copy.
-/
import Derived.Test.YtikoegmpbjeadaaIplace
import Derived.Test.YtikoegmpbjeadaaIext
import Derived.Deep.Cut
import Derived.Deep.CutRange
import Derived.BigRegion
namespace Go.Proofs.Ytikoegmpbjeadaa
open Go.RowKit
set_option linter.unusedVariables false

theorem rcells_append (xs ys : List (Nat × Nat)) : rcells (xs ++ ys) = rcells xs ++ rcells ys := by simp [rcells]
theorem rcells_take : ∀ (xs : List (Nat × Nat)) (r j : Nat) (u : Value), (rcells (xs.take r))[j]? = some u → (rcells xs)[j]? = some u := by
  intro xs r j u h
  have e : rcells xs = rcells (xs.take r) ++ rcells (xs.drop r) := by rw [← rcells_append, List.take_append_drop]
  rw [e, List.getElem?_append_left (List.getElem?_eq_some_iff.1 h).1]
  exact h
theorem rcells_drop : ∀ (xs : List (Nat × Nat)) (r j : Nat) (u : Value), r ≤ xs.length → (rcells (xs.drop r))[j]? = some u → (rcells xs)[r * 2 + j]? = some u := by
  intro xs r j u hr h
  have e : rcells xs = rcells (xs.take r) ++ rcells (xs.drop r) := by rw [← rcells_append, List.take_append_drop]
  have hl : (rcells (xs.take r)).length = r * 2 := by rw [rcells_len, List.length_take]; omega
  rw [e, List.getElem?_append_right (by omega), hl, show r * 2 + j - r * 2 = j by omega]
  exact h

theorem rows_succ {W : World} {base : Nat} {e : TypeId} {size : Nat} {v : Value} {k : Nat} {xs : List Value} (h : W.ownsRow base e size v (k + 1) xs) : ∃ g cap, v = .slice (some ⟨g, 0, none⟩) (k + 1) cap := by
  rcases h.2 with ⟨_, h0⟩ | ⟨g, cap, cur, e, _⟩
  · omega
  · exact ⟨g, cap, e⟩
theorem run_append_run3 (w : World) (base : Nat) (ty : TypeId) (v : Value) (xs : List (Nat × Nat)) (hown : ROwn w base v xs) (hb : base ≤ w.heap.size) (hl : xs.length ≤ 65536) (ad : Addr) (c : Nat) (x : Nat × Nat)
    (hc : ∀ j u, ([.int .i64 (x.1 : Int), .int .i64 (x.2 : Int)] : List Value)[j]? = some u → w.cell? (ad.add j) = some u) :
    ∃ v' w', (Builtin.append_ #[32, 32] ty #[v, .slice (some ad) 1 c]).run Try.prog w = .ok v' w' ∧ ROwn w' base v' (xs ++ [x]) ∧ w.grownBy w' v.ownBlock ∧ (v'.ownBlock = v.ownBlock ∨ ∃ g, v'.ownBlock = some g ∧ w.heap.size ≤ g) := by
  obtain ⟨i0, hi, hz0, hz1, hz2⟩ := info_parts Try.infoRun3
  have h1c : ∀ u ∈ ([.int .i64 (x.1 : Int), .int .i64 (x.2 : Int)] : List Value), u.oneCell' = true := by
    intro u hu
    rcases List.mem_cons.1 hu with rfl | hu
    · rfl
    · rcases List.mem_cons.1 hu with rfl | hu
      · rfl
      · cases hu
  have fin : ∀ {w' : World} {v' : Value} {b2 : Nat}, base ≤ b2 → w'.ownsRow b2 51 2 v' (xs.length + 1) (rcells xs ++ [.int .i64 (x.1 : Int), .int .i64 (x.2 : Int)]) → ROwn w' base v' (xs ++ [x]) := fun {w' v' b2} hb2 h => by
    unfold ROwn
    rw [rcells_snoc, List.length_append]
    obtain ⟨h1, h2⟩ := h
    refine ⟨h1, ?_⟩
    rcases h2 with h2 | ⟨g, cap, cur, a1, a2, a3⟩
    · exact .inl h2
    · exact .inr ⟨g, cap, cur, a1, by omega, a3⟩
  have hown0 := hown
  have hm : xs.length + 1 ≤ maxLen := by unfold maxLen; omega
  rcases hown.2 with ⟨rfl, h0⟩ | ⟨g, cap, cur, rfl, hbg, hg, hn, hcm, hsz, ht⟩
  · have hx0 : xs = [] := List.eq_nil_of_length_eq_zero h0
    subst hx0
    obtain ⟨v', w', hr, r1, r2, _⟩ := run_append_own (P := Try.prog) w w.heap.size 32 ty 51 i0 (.agg #[.int .i64 0, .int .i64 0]) 2 16 Try.underlying32 hi hz0 hz1 hz2 rfl (by decide) (.slice none 0 0) 0 [] (World.ownsRow_nil w _ _ _) ad 1 c _ rfl hc h1c (by unfold maxLen; omega) (by omega) (Nat.le_refl _)
    refine ⟨v', w', hr, fin hb (by simpa [rcells] using r1), r2, .inr ?_⟩
    obtain ⟨g, cap, rfl⟩ := rows_succ (k := 0) (by simpa using r1)
    refine ⟨g, rfl, ?_⟩
    rcases r1.2 with ⟨e, _⟩ | ⟨g', cap', cur, e, hb', _⟩
    · cases e
    · cases e; exact hb'
  · by_cases hfit : xs.length + 1 ≤ cap
    · obtain ⟨w', hr, r1, r2⟩ := run_append_fits (P := Try.prog) w base 32 ty 51 i0 2 Try.underlying32 hi hz1 g xs.length cap (rcells xs) hown0 ad 1 c _ rfl hc h1c hfit
      exact ⟨_, w', hr, fin (Nat.le_refl _) r1, r2, .inl rfl⟩
    · have hlo : (rcells xs).length = xs.length * 2 := hown.1
      obtain ⟨v', w', hr, r1, r2⟩ := run_append_arg_grows (P := Try.prog) w 32 ty 51 i0 (.agg #[.int .i64 0, .int .i64 0]) 2 16 Try.underlying32 hi hz0 hz1 hz2 rfl (by decide) ⟨g, 0, none⟩ xs.length cap (rcells xs) hlo (fun j u hj => by
        have hjl : j < (rcells xs).length := (List.getElem?_eq_some_iff.1 hj).1
        rw [addr_add, cell_of_row _ _ _ _ _ _ hg]
        have e : (cur.toList.take (xs.length * 2))[j]? = (rcells xs)[j]? := by rw [ht]
        rw [List.getElem?_take_of_lt (by omega)] at e
        rw [Nat.zero_add, ← hj, ← e]
        simp) ad 1 c _ rfl hc (by omega) hm (by omega)
      refine ⟨v', w', hr, fin hb (by simpa using r1), r2.but _, .inr ?_⟩
      obtain ⟨g', cap', rfl⟩ := rows_succ (k := xs.length) (by simpa using r1)
      refine ⟨g', rfl, ?_⟩
      rcases r1.2 with ⟨e, _⟩ | ⟨g'', cap'', cur', e, hb', _⟩
      · cases e
      · cases e; exact hb'
theorem wpList_append_run3 {ops : Array Oper} {rest : List Oper} {o : Oper} {a : Act} {w : World} {Q : Exit → Act → World → Prop} (hgd : o.guard = none) (s x : Operand)
    (hop : o.op = Op.call { callee := Callee.builtin Builtin.append, args := #[s, x], argTypes := #[32, 32] }) (base : Nat) (v : Value) (xs : List (Nat × Nat)) (hs : a.eval s = v) (hown : ROwn w base v xs) (hb : base ≤ w.heap.size) (hl : xs.length ≤ 65536) (ad : Addr) (c : Nat) (y : Nat × Nat)
    (hx : a.eval x = .slice (some ad) 1 c) (hc : ∀ j u, ([.int .i64 (y.1 : Int), .int .i64 (y.2 : Int)] : List Value)[j]? = some u → w.cell? (ad.add j) = some u)
    (hK : ∀ v' w', ROwn w' base v' (xs ++ [y]) → w.grownBy w' v.ownBlock → (v'.ownBlock = v.ownBlock ∨ ∃ g, v'.ownBlock = some g ∧ w.heap.size ≤ g) → wpList Try.prog ops Q rest (a.put o.dst v') w') :
    wpList Try.prog ops Q (o :: rest) a w := by
  refine wpList_plain hgd fun K hK' => ?_
  obtain ⟨v', w', hrun, r1, r2, r3⟩ := run_append_run3 w base o.type v xs hown hb hl ad c y hc
  unfold Oper.wp execOp
  simp [hop, resolve, invoke, builtin, hs, hx, hrun, Result.andThen]
  exact hK' _ _ (hK v' w' r1 r2 r3)

theorem Clone_at (w : World) (g off m c : Nat) (xs : List (Nat × Nat)) (hm : xs.length = m) (hlen : m ≤ 65536)
    (hc : ∀ j u, (rcells xs)[j]? = some u → w.cell? ⟨g, off + j, none⟩ = some u) :
    Calls Try.prog 43 #[.slice (some ⟨g, off, none⟩) m c] w fun e w' => ∃ u, e = .returned u ∧ ROwn w' w.heap.size u xs ∧ w.grownBy w' none := by
  subst hm
  exact Clone_part w g off c xs hlen hc

theorem Clone_drew (w : World) (g off m c : Nat) (xs : List (Nat × Nat)) (hm : xs.length = m) (hlen : m ≤ 65536)
    (hc : ∀ j u, (rcells xs)[j]? = some u → w.cell? ⟨g, off + j, none⟩ = some u) :
    Calls Try.prog 43 #[.slice (some ⟨g, off, none⟩) m c] w.drew fun e w' => ∃ u, e = .returned u ∧ ROwn w' w.heap.size u xs ∧ w.grownBy w' none := by
  refine (Clone_at w.drew g off m c xs hm hlen fun j u hj => (show w.drew.cell? _ = some u from hc j u hj)).mono ?_
  rintro e w' ⟨u, rfl, o, g⟩
  exact ⟨u, rfl, o, ⟨g.os, g.tape, g.output, g.size, g.block⟩⟩

set_option maxRecDepth 20000 in
set_option maxHeartbeats 4000000 in
theorem parted_any (w : World) (b n : Nat) (v : Value) (L : List Nat) (h : NdAt w b n v L) (k : Nat) (hk : k < L.length) :
    Calls Try.prog 42 #[.pointer (some ⟨b, 0, none⟩), .int .i64 (k : Int)] w fun e w' => ∃ a c, e = .returned (.tuple #[a, c]) ∧ ROwn w' w.heap.size a (canon (L.take k)) ∧ ROwn w' w.heap.size c (canon (L.drop k)) ∧ (∀ q, c.ownBlock = some q → a.ownBlock ≠ some q) ∧ w.grownBy w' none := by
  have HM := hide h
  have hne : ¬ (k : Int) = (L.length : Int) := by omega
  have hsm := h.small
  have hT := tot_canon L
  have hcl : (canon L).length ≠ 0 := by
    intro e
    rw [List.eq_nil_of_length_eq_zero e, tot_nil] at hT
    omega
  have hlow := low_canon h.lw
  have c1 := h.val
  clear hT
  rcases h.runs.2 with ⟨hv, h0⟩ | ⟨g, cap, cur, rfl, _, hgb, hn, hm, hs, ht⟩
  · exact absurd h0 hcl
  have HR := hide h.runs
  have HX := hide hgb
  unfold maxLen at hm
  clear h ht hs hgb
  go_enter Try.func42, Try.ntmps42
  go_wp2_with fail
  refine (Blocks_any w b n _ L (unhide HM)).mono ?_
  rintro e w1 ⟨rfl, rfl⟩
  go_wp2_with fail
  refine (place_any w1 b n _ L (unhide HM) k hk).mono ?_
  rintro e w2 ⟨r, j, rfl, hin, rfl⟩
  have HK := hide hin.kept.1
  have HG := hide hin.kept.2
  have hr := hin.lt
  have hj := hin.kl
  obtain ⟨x, hx0⟩ : ∃ x, x = (canon L)[r] := ⟨_, rfl⟩
  have HE : Hid ((canon L).drop r = (x.1, x.2) :: (canon L).drop (r + 1)) := hide (by rw [hx0]; exact List.drop_eq_getElem_cons hr)
  have HD : Hid ((canon L)[r]?.getD (0, 0) = x) := hide (by rw [hin.getD, hx0])
  have hx := hlow _ (List.getElem_mem hr)
  rw [← hx0] at hj hx
  clear hx0 hlow hin
  obtain ⟨x1, x2⟩ := x
  simp only at hj hx HE
  have HC0 : Hid (∀ j u, (rcells ((canon L).take r))[j]? = some u → w2.cell? ⟨g, 0 + j, none⟩ = some u) := hide (fun j u hj => by rw [Nat.zero_add]; exact (unhide HR).cells j u (rcells_take _ _ _ _ hj))
  have HC1 : Hid (∀ j u, (rcells ((canon L).drop r))[j]? = some u → w2.cell? ⟨g, r * 2 + j, none⟩ = some u) := hide (fun j u hj => (unhide HR).cells _ u (rcells_drop _ _ _ _ (by omega) hj))
  obtain ⟨X, hX⟩ : ∃ X, X = canon L := ⟨_, rfl⟩
  rw [← hX] at HR hr hcl hn hsm HK HG HE HD HC0 HC1 c1 HM
  have hl1 : (X.take r).length = r := by rw [List.length_take]; omega
  have hl2 : (X.drop r).length = X.length - r := by rw [List.length_drop]
  obtain ⟨q, hq⟩ : ∃ q, q = X.length := ⟨_, rfl⟩
  rw [← hq] at hr hcl hn hsm HR c1 hl2 HM
  clear hX hq hcl
  have hrI : (r : Int) < (q : Int) := by omega
  have hnI : (q : Int) ≤ (cap : Int) := by omega
  have hmI : (cap : Int) ≤ 9223372036854775807 := by omega
  go_wp2_with fail
  clear hne
  go_cut [8, 9] from 24 to 37 (fun a c wx => ∃ ao cp gb cpb, a = .slice ao r cp ∧ c = .slice (some ⟨gb, 0, none⟩) (q - r) cpb ∧ ROwn wx w2.heap.size a (X.take r) ∧ ROwn wx w2.heap.size c (X.drop r) ∧ (∀ z, a.ownBlock = some z → z ≠ gb) ∧ w2.grownBy wx none)
  case first =>
    go_region_with (first | (go_at_call 43; refine (Clone_drew w2 g 0 r cap (X.take r) hl1 (by omega) (unhide HC0)).mono ?_; rintro e wa ⟨ua, rfl, oa, ga⟩; have c1a : wa.cell? ⟨b, 1, none⟩ = some (.slice (some ⟨g, 0, none⟩) q cap) := ga.cell c1 (by simp); have OA := hide oa; have GA := hide ga; clear oa ga) | (go_at_call 43; refine (Clone_at _ g (r * 2) (q - r) (cap - r) (X.drop r) hl2 (by omega) (fun j u hj => (unhide GA).cell (unhide HC1 j u hj) (by simp))).mono ?_; rintro e wb ⟨ub, rfl, ob, gb⟩; have OB := hide ob; have GB := hide gb; clear ob gb))
    all_goals go_wp2_with fail
    all_goals go_meet
    all_goals
      have ob := unhide OB
      have oa := (unhide OA).grown (unhide GB)
      have g2 := (unhide GA).trans (unhide GB)
      have sA := (unhide GA).size
      have e1 : ∃ ao cp, ua = .slice ao r cp := by
        obtain ⟨ao, cp, e, _⟩ := oa.form
        rw [hl1] at e
        exact ⟨ao, cp, e⟩
      have e2 : ∃ gb cpb, ub = .slice (some ⟨gb, 0, none⟩) (q - r) cpb ∧ wa.heap.size ≤ gb := by
        obtain ⟨ao, cp, e, _, _, h4⟩ := ob.form
        obtain ⟨gb, e2, h5, _⟩ := h4 (by omega)
        rw [hl2, e2] at e
        exact ⟨gb, cp, e, h5⟩
      obtain ⟨ao, cp, ha⟩ := e1
      obtain ⟨gb, cpb, hb, hgb⟩ := e2
      refine ⟨ao, cp, gb, cpb, ha, hb, oa, ob.mono sA, fun z hz => ?_, g2⟩
      obtain ⟨_, cur', hc'⟩ := (unhide OA).row hz
      have := lt_of_block hc'
      omega
  case rest =>
    obtain ⟨ao, cp, gb, cpb, rfl, rfl, oa, ob, hsep, hg⟩ := hcut
    clear HC0 HC1 HR HX c1 HM
    have OA := hide oa
    have OB := hide ob
    have HS := hide hsep
    have GG := hide hg
    obtain ⟨_, curb, hcb⟩ := ob.row (q := gb) rfl
    have HGb := hide (lt_of_block hcb)
    obtain ⟨hgb2, _⟩ := ob.row (q := gb) rfl
    have HGb2 := hide hgb2
    have HFr : Hid (∀ i, wc.frozen? ⟨gb, i, none⟩ = false) := hide (fun i => by simp [World.frozen?, hcb])
    have dd : wc.cell? ⟨gb, 0, none⟩ = some (.int .i64 (x1 : Int)) ∧ wc.cell? ⟨gb, 1, none⟩ = some (.int .i64 (x2 : Int)) := by
      have h0 := ob.cells 0
      have h1 := ob.cells 1
      rw [unhide HE, rcells_cons] at h0 h1
      exact ⟨h0 _ rfl, h1 _ rfl⟩
    obtain ⟨d0, d1⟩ := dd
    clear oa ob hsep hg hcb hgb2
    have hqr : (0 : Int) < ((q - r : Nat) : Int) := by omega
    by_cases hj0 : j = 0
    · subst hj0
      have e1 : X.take r = canon (L.take k) := by rw [← unhide HK]; simp [keptL]
      have e2 : X.drop r = canon (L.drop k) := by rw [← unhide HG, goneL, unhide HD, unhide HE]; rfl
      have OA2 : Hid (ROwn wc w2.heap.size (.slice ao r cp) (canon (L.take k))) := hide (e1 ▸ unhide OA)
      have OB2 : Hid (ROwn wc w2.heap.size (.slice (some ⟨gb, 0, none⟩) (q - r) cpb) (canon (L.drop k))) := hide (e2 ▸ unhide OB)
      clear e1 e2 OA OB d0 d1
      go_wp2
      go_ret2
      exact ⟨_, _, rfl, unhide OA2, unhide OB2, fun z hz e => unhide HS z e (by cases hz; rfl), unhide GG⟩
    · have hji : (0 : Int) < (j : Int) := by omega
      obtain ⟨hx1, hx2⟩ := hx
      have hxi : (x1 : Int) + (x2 : Int) ≤ 512 := by omega
      have hji2 : (j : Int) < (x2 : Int) := by omega
      have HJ := hide hj0
      clear hj0
      go_wp2_with (at_builtin; refine wpList_append_run3 rfl (.tmp 40) (.tmp 47) rfl w2.heap.size _ (X.take r) rfl ?ho ?hb ?hl ⟨_, 0, none⟩ 1 (x1, j) rfl ?hc ?_)
      case ho => exact (unhide OA).grown (World.grownBy_alloc _ _ _)
      case hb => have := (unhide GG).size; simp; omega
      case hl => omega
      intro v3 w3 o3 g3 s3
      have OA3 : Hid (ROwn w3 w2.heap.size v3 (canon (L.take k))) := hide (by
        rw [← unhide HK, keptL, unhide HD, if_pos (by omega)]
        exact o3)
      have hne : some gb ≠ (Value.slice ao r cp).ownBlock := fun e => unhide HS gb e.symm rfl
      have g3' : wc.grownBy w3 (Value.slice ao r cp).ownBlock := (World.grownBy_alloc _ _ _).trans g3
      have hbk : w3.heap[gb]? = wc.heap[gb]? := g3'.block gb (unhide HGb) hne
      have OB3 : Hid (ROwn w3 w2.heap.size (.slice (some ⟨gb, 0, none⟩) (q - r) cpb) (X.drop r)) := hide ((unhide OB).kept g3' (fun z hz => by cases hz; exact hne))
      have GG3 : Hid (w2.grownBy w3 none) := hide (own_step' ((unhide GG).trans (World.grownBy_alloc _ _ _)) ((unhide OA).grown (World.grownBy_alloc _ _ _)) g3)
      have HS3 : Hid (v3.ownBlock ≠ some gb) := hide (by
        intro e
        rcases s3 with h | ⟨z, h1, h2⟩
        · exact hne (by rw [← h, e])
        · rw [e] at h1
          cases h1
          have := unhide HGb
          (try simp at h2)
          omega)
      have HF3 : Hid (∀ i, w3.frozen? ⟨gb, i, none⟩ = false) := hide (fun i => by
        have := unhide HFr i
        simp only [World.frozen?, hbk] at this ⊢
        exact this)
      have f0 := unhide HF3 0
      have f1 := unhide HF3 1
      have k0 : w3.cell? ⟨gb, 0, none⟩ = some (.int .i64 (x1 : Int)) := by rw [← d0]; simp only [World.cell?, hbk]
      have k1 : w3.cell? ⟨gb, 1, none⟩ = some (.int .i64 (x2 : Int)) := by rw [← d1]; simp only [World.cell?, hbk]
      obtain ⟨ao3, cap3, hv3, _⟩ := o3.form
      have hv3' : ∃ n3, v3 = .slice ao3 n3 cap3 := ⟨_, hv3⟩
      obtain ⟨n3, rfl⟩ := hv3'
      have HFin : Hid (ROwn ((w3.setCell ⟨gb, 0, none⟩ (.int .i64 ((x1 : Int) + (j : Int)))).setCell ⟨gb, 1, none⟩ (.int .i64 ((x2 : Int) - (j : Int)))) w2.heap.size (.slice (some ⟨gb, 0, none⟩) (q - r) cpb) (canon (L.drop k))) := hide (by
        have h1 := unhide OB3
        rw [unhide HE] at h1
        have h2 := h1.set0 0 (x1 + j) (by simp)
        have h3 := h2.set1 0 (x2 - j) (by simp)
        rw [← unhide HG, goneL, unhide HD]
        rw [← Int.natCast_add, ← Int.natCast_sub (by omega)]
        exact h3)
      have HGF : Hid (w2.grownBy ((w3.setCell ⟨gb, 0, none⟩ (.int .i64 ((x1 : Int) + (j : Int)))).setCell ⟨gb, 1, none⟩ (.int .i64 ((x2 : Int) - (j : Int)))) none) := hide (own_step (unhide GG3) (unhide HGb2) ((setCell_grown _ _ _ _).trans (setCell_grown _ _ _ _)))
      have HKF : Hid (ROwn ((w3.setCell ⟨gb, 0, none⟩ (.int .i64 ((x1 : Int) + (j : Int)))).setCell ⟨gb, 1, none⟩ (.int .i64 ((x2 : Int) - (j : Int)))) w2.heap.size (.slice ao3 n3 cap3) (canon (L.take k))) := hide ((unhide OA3).kept ((setCell_grown _ gb _ _).trans (setCell_grown _ gb _ _)) (fun z hz e => unhide HS3 (by rw [hz, e])))
      clear hv3 o3 g3 s3 g3' hbk OA OB OB3 OA3 GG GG3 d0 d1 HFr HF3 hne
      go_wp2
      go_ret2
      exact ⟨_, _, rfl, unhide HKF, unhide HFin, fun z hz e => unhide HS3 (by cases hz; exact e), unhide HGF⟩
end Go.Proofs.Ytikoegmpbjeadaa
