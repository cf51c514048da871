/-
  DERIVED. The document's Set where there is no such field.
-/
import Derived.Test.YtclllkbljaomoaaGreatDoorShR7
namespace Go.Proofs.YtclllkbljaomoaaGreatDoor
open Go.RowKit
set_option linter.unusedVariables false

theorem FBox.fdn {W : World} {q : Nat} {f : Fld} (h : FBox W q f) : FdN W (some ⟨q, 0, none⟩) 1 [f] := by
  obtain ⟨x0, x1, x2, x3, _⟩ := h.cells
  refine ⟨⟨_, _, rfl, by simp, by omega, fun _ => ⟨q, 0, rfl, h.lt, fun i hi => ?_⟩⟩, fun _ => ⟨_, _, rfl⟩⟩
  have : i = 0 := by simp at hi; omega
  subst this
  simp only [Nat.zero_mul, Nat.add_zero, Nat.zero_add, List.getElem_cons_zero]
  exact ⟨x0, x1, x2, x3⟩

/-- append(v, y...) to a new slice of no field, as a step of a region that draws: every box but the slice's own stays. -/
theorem step_append_first {ops : Array Oper} {o : Oper} {a : Act} {w : World} {K : Act → World → Prop} {Q : Exit → Act → World → Prop} {E : Prop}
    (hg : o.guard = none) (s x : Operand) (ho : o.op = .call { callee := .builtin .append, args := #[s, x], argTypes := #[35, 35] })
    (base : Nat) (g : Nat) (hs : a.eval s = .slice (some ⟨g, 0, none⟩) 0 0) (hgb : base ≤ g) (hown : w.heap[g]? = some (.cells #[] 37)) (ya : Option Addr) (n yc : Nat) (m : List Fld) (hn : n = m.length) (hx : a.eval x = .slice ya n yc) (hy : FdN w ya yc m) (hlen : m.length * 48 ≤ 140737488355328) (hbase : base ≤ w.heap.size)
    (hK : ∀ v' w', FOwn w' base v' m → Below base w w' → (∀ q f, FBox w q f → FBox w' q f) → K (a.put o.dst v') w') :
    if Region.wanted o (yielded ops a.tmps) = true then Oper.wp Tryz.prog o a w K Q else E := by
  have hown : FOwn w base (.slice (some ⟨g, 0, none⟩) 0 0) [] := ⟨rfl, .inr ⟨g, 0, #[], rfl, hgb, hown, Nat.le_refl _, by unfold maxLen; omega, rfl, rfl⟩⟩
  have hgg := hown
  subst hn
  have hw : Region.wanted o (yielded ops a.tmps) = true := by simp [Region.wanted, hg]
  rw [if_pos hw]
  obtain ⟨i0, hi, hh⟩ := Option.map_eq_some_iff.1 Tryz.infoField
  simp only [Prod.mk.injEq] at hh
  obtain ⟨hf, hnil⟩ := hy
  obtain ⟨ao, cap, e, h1, h2, h4⟩ := hf
  cases e
  cases ya with
  | none =>
    obtain rfl : yc = 0 := by
      by_cases hz : yc = 0
      · exact hz
      · obtain ⟨_, _, e⟩ := hnil hz; cases e
    have hm : m = [] := List.eq_nil_of_length_eq_zero (by omega)
    subst hm
    have hrun := run_append_owned_none (P := Tryz.prog) (w := w) base 35 o.type 37 i0 4 Tryz.underlying35 hi _ 0 (fcs []) hown
    unfold Oper.wp
    simp [execOp, ho, resolve, invoke, builtin, hs, hx, hrun, Result.andThen]
    exact hK _ w hown (Below.refl _ _) (fun _ _ h => h)
  | some ad =>
    obtain ⟨v', w', hrun, r1, r2, _⟩ := run_append_own (P := Tryz.prog) w base 35 o.type 37 i0 (.agg (fv fld0)) 4 48 Tryz.underlying35 hi hh.1 hh.2.1 hh.2.2 rfl (by decide) _ 0 (fcs []) hown ad m.length yc (fcs m) (by rw [fcs_len]) (fun j u hj => by
      have hl := (List.getElem?_eq_some_iff.1 hj).1
      rw [fcs_len] at hl
      obtain ⟨b, off, e, _, hc⟩ := h4 (by omega)
      cases e
      exact fcs_at hc j u hj) (fcs_one m) (by unfold maxLen; omega) (by omega) hbase
    unfold Oper.wp
    simp [execOp, ho, resolve, invoke, builtin, hs, hx, hrun, Result.andThen]
    refine hK v' w' (by unfold FOwn; have e : (fcs [] ++ fcs m) = fcs m := rfl; rw [e, Nat.zero_add] at r1; exact r1) ((Below.refl _ _).grown r2 hbase ?_) ?_
    · intro k hk
      simp only [Value.ownBlock, Option.some.injEq] at hk; omega
    · intro q f hq
      refine hq.same (r2.block q hq.lt ?_)
      simp only [Value.ownBlock]
      intro e
      cases e
      obtain ⟨_, h2⟩ := hgg
      rcases h2 with ⟨e, _⟩ | ⟨g', cap', cur, e, hb, hg', hn, hm, hs', ht⟩
      · cases e
      · cases e
        unfold FBox at hq
        rw [hq] at hg'
        cases hg'
        simp at hs'

theorem push2_last (h : Array Obj) (x y : Obj) (n : Nat) (hn : n = h.size + 1) : ((h.push x).push y)[n]? = some y := by
  subst hn
  rw [show h.size + 1 = (h.push x).size by simp, Array.getElem?_push_size]
theorem push2_first (h : Array Obj) (x y : Obj) : ((h.push x).push y)[h.size]? = some x := by
  simp [Array.getElem?_push]


set_option maxHeartbeats 8000000 in
theorem rSet_none (a : Option Addr) (c : Nat) (fs : List Fld) (f : Fld) (w : World) (hv : FdN w a c fs) (hlen : (fs.length + 1) * 48 ≤ 140737488355328) (hh : hasF fs f.name = false) :
    Calls Tryz.prog 57 #[.slice a fs.length c, .agg (fv f)] w fun e w' => ∃ v, e = .returned v ∧ FOwn w' w.heap.size v (setF fs f) ∧ Below w.heap.size w w' := by
  have HHas := hide hh
  obtain ⟨fn, ft, fi, fss⟩ := f
  simp only at hh HHas
  have hcl := fdn_len hv
  have HPl : Hid (∀ W, Below w.heap.size w W → Calls Tryz.prog 99 #[.slice a fs.length c, sv fn] W fun e w' => e = .returned (.int .i64 (findA fs fn)) ∧ W = w') := hide (fun W hW => rfind_any a fs.length c fs fn W (hv.1.below hW (Nat.le_refl _)))
  rw [show findA fs fn = -1 by unfold findA; rw [hh]; rfl] at HPl
  have HSetG : Hid (∀ k, atF fs fn = k → setF fs ⟨fn, ft, fi, fss⟩ = fs.take k ++ [⟨fn, ft, fi, fss⟩] ++ fs.drop k) := hide (fun k hk => by unfold setF behF; simp only [hh, hk]; simp)
  have hb1 : Below w.heap.size w (w.alloc (.cells (fv ⟨fn, ft, fi, fss⟩) 37)) := (Below.refl _ _).alloc (Nat.le_refl _) _
  have hf1 := FBox.new w ⟨fn, ft, fi, fss⟩
  obtain ⟨w1, hw1⟩ : ∃ w1, w1 = w.alloc (.cells (fv ⟨fn, ft, fi, fss⟩) 37) := ⟨_, rfl⟩
  have HW1 := hide hw1
  rw [← hw1] at hb1 hf1
  have HBW := hide hb1
  have HBox1 := hide hf1
  have HV := hide hv
  obtain ⟨x0, x1, x2, x3, xf⟩ := hf1.cells
  simp only at x0 x1 x2 x3
  obtain ⟨N, hN⟩ : ∃ N, N = fs.length := ⟨_, rfl⟩
  have HN := hide hN
  clear hv hh hw1 hb1 hf1
  go_enter Tryz.func57, Tryz.ntmps57
  go_upto_region 1 with fail
  rw [← unhide HW1]
  obtain ⟨B, hB⟩ : ∃ B, B = w.heap.size := ⟨_, rfl⟩
  rw [← hB] at x0 x1 x2 x3 xf HBox1 ⊢
  clear hB HW1
  rw [← hN] at HPl hcl ⊢
  clear hN
  go_wp2_with (go_at_call 99; refine (unhide HPl _ (unhide HBW)).mono ?_; rintro e w2 ⟨rfl, rfl⟩)
  clear x0 x1 x2 x3 xf
  go_loopw [7] (fun i wr => ∃ (k : Nat), k ≤ N ∧ i = .int .i64 k ∧ Hid (∀ f ∈ fs.take k, ¬ fn < f.name) ∧ Hid (∃ nq, wr = w1.drewN nq)) (fun i _ => N - (intOf i).toNat)
  case atStart => exact ⟨0, by omega, rfl, hide (fun f hf => by simp at hf), hide ⟨0, rfl⟩⟩
  case round =>
    obtain ⟨k, hk, rfl, HNo, HW⟩ := hrel
    have HBr0 : Hid (∀ m, Below w.heap.size w (wr.drewN m)) := hide (fun m => by obtain ⟨nq, e⟩ := unhide HW; rw [e]; exact below_drewN (below_drewN (unhide HBW) nq) m)
    have HBoxr : Hid (∀ m, FBox (wr.drewN m) B ⟨fn, ft, fi, fss⟩) := hide (fun m => by obtain ⟨nq, e⟩ := unhide HW; rw [e]; exact (unhide HBox1).below (below_drewN (below_drewN (Below.refl _ _) nq) m) (Nat.le_refl _))
    have HVr : Hid (∀ m, FdN (wr.drewN m) a c fs) := hide (fun m => (unhide HV).below (unhide HBr0 m) (Nat.le_refl _))
    have HWm : Hid (∀ m, ∃ nq, wr.drewN m = w1.drewN nq) := hide (fun m => by obtain ⟨nq, e⟩ := unhide HW; exact ⟨nq + m, by rw [e]; exact World.drewN_drewN _ _ _⟩)
    have z0 : ∀ m, (wr.drewN m).cell? ⟨B, 0, none⟩ = some (sv fn) := fun m => (unhide HBoxr m).cells.1
    by_cases hlt : k < N
    · have hkl : k < fs.length := by have := unhide HN; omega
      obtain ⟨b, off, rfl⟩ := (unhide HV).2 (by omega)
      obtain ⟨⟨gn, gt, gi, gs⟩, hg⟩ : ∃ g, fs[k]? = some g := ⟨_, List.getElem?_eq_getElem hkl⟩
      have r0 : ∀ m, (wr.drewN m).cell? ⟨b, off + k * 4, none⟩ = some (sv gn) := fun m => by
        obtain ⟨a', c', e, _, _, hcells⟩ := fdl_cells (unhide HVr m).1
        cases e
        obtain ⟨b', off', e, _, q0, _⟩ := hcells k _ hg
        cases e
        exact q0
      have hlt1 : decide ((k : Int) < (N : Int)) = true := decide_eq_true (by omega)
      have hlt2 : decide (k < N) = true := decide_eq_true hlt
      by_cases hle : gn ≤ fn
      · have hq : (Op.bytesLess gn fn || gn == fn) = true := by rw [str_le]; exact decide_eq_true hle
        have HNo2 : Hid (∀ f ∈ fs.take (k + 1), ¬ fn < f.name) := hide (fun x hx => by
          rw [List.take_add_one, hg] at hx
          rcases List.mem_append.1 hx with hx | hx
          · exact unhide HNo x hx
          · simp at hx; rw [hx]; exact fun hl => (List.not_le.2 hl) hle)
        clear hg hle
        go_upto_region 7 with fail
        go_quiet (fail)
        go_wp2
        go_roundw
        case rel => exact ⟨k + 1, by omega, by go_num, HNo2, hide (unhide HWm _)⟩
        case measure => simp [intOf]; omega
      · have hq : (Op.bytesLess gn fn || gn == fn) = false := by rw [str_le]; exact decide_eq_false hle
        have hat : atF fs fn = k := at_none (unhide HHas) (by omega) (unhide HNo) (fun x hx => by rw [hg] at hx; cases hx; exact List.not_le.1 hle)
        have HSet := hide (unhide HSetG k hat)
        clear hg hle hat
        go_upto_region 7 with fail
        go_quiet (fail)
        go_upto_region 9 with fail
        have HBq := hide (unhide HBr0 nq)
        have HBoxq := hide (unhide HBoxr nq)
        have HVq := hide (unhide HVr nq)
        have HTl : Hid ((fs.take k).length = k) := hide (by simp; omega)
        have HDl : Hid ((fs.drop k).length = N - k) := hide (by simp; have := unhide HN; omega)
        obtain ⟨x0, x1, x2, x3, xf⟩ := (unhide HBoxq).cells
        simp only at x0 x1 x2 x3
        have i1 : (0 : Int) ≤ (k : Int) := by omega
        have i2 : (k : Int) ≤ (c : Int) := by omega
        have i3 : (k : Int) ≤ (N : Int) := by omega
        have i5 : (N : Int) ≤ (c : Int) := by omega
        have hck : ¬ c = k := by omega
        have HDr : Hid (∀ W, Below w.heap.size w W → FdN W (some ⟨b, off + k * 4, none⟩) (c - k) (fs.drop k)) := hide (fun W hW => ((unhide HV).below hW (Nat.le_refl _)).drop k (by have := unhide HN; omega))
        obtain ⟨W0, hW0⟩ : ∃ W0, W0 = wr.drewN nq := ⟨_, rfl⟩
        rw [← hW0] at HBq HBoxq HVq x0 x1 x2 x3 xf ⊢
        have hB0 : B < W0.heap.size := (unhide HBoxq).lt
        have hB1 : ¬ B = W0.heap.size := by omega
        clear hW0 HBr0 HBoxr HVr HWm z0 r0 hq hlt1 hlt2
        go_region_law (first | (refine step_append_first rfl (.tmp 38) (.tmp 41) rfl w.heap.size _ rfl ?hgb ?own (some ⟨b, off, none⟩) k c (fs.take k) (unhide HTl).symm rfl ?fd ?hl ?hb ?_; (case hgb => have := (unhide HBq).size; omega); (case own => first | exact heap_alloc_new _ _ | exact push2_first _ _ _ | exact push2_last _ _ _ _ rfl); (case fd => exact ((unhide HVq).take k (by have := unhide HN; omega)).below (B := W0.heap.size) (by (repeat (first | exact (Below.refl _ _) | refine Below.drew ?_ | refine Below.alloc ?_ (by first | omega | (simp; omega) | simp) _))) (Nat.le_refl _)); (case hl => rw [unhide HTl]; have := unhide HN; omega); (case hb => have := (unhide HBq).size; first | omega | (simp; omega)); intro v4 w4 own4 b4 fb4; have HO4 := hide own4; have HB4 : Hid (Below w.heap.size w w4) := hide (Below.trans (by have hsq := (unhide HBq).size; (repeat (first | exact (unhide HBq) | refine Below.drew ?_ | refine Below.alloc ?_ (by first | omega | (simp; omega) | simp) _))) b4); have HF4 := hide fb4; (have y4 := (fb4 B ⟨fn, ft, fi, fss⟩ ((unhide HBoxq).below (B := W0.heap.size) (by (repeat (first | exact (Below.refl _ _) | refine Below.drew ?_ | refine Below.alloc ?_ (by first | omega | (simp; omega) | simp) _))) (Nat.le_refl _))).cells); clear own4 b4 fb4; obtain ⟨y0, y1, y2, y3, y4⟩ := y4; simp only at y0 y1 y2 y3) | (refine step_append_flds rfl (.tmp 42) (.tmp 44) rfl w.heap.size _ (fs.take k) rfl ?own2 _ 1 1 [⟨fn, ft, fi, fss⟩] rfl rfl ?fd2 ?hl2 ?hb2 ?_; (case own2 => first | exact unhide HO4 | exact (unhide HO4).below ((Below.refl _ _).alloc (Nat.le_refl _) _) (Nat.le_refl _)); (case fd2 => refine FBox.fdn ?_; first | exact FBox.new _ ⟨fn, ft, fi, fss⟩ | exact unhide HF4 _ ⟨fn, ft, fi, fss⟩ (push2_last _ _ _ _ rfl) | exact unhide HF4 _ ⟨fn, ft, fi, fss⟩ (push2_first _ _ _)); (case hl2 => rw [unhide HTl]; simp only [List.length_singleton]; have := unhide HN; omega); (case hb2 => first | exact (unhide HB4).size | (have := (unhide HB4).size; simp; omega)); intro v5 w5 own5 b5; have HO5 := hide own5; have HB5 : Hid (Below w.heap.size w w5) := hide (Below.trans (by first | exact unhide HB4 | exact (unhide HB4).alloc ((unhide HB4).size) _) b5); clear own5 b5) | (refine step_append_flds rfl (.tmp 45) (.tmp 48) rfl w.heap.size _ _ rfl (unhide HO5) (some ⟨b, off + k * 4, none⟩) (N - k) (c - k) (fs.drop k) (unhide HDl).symm rfl ?fd3 ?hl3 ?hb3 ?_; (case fd3 => exact unhide HDr _ (unhide HB5)); (case hl3 => simp only [List.length_append, unhide HTl, unhide HDl, List.length_singleton]; have := unhide HN; omega); (case hb3 => exact (unhide HB5).size); intro v6 w6 own6 b6; have HO6 := hide own6; have HB6 := hide ((unhide HB5).trans b6); clear own6 b6))
        all_goals
          go_wp2
          go_ret
          exact ⟨_, rfl, by rw [unhide HSet]; exact unhide HO6, unhide HB6⟩
    · obtain rfl : k = N := by omega
      have hlt1 : decide ((k : Int) < (k : Int)) = false := decide_eq_false (by omega)
      have hlt2 : decide (k < k) = false := decide_eq_false (by omega)
      have hat : atF fs fn = k := at_none (unhide HHas) (by have := unhide HN; omega) (unhide HNo) (fun x hx => by rw [List.getElem?_eq_none (by have := unhide HN; omega)] at hx; cases hx)
      have HSet := hide (unhide HSetG k hat)
      have HE : Hid (fs.drop k = []) := hide (List.drop_of_length_le (by have := unhide HN; omega))
      clear hat
      by_cases hck : k = c
      · subst hck
        cases a with
        | none =>
          obtain rfl : k = 0 := by
            by_cases hz : k = 0
            · exact hz
            · obtain ⟨_, _, e⟩ := (unhide HV).2 hz; cases e
          go_upto_region 7 with fail
          go_quiet (fail)
          go_upto_region 9 with fail
          have HBq := hide (unhide HBr0 nq)
          have HBoxq := hide (unhide HBoxr nq)
          have HVq := hide (unhide HVr nq)
          have HTl : Hid ((fs.take 0).length = 0) := hide (by simp <;> omega)
          have HDl : Hid ((fs.drop 0).length = 0) := hide (by rw [unhide HE]; rfl)
          obtain ⟨x0, x1, x2, x3, xf⟩ := (unhide HBoxq).cells
          simp only at x0 x1 x2 x3
          have HDr : Hid (∀ W, Below w.heap.size w W → FdN W none 0 (fs.drop 0)) := hide (fun W hW => by rw [unhide HE]; exact FdN.empty (fun h => absurd rfl h) (by omega))
          obtain ⟨W0, hW0⟩ : ∃ W0, W0 = wr.drewN nq := ⟨_, rfl⟩
          rw [← hW0] at HBq HBoxq HVq x0 x1 x2 x3 xf ⊢
          have hB0 : B < W0.heap.size := (unhide HBoxq).lt
          have hB1 : ¬ B = W0.heap.size := by omega
          clear hW0 HBr0 HBoxr HVr HWm z0 hlt1 hlt2
          go_region_law (first | (refine step_append_first rfl (.tmp 38) (.tmp 41) rfl w.heap.size _ rfl ?hgb ?own none 0 0 (fs.take 0) (unhide HTl).symm rfl ?fd ?hl ?hb ?_; (case hgb => have := (unhide HBq).size; omega); (case own => first | exact heap_alloc_new _ _ | exact push2_first _ _ _ | exact push2_last _ _ _ _ rfl); (case fd => exact ((unhide HVq).take 0 (by have := unhide HN; omega)).below (B := W0.heap.size) (by (repeat (first | exact (Below.refl _ _) | refine Below.drew ?_ | refine Below.alloc ?_ (by first | omega | (simp; omega) | simp) _))) (Nat.le_refl _)); (case hl => rw [unhide HTl]; have := unhide HN; omega); (case hb => have := (unhide HBq).size; first | omega | (simp; omega)); intro v4 w4 own4 b4 fb4; have HO4 := hide own4; have HB4 : Hid (Below w.heap.size w w4) := hide (Below.trans (by have hsq := (unhide HBq).size; (repeat (first | exact (unhide HBq) | refine Below.drew ?_ | refine Below.alloc ?_ (by first | omega | (simp; omega) | simp) _))) b4); have HF4 := hide fb4; (have y4 := (fb4 B ⟨fn, ft, fi, fss⟩ ((unhide HBoxq).below (B := W0.heap.size) (by (repeat (first | exact (Below.refl _ _) | refine Below.drew ?_ | refine Below.alloc ?_ (by first | omega | (simp; omega) | simp) _))) (Nat.le_refl _))).cells); clear own4 b4 fb4; obtain ⟨y0, y1, y2, y3, y4⟩ := y4; simp only at y0 y1 y2 y3) | (refine step_append_flds rfl (.tmp 42) (.tmp 44) rfl w.heap.size _ (fs.take 0) rfl ?own2 _ 1 1 [⟨fn, ft, fi, fss⟩] rfl rfl ?fd2 ?hl2 ?hb2 ?_; (case own2 => first | exact unhide HO4 | exact (unhide HO4).below ((Below.refl _ _).alloc (Nat.le_refl _) _) (Nat.le_refl _)); (case fd2 => refine FBox.fdn ?_; first | exact FBox.new _ ⟨fn, ft, fi, fss⟩ | exact unhide HF4 _ ⟨fn, ft, fi, fss⟩ (push2_last _ _ _ _ rfl) | exact unhide HF4 _ ⟨fn, ft, fi, fss⟩ (push2_first _ _ _)); (case hl2 => rw [unhide HTl]; simp only [List.length_singleton]; have := unhide HN; omega); (case hb2 => first | exact (unhide HB4).size | (have := (unhide HB4).size; simp; omega)); intro v5 w5 own5 b5; have HO5 := hide own5; have HB5 : Hid (Below w.heap.size w w5) := hide (Below.trans (by first | exact unhide HB4 | exact (unhide HB4).alloc ((unhide HB4).size) _) b5); clear own5 b5) | (refine step_append_flds rfl (.tmp 45) (.tmp 48) rfl w.heap.size _ _ rfl (unhide HO5) none 0 0 (fs.drop 0) (unhide HDl).symm rfl ?fd3 ?hl3 ?hb3 ?_; (case fd3 => exact unhide HDr _ (unhide HB5)); (case hl3 => simp only [List.length_append, unhide HTl, unhide HDl, List.length_singleton]; have := unhide HN; omega); (case hb3 => exact (unhide HB5).size); intro v6 w6 own6 b6; have HO6 := hide own6; have HB6 := hide ((unhide HB5).trans b6); clear own6 b6))
          all_goals
            go_wp2
            go_ret
            exact ⟨_, rfl, by rw [unhide HSet]; exact unhide HO6, unhide HB6⟩
        | some x =>
          have HTl0 : Hid ((fs.take k).length = k) := hide (by have := unhide HN; simp; omega)
          have i1 : (0 : Int) ≤ (k : Int) := by omega
          go_upto_region 7 with fail
          go_quiet (fail)
          go_upto_region 9 with fail
          have HBq := hide (unhide HBr0 nq)
          have HBoxq := hide (unhide HBoxr nq)
          have HVq := hide (unhide HVr nq)
          have HTl : Hid ((fs.take k).length = k) := HTl0
          have HDl : Hid ((fs.drop k).length = 0) := hide (by rw [unhide HE]; rfl)
          obtain ⟨x0, x1, x2, x3, xf⟩ := (unhide HBoxq).cells
          simp only at x0 x1 x2 x3
          have HDr : Hid (∀ W, Below w.heap.size w W → FdN W (some x) 0 (fs.drop k)) := hide (fun W hW => by rw [unhide HE]; exact FdN.empty (fun h => absurd rfl h) (by omega))
          obtain ⟨W0, hW0⟩ : ∃ W0, W0 = wr.drewN nq := ⟨_, rfl⟩
          rw [← hW0] at HBq HBoxq HVq x0 x1 x2 x3 xf ⊢
          have hB0 : B < W0.heap.size := (unhide HBoxq).lt
          have hB1 : ¬ B = W0.heap.size := by omega
          clear hW0 HBr0 HBoxr HVr HWm z0 hlt1 hlt2
          go_region_law (first | (refine step_append_first rfl (.tmp 38) (.tmp 41) rfl w.heap.size _ rfl ?hgb ?own (some x) k k (fs.take k) (unhide HTl).symm rfl ?fd ?hl ?hb ?_; (case hgb => have := (unhide HBq).size; omega); (case own => first | exact heap_alloc_new _ _ | exact push2_first _ _ _ | exact push2_last _ _ _ _ rfl); (case fd => exact ((unhide HVq).take k (by have := unhide HN; omega)).below (B := W0.heap.size) (by (repeat (first | exact (Below.refl _ _) | refine Below.drew ?_ | refine Below.alloc ?_ (by first | omega | (simp; omega) | simp) _))) (Nat.le_refl _)); (case hl => rw [unhide HTl]; have := unhide HN; omega); (case hb => have := (unhide HBq).size; first | omega | (simp; omega)); intro v4 w4 own4 b4 fb4; have HO4 := hide own4; have HB4 : Hid (Below w.heap.size w w4) := hide (Below.trans (by have hsq := (unhide HBq).size; (repeat (first | exact (unhide HBq) | refine Below.drew ?_ | refine Below.alloc ?_ (by first | omega | (simp; omega) | simp) _))) b4); have HF4 := hide fb4; (have y4 := (fb4 B ⟨fn, ft, fi, fss⟩ ((unhide HBoxq).below (B := W0.heap.size) (by (repeat (first | exact (Below.refl _ _) | refine Below.drew ?_ | refine Below.alloc ?_ (by first | omega | (simp; omega) | simp) _))) (Nat.le_refl _))).cells); clear own4 b4 fb4; obtain ⟨y0, y1, y2, y3, y4⟩ := y4; simp only at y0 y1 y2 y3) | (refine step_append_flds rfl (.tmp 42) (.tmp 44) rfl w.heap.size _ (fs.take k) rfl ?own2 _ 1 1 [⟨fn, ft, fi, fss⟩] rfl rfl ?fd2 ?hl2 ?hb2 ?_; (case own2 => first | exact unhide HO4 | exact (unhide HO4).below ((Below.refl _ _).alloc (Nat.le_refl _) _) (Nat.le_refl _)); (case fd2 => refine FBox.fdn ?_; first | exact FBox.new _ ⟨fn, ft, fi, fss⟩ | exact unhide HF4 _ ⟨fn, ft, fi, fss⟩ (push2_last _ _ _ _ rfl) | exact unhide HF4 _ ⟨fn, ft, fi, fss⟩ (push2_first _ _ _)); (case hl2 => rw [unhide HTl]; simp only [List.length_singleton]; have := unhide HN; omega); (case hb2 => first | exact (unhide HB4).size | (have := (unhide HB4).size; simp; omega)); intro v5 w5 own5 b5; have HO5 := hide own5; have HB5 : Hid (Below w.heap.size w w5) := hide (Below.trans (by first | exact unhide HB4 | exact (unhide HB4).alloc ((unhide HB4).size) _) b5); clear own5 b5) | (refine step_append_flds rfl (.tmp 45) (.tmp 48) rfl w.heap.size _ _ rfl (unhide HO5) (some x) 0 0 (fs.drop k) (unhide HDl).symm rfl ?fd3 ?hl3 ?hb3 ?_; (case fd3 => exact unhide HDr _ (unhide HB5)); (case hl3 => simp only [List.length_append, unhide HTl, unhide HDl, List.length_singleton]; have := unhide HN; omega); (case hb3 => exact (unhide HB5).size); intro v6 w6 own6 b6; have HO6 := hide own6; have HB6 := hide ((unhide HB5).trans b6); clear own6 b6))
          all_goals
            go_wp2
            go_ret
            exact ⟨_, rfl, by rw [unhide HSet]; exact unhide HO6, unhide HB6⟩
      · obtain ⟨b, off, rfl⟩ := (unhide HV).2 (by omega)
        have hck2 : ¬ c = k := fun e => hck e.symm
        have i1 : (0 : Int) ≤ (k : Int) := by omega
        have i2 : (k : Int) ≤ (c : Int) := by omega
        have HTl0 : Hid ((fs.take k).length = k) := hide (by have := unhide HN; simp; omega)
        go_upto_region 7 with fail
        go_quiet (fail)
        go_upto_region 9 with fail
        have HBq := hide (unhide HBr0 nq)
        have HBoxq := hide (unhide HBoxr nq)
        have HVq := hide (unhide HVr nq)
        have HTl : Hid ((fs.take k).length = k) := HTl0
        have HDl : Hid ((fs.drop k).length = 0) := hide (by rw [unhide HE]; rfl)
        obtain ⟨x0, x1, x2, x3, xf⟩ := (unhide HBoxq).cells
        simp only at x0 x1 x2 x3
        have HDr : Hid (∀ W, Below w.heap.size w W → FdN W (some ⟨b, off + k * 4, none⟩) (c - k) (fs.drop k)) := hide (fun W hW => by rw [unhide HE]; exact FdN.empty (fun _ => ⟨_, _, rfl⟩) (by omega))
        obtain ⟨W0, hW0⟩ : ∃ W0, W0 = wr.drewN nq := ⟨_, rfl⟩
        rw [← hW0] at HBq HBoxq HVq x0 x1 x2 x3 xf ⊢
        have hB0 : B < W0.heap.size := (unhide HBoxq).lt
        have hB1 : ¬ B = W0.heap.size := by omega
        clear hW0 HBr0 HBoxr HVr HWm z0 hlt1 hlt2
        go_region_law (first | (refine step_append_first rfl (.tmp 38) (.tmp 41) rfl w.heap.size _ rfl ?hgb ?own (some ⟨b, off, none⟩) k c (fs.take k) (unhide HTl).symm rfl ?fd ?hl ?hb ?_; (case hgb => have := (unhide HBq).size; omega); (case own => first | exact heap_alloc_new _ _ | exact push2_first _ _ _ | exact push2_last _ _ _ _ rfl); (case fd => exact ((unhide HVq).take k (by have := unhide HN; omega)).below (B := W0.heap.size) (by (repeat (first | exact (Below.refl _ _) | refine Below.drew ?_ | refine Below.alloc ?_ (by first | omega | (simp; omega) | simp) _))) (Nat.le_refl _)); (case hl => rw [unhide HTl]; have := unhide HN; omega); (case hb => have := (unhide HBq).size; first | omega | (simp; omega)); intro v4 w4 own4 b4 fb4; have HO4 := hide own4; have HB4 : Hid (Below w.heap.size w w4) := hide (Below.trans (by have hsq := (unhide HBq).size; (repeat (first | exact (unhide HBq) | refine Below.drew ?_ | refine Below.alloc ?_ (by first | omega | (simp; omega) | simp) _))) b4); have HF4 := hide fb4; (have y4 := (fb4 B ⟨fn, ft, fi, fss⟩ ((unhide HBoxq).below (B := W0.heap.size) (by (repeat (first | exact (Below.refl _ _) | refine Below.drew ?_ | refine Below.alloc ?_ (by first | omega | (simp; omega) | simp) _))) (Nat.le_refl _))).cells); clear own4 b4 fb4; obtain ⟨y0, y1, y2, y3, y4⟩ := y4; simp only at y0 y1 y2 y3) | (refine step_append_flds rfl (.tmp 42) (.tmp 44) rfl w.heap.size _ (fs.take k) rfl ?own2 _ 1 1 [⟨fn, ft, fi, fss⟩] rfl rfl ?fd2 ?hl2 ?hb2 ?_; (case own2 => first | exact unhide HO4 | exact (unhide HO4).below ((Below.refl _ _).alloc (Nat.le_refl _) _) (Nat.le_refl _)); (case fd2 => refine FBox.fdn ?_; first | exact FBox.new _ ⟨fn, ft, fi, fss⟩ | exact unhide HF4 _ ⟨fn, ft, fi, fss⟩ (push2_last _ _ _ _ rfl) | exact unhide HF4 _ ⟨fn, ft, fi, fss⟩ (push2_first _ _ _)); (case hl2 => rw [unhide HTl]; simp only [List.length_singleton]; have := unhide HN; omega); (case hb2 => first | exact (unhide HB4).size | (have := (unhide HB4).size; simp; omega)); intro v5 w5 own5 b5; have HO5 := hide own5; have HB5 : Hid (Below w.heap.size w w5) := hide (Below.trans (by first | exact unhide HB4 | exact (unhide HB4).alloc ((unhide HB4).size) _) b5); clear own5 b5) | (refine step_append_flds rfl (.tmp 45) (.tmp 48) rfl w.heap.size _ _ rfl (unhide HO5) (some ⟨b, off + k * 4, none⟩) 0 (c - k) (fs.drop k) (unhide HDl).symm rfl ?fd3 ?hl3 ?hb3 ?_; (case fd3 => exact unhide HDr _ (unhide HB5)); (case hl3 => simp only [List.length_append, unhide HTl, unhide HDl, List.length_singleton]; have := unhide HN; omega); (case hb3 => exact (unhide HB5).size); intro v6 w6 own6 b6; have HO6 := hide own6; have HB6 := hide ((unhide HB5).trans b6); clear own6 b6))
        all_goals
          go_wp2
          go_ret
          exact ⟨_, rfl, by rw [unhide HSet]; exact unhide HO6, unhide HB6⟩
end Go.Proofs.YtclllkbljaomoaaGreatDoor

namespace Go.Proofs.YtclllkbljaomoaaGreatDoor
open Go.RowKit

theorem rSet_any (a : Option Addr) (c : Nat) (fs : List Fld) (f : Fld) (w : World) (hv : FdN w a c fs) (hlen : (fs.length + 1) * 48 ≤ 140737488355328) :
    Calls Tryz.prog 57 #[.slice a fs.length c, .agg (fv f)] w fun e w' => ∃ v, e = .returned v ∧ FOwn w' w.heap.size v (setF fs f) ∧ Below w.heap.size w w' := by
  cases hh : hasF fs f.name with
  | false => exact rSet_none a c fs f w hv hlen hh
  | true => exact rSet_has a c fs f w hv hlen hh
end Go.Proofs.YtclllkbljaomoaaGreatDoor
