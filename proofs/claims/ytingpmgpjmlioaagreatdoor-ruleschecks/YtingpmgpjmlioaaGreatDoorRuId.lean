/-
  DERIVED. The iterators of a table: what makes them, and what they go through: emits, conditions.
-/
import Derived.Test.YtingpmgpjmlioaaGreatDoorRuIa
namespace Go.Proofs.YtingpmgpjmlioaaGreatDoor
open Go.RowKit Go.Shelf
set_option linter.unusedVariables false
attribute [local go_sem] Oper.semAt_some

theorem flat_pre2 {β γ : Type} {f : β → List γ} {l pre : List β} {x : β} {j : Nat} {y : γ} (hp : pre ++ [x] <+: l) (hj : (f x)[j]? = some y) : (pre.flatMap f ++ (f x).take j) ++ [y] <+: l.flatMap f := by
  obtain ⟨r, rfl⟩ := hp
  refine ⟨(f x).drop (j + 1) ++ r.flatMap f, ?_⟩
  have e2 := list_split hj
  rw [List.flatMap_append, List.flatMap_append, List.flatMap_singleton]
  conv => rhs; lhs; rhs; rw [e2]
  simp

set_option maxHeartbeats 4000000 in
set_option maxRecDepth 100000 in
theorem emits_goes (q : Nat) (ha : Option Addr) (hc : Nat) (hs : List HaV) (va : Option Addr) (vc : Nat) (vs : List EvV) (w : World) (hq : w.heap[q]? = some (.cells (rulV ha hs.length hc va vs.length vc) 25)) (ht : TabR w ha hc hs va vc vs) :
    Goes Tryz.prog 86 #[.pointer (some ⟨q, 0, none⟩)] EmV.v (emitsV hs) w := by
  intro n l J Jx W hW hJ hJx hY h0
  have hmf : ∀ (fn : Fn) (first cap : Array Value) (w : World), (Instr.makeFunc fn first cap).run Tryz.prog w = .ok (.func fn first cap) w := fun _ _ _ _ => rfl
  have hqW := rowKept hq hW (Nat.le_refl _)
  have hb1 : Below W.heap.size W (W.alloc (.cells #[.func (.yield l) #[] #[]] 136)) := (Below.refl _ _).alloc (Nat.le_refl _) _
  have hq1 := rowKept hqW hb1 (Nat.le_refl _)
  have r0 : (W.alloc (.cells #[.func (.yield l) #[] #[]] 136)).cell? ⟨q, 0, none⟩ = some (.slice ha hs.length hc) := (cell_of_row _ _ _ _ _ _ hq1).trans rfl
  have r1 : (W.alloc (.cells #[.func (.yield l) #[] #[]] 136)).cell? ⟨q, 1, none⟩ = some (.slice va vs.length vc) := (cell_of_row _ _ _ _ _ _ hq1).trans rfl
  have hy1 : (W.alloc (.cells #[.func (.yield l) #[] #[]] 136)).heap[W.heap.size]? = some (.cells #[.func (.yield l) #[] #[]] 136) := heap_alloc_new _ _
  have ht1 := (ht.grown hW).grown hb1
  obtain ⟨W1, hW1⟩ : ∃ W1, W1 = W.alloc (.cells #[.func (.yield l) #[] #[]] 136) := ⟨_, rfl⟩
  rw [← hW1] at hb1 hq1 hy1 ht1
  have hb2 : Below W1.heap.size W1 (W1.alloc (.cells (rulV ha hs.length hc va vs.length vc) 25)) := (Below.refl _ _).alloc (Nat.le_refl _) _
  have hq2 : (W1.alloc (.cells (rulV ha hs.length hc va vs.length vc) 25)).heap[W1.heap.size]? = some (.cells (rulV ha hs.length hc va vs.length vc) 25) := heap_alloc_new _ _
  have ht2 := ht1.grown hb2
  have hy2 := rowKept hy1 hb2 (Nat.le_refl _)
  have hb12 := hb1.trans (hb2.mono hb1.size)
  obtain ⟨W2, hW2⟩ : ∃ W2, W2 = W1.alloc (.cells (rulV ha hs.length hc va vs.length vc) 25) := ⟨_, rfl⟩
  rw [← hW2] at hb2 hq2 ht2 hy2 hb12
  have HW2 : Hid (W2 = (W.alloc (.cells #[.func (.yield l) #[] #[]] 136)).alloc (.cells (rulV ha hs.length hc va vs.length vc) 25)) := hide (by rw [hW2, hW1])
  have hs1 : W1.heap.size = W.heap.size + 1 := by rw [hW1]; simp
  rw [hs1] at hq2
  have HY := hide hY
  have HJ := hide hJ
  have HJx := hide hJx
  have HT2 := hide ht2
  have HY2 : Hid (∀ X, Below W2.heap.size W2 X → X.cell? ⟨W.heap.size, 0, none⟩ = some (.func (.yield l) #[] #[])) := hide (fun X hX => kept hX ((cell_of_row _ _ _ _ _ _ hy2).trans rfl))
  have HB12 := hide hb12
  have HG := hide (cases_goes (W.heap.size + 1) ha hc hs va vs.length vc W2 hq2 ht2.hand)
  have HJ0 := hide (hJ _ _ _ h0 hb12)
  clear hW hq ht hY hJ hJx h0 hqW hq1 hy1 ht1 hb1 hb2 hb12 hq2 ht2 hy2 hW2 hs1
  clear hW1 W1
  refine callsIn_of_wp_marks Tryz.func86 rfl trivial ?_ rfl
  simp only [Tryz.ntmps86, List.size_toArray, List.length_cons, List.length_nil, Nat.reduceAdd, Nat.reduceSub, Array.replicate_succ, Array.replicate_zero, List.push_toArray, List.append_toArray, List.nil_append, List.cons_append]
  gi_wp2_with fail
  refine ⟨trivial, (fun h => by cases h), (callsIn_wide.2 (cases_any _ _ _ _ _ _ _)).mono ?_⟩
  rintro e w' ⟨rfl, rfl⟩
  clear r0 r1
  gi_wp2
  rw [show (W.alloc (.cells #[.func (.yield l) #[] #[]] 136)).alloc (.cells #[.slice ha hs.length hc, .slice va vs.length vc] 25) = W2 from (unhide HW2).symm]
  refine range_box (gf := 85) (lb := #[.pointer (some ⟨W.heap.size + 1, 0, none⟩)]) rfl (enters_of Tryz.func85 (by kernel_rfl) rfl) (unhide HG) (Below.refl _ _)
    (fun (pre : List CsV) X => J (pre.flatMap (fun y : CsV => y.emits)) X ∧ Below W2.heap.size W2 X)
    (fun c pre X => c = .ret ∧ ∃ pre', pre' <+: emitsV hs ∧ Jx pre' X)
    (fun s X Y h hb => ⟨unhide HJ _ X Y h.1 (hb.mono (unhide HB12).size), h.2.trans hb⟩)
    (fun c s X Y h hb => by obtain ⟨h1, p', h2, h3⟩ := h; exact ⟨h1, p', h2, unhide HJx _ _ _ h3 (hb.mono (unhide HB12).size)⟩)
    ⟨unhide HJ0, Below.refl _ _⟩ 66 3 ?assign ?body ?done ?stop
  case assign =>
    intro l' x X K hK
    simp only [rdAct, List.setIfInBounds_toArray, List.set_cons_zero, List.set_cons_succ, CsV.v] at hK ⊢
    gi_wp2
    exact hK
  case body =>
    rintro l' pre x Bx X ⟨hj, hbX⟩ hbx hpre
    have hmem : x ∈ casesV hs := hpre.subset (by simp)
    have hok := ((unhide HT2).cs hmem).grown hbX
    obtain ⟨x0, x1, x2, -⟩ := cells3 hbx
    obtain ⟨-, hm1, hm2⟩ := SlOf.len hok.2
    have HL := hide hok.2
    have HBX := hide hbX
    have HJX := hide hj
    have HPre := hide hpre
    obtain ⟨M, hM⟩ : ∃ M, M = x.emits.length := ⟨_, rfl⟩
    have HM := hide hM
    simp only [rdAct, List.setIfInBounds_toArray, List.set_cons_zero, List.set_cons_succ, CsV.v] at x0 x1 x2 ⊢
    rw [← hM] at hm1 HL x2 ⊢
    clear hok hj hbX hbx hpre hmem hM
    gi_wp2
    gi_loopw [5, 12] (fun _ i wz => ∃ (j : Nat), i = .int .i64 j ∧ j ≤ M ∧ Hid (J (pre.flatMap (fun y : CsV => y.emits) ++ x.emits.take j) wz) ∧ Hid (Below X.heap.size X wz)) (fun _ i _ => M - (intOf i).toNat)
    case atStart => exact ⟨0, rfl, by omega, hide (by simpa using unhide HJX), hide (Below.refl _ _)⟩
    case round =>
      obtain ⟨j, rfl, hj, HJz, HBz⟩ := hrel
      clear HJX
      by_cases hjlt : j < M
      · have hjlt' : (j : Int) < (M : Int) := by omega
        obtain ⟨y, hyj⟩ : ∃ u, x.emits[j]? = some u := ⟨_, List.getElem?_eq_getElem (by have := unhide HM; omega)⟩
        obtain ⟨b2, off2, hma2, -, c0, c1, -⟩ := ((unhide HL).grown (fun _ _ _ _ _ => EmR.grown) (unhide HBz)).at hyj
        skip
        rw [hma2]
        have hb6 : Below wr.heap.size wr (wr.alloc (.cells (EmV.v y) 94)) := (Below.refl _ _).alloc (Nat.le_refl _) _
        have hbx6 := (unhide HBz).trans (hb6.mono (unhide HBz).size)
        have hb26 := (unhide HBX).trans (hbx6.mono (unhide HBX).size)
        have yc := unhide HY2 _ hb26
        obtain ⟨fn, tmps, assign, body, hy, hR⟩ := unhide HY _ y _ (unhide HJ _ _ _ (unhide HJz) (hb6.mono (Nat.le_trans (unhide HB12).size (Nat.le_trans (unhide HBX).size (unhide HBz).size)))) (flat_pre2 (f := fun y : CsV => y.emits) (unhide HPre) hyj)
        dsimp only [EmV.v] at hy yc
        have HB6 := hide hbx6
        have HS := hide (take_succT hyj)
        have HP := hide (show pre.flatMap (fun y : CsV => y.emits) ++ x.emits.take j ++ [y] <+: emitsV hs from flat_pre2 (f := fun y : CsV => y.emits) (unhide HPre) hyj)
        clear hb6 hyj hbx6 hb26
        gi_wp2
        refine ⟨(fun h => by cases h), (round_any hR).mono ?_⟩
        rintro e W3 (⟨rfl, hJ3, hk3⟩ | ⟨rfl, hJx3, hup3⟩)
        · have HJ3 : Hid (J (pre.flatMap (fun y : CsV => y.emits) ++ x.emits.take (j + 1)) W3) := hide (by rw [unhide HS, ← List.append_assoc]; exact hJ3)
          have HB3 := hide ((unhide HB6).trans (hk3.mono (unhide HB6).size))
          clear hJ3 hk3 hR hy yc
          gi_wp2
          go_roundw
          case rel => exact ⟨j + 1, by congr 1, by omega, HJ3, HB3⟩
          case measure => simp [intOf]; omega
        · have HX3 := hide hJx3
          have HU := hide ((KeepUp.of_below (lo := W2.heap.size) (unhide HB6)).trans (hup3.mono (unhide HB12).size))
          clear hJx3 hup3 hR hy yc
          gi_wp2
          exact ⟨unhide HU, rfl, _, unhide HP, unhide HX3⟩
      · have hjlt' : ¬ (j : Int) < (M : Int) := by omega
        have HJn : Hid (J ((pre ++ [x]).flatMap (fun y : CsV => y.emits)) wr) := hide (by
          have e : x.emits.take j = x.emits := List.take_of_length_le (by have := unhide HM; omega)
          have := unhide HJz
          rw [e] at this
          simpa using this)
        gi_wp2
        exact ⟨unhide HBz, unhide HJn, (unhide HBX).trans ((unhide HBz).mono (unhide HBX).size)⟩
  case done =>
    rintro D X hD ⟨hj, -⟩ hK
    gi_wp2
    refine ⟨by simp, .inl ⟨_, _, rfl, run_takeDeferred hK, ?_⟩⟩
    exact ⟨_, results_none rfl _ _ _, ⟨_, rfl⟩, .inl (unhide HJ _ _ _ hj (below_turn _ (Nat.le_trans (unhide HB12).size hD) hK))⟩
  case stop =>
    rintro D c pre X hD hpre ⟨rfl, pre', hp', hjx⟩ hK
    gi_wp2
    refine ⟨by simp, .inl ⟨_, _, rfl, run_takeDeferred hK, ?_⟩⟩
    exact ⟨_, results_none rfl _ _ _, ⟨_, rfl⟩, .inr ⟨pre', hp', unhide HJx _ _ _ hjx (below_turn _ (Nat.le_trans (unhide HB12).size hD) hK)⟩⟩

set_option maxHeartbeats 4000000 in
set_option maxRecDepth 100000 in
theorem conditions_goes (q : Nat) (ha : Option Addr) (hc : Nat) (hs : List HaV) (va : Option Addr) (vc : Nat) (vs : List EvV) (w : World) (hq : w.heap[q]? = some (.cells (rulV ha hs.length hc va vs.length vc) 25)) (ht : TabR w ha hc hs va vc vs) :
    Goes Tryz.prog 94 #[.pointer (some ⟨q, 0, none⟩)] CdV.v (condsV hs) w := by
  intro n l J Jx W hW hJ hJx hY h0
  have hmf : ∀ (fn : Fn) (first cap : Array Value) (w : World), (Instr.makeFunc fn first cap).run Tryz.prog w = .ok (.func fn first cap) w := fun _ _ _ _ => rfl
  have hqW := rowKept hq hW (Nat.le_refl _)
  have hb1 : Below W.heap.size W (W.alloc (.cells #[.func (.yield l) #[] #[]] 67)) := (Below.refl _ _).alloc (Nat.le_refl _) _
  have hq1 := rowKept hqW hb1 (Nat.le_refl _)
  have r0 : (W.alloc (.cells #[.func (.yield l) #[] #[]] 67)).cell? ⟨q, 0, none⟩ = some (.slice ha hs.length hc) := (cell_of_row _ _ _ _ _ _ hq1).trans rfl
  have r1 : (W.alloc (.cells #[.func (.yield l) #[] #[]] 67)).cell? ⟨q, 1, none⟩ = some (.slice va vs.length vc) := (cell_of_row _ _ _ _ _ _ hq1).trans rfl
  have hy1 : (W.alloc (.cells #[.func (.yield l) #[] #[]] 67)).heap[W.heap.size]? = some (.cells #[.func (.yield l) #[] #[]] 67) := heap_alloc_new _ _
  have ht1 := (ht.grown hW).grown hb1
  obtain ⟨W1, hW1⟩ : ∃ W1, W1 = W.alloc (.cells #[.func (.yield l) #[] #[]] 67) := ⟨_, rfl⟩
  rw [← hW1] at hb1 hq1 hy1 ht1
  have hb2 : Below W1.heap.size W1 (W1.alloc (.cells (rulV ha hs.length hc va vs.length vc) 25)) := (Below.refl _ _).alloc (Nat.le_refl _) _
  have hq2 : (W1.alloc (.cells (rulV ha hs.length hc va vs.length vc) 25)).heap[W1.heap.size]? = some (.cells (rulV ha hs.length hc va vs.length vc) 25) := heap_alloc_new _ _
  have ht2 := ht1.grown hb2
  have hy2 := rowKept hy1 hb2 (Nat.le_refl _)
  have hb12 := hb1.trans (hb2.mono hb1.size)
  obtain ⟨W2, hW2⟩ : ∃ W2, W2 = W1.alloc (.cells (rulV ha hs.length hc va vs.length vc) 25) := ⟨_, rfl⟩
  rw [← hW2] at hb2 hq2 ht2 hy2 hb12
  have HW2 : Hid (W2 = (W.alloc (.cells #[.func (.yield l) #[] #[]] 67)).alloc (.cells (rulV ha hs.length hc va vs.length vc) 25)) := hide (by rw [hW2, hW1])
  have hs1 : W1.heap.size = W.heap.size + 1 := by rw [hW1]; simp
  rw [hs1] at hq2
  have HY := hide hY
  have HJ := hide hJ
  have HJx := hide hJx
  have HT2 := hide ht2
  have HY2 : Hid (∀ X, Below W2.heap.size W2 X → X.cell? ⟨W.heap.size, 0, none⟩ = some (.func (.yield l) #[] #[])) := hide (fun X hX => kept hX ((cell_of_row _ _ _ _ _ _ hy2).trans rfl))
  have HB12 := hide hb12
  have HG := hide (cases_goes (W.heap.size + 1) ha hc hs va vs.length vc W2 hq2 ht2.hand)
  have HJ0 := hide (hJ _ _ _ h0 hb12)
  clear hW hq ht hY hJ hJx h0 hqW hq1 hy1 ht1 hb1 hb2 hb12 hq2 ht2 hy2 hW2 hs1
  clear hW1 W1
  refine callsIn_of_wp_marks Tryz.func94 rfl trivial ?_ rfl
  simp only [Tryz.ntmps94, List.size_toArray, List.length_cons, List.length_nil, Nat.reduceAdd, Nat.reduceSub, Array.replicate_succ, Array.replicate_zero, List.push_toArray, List.append_toArray, List.nil_append, List.cons_append]
  gi_wp2_with fail
  refine ⟨trivial, (fun h => by cases h), (callsIn_wide.2 (cases_any _ _ _ _ _ _ _)).mono ?_⟩
  rintro e w' ⟨rfl, rfl⟩
  clear r0 r1
  gi_wp2
  rw [show (W.alloc (.cells #[.func (.yield l) #[] #[]] 67)).alloc (.cells #[.slice ha hs.length hc, .slice va vs.length vc] 25) = W2 from (unhide HW2).symm]
  refine range_box (gf := 85) (lb := #[.pointer (some ⟨W.heap.size + 1, 0, none⟩)]) rfl (enters_of Tryz.func85 (by kernel_rfl) rfl) (unhide HG) (Below.refl _ _)
    (fun (pre : List CsV) X => J (pre.flatMap (fun y : CsV => y.whn)) X ∧ Below W2.heap.size W2 X)
    (fun c pre X => c = .ret ∧ ∃ pre', pre' <+: condsV hs ∧ Jx pre' X)
    (fun s X Y h hb => ⟨unhide HJ _ X Y h.1 (hb.mono (unhide HB12).size), h.2.trans hb⟩)
    (fun c s X Y h hb => by obtain ⟨h1, p', h2, h3⟩ := h; exact ⟨h1, p', h2, unhide HJx _ _ _ h3 (hb.mono (unhide HB12).size)⟩)
    ⟨unhide HJ0, Below.refl _ _⟩ 66 3 ?assign ?body ?done ?stop
  case assign =>
    intro l' x X K hK
    simp only [rdAct, List.setIfInBounds_toArray, List.set_cons_zero, List.set_cons_succ, CsV.v] at hK ⊢
    gi_wp2
    exact hK
  case body =>
    rintro l' pre x Bx X ⟨hj, hbX⟩ hbx hpre
    have hmem : x ∈ casesV hs := hpre.subset (by simp)
    have hok := ((unhide HT2).cs hmem).grown hbX
    obtain ⟨x0, x1, x2, -⟩ := cells3 hbx
    obtain ⟨-, hm1, hm2⟩ := SlOf.len hok.1
    have HL := hide hok.1
    have HBX := hide hbX
    have HJX := hide hj
    have HPre := hide hpre
    obtain ⟨M, hM⟩ : ∃ M, M = x.whn.length := ⟨_, rfl⟩
    have HM := hide hM
    simp only [rdAct, List.setIfInBounds_toArray, List.set_cons_zero, List.set_cons_succ, CsV.v] at x0 x1 x2 ⊢
    rw [← hM] at hm1 HL x0 ⊢
    clear hok hj hbX hbx hpre hmem hM
    gi_wp2
    gi_loopw [5, 12] (fun _ i wz => ∃ (j : Nat), i = .int .i64 j ∧ j ≤ M ∧ Hid (J (pre.flatMap (fun y : CsV => y.whn) ++ x.whn.take j) wz) ∧ Hid (Below X.heap.size X wz)) (fun _ i _ => M - (intOf i).toNat)
    case atStart => exact ⟨0, rfl, by omega, hide (by simpa using unhide HJX), hide (Below.refl _ _)⟩
    case round =>
      obtain ⟨j, rfl, hj, HJz, HBz⟩ := hrel
      clear HJX
      by_cases hjlt : j < M
      · have hjlt' : (j : Int) < (M : Int) := by omega
        obtain ⟨y, hyj⟩ : ∃ u, x.whn[j]? = some u := ⟨_, List.getElem?_eq_getElem (by have := unhide HM; omega)⟩
        obtain ⟨b2, off2, hma2, -, c0, c1, ⟨c2, c3, c4, c5, -⟩, c6, c7, c8, c9, -⟩ := ((unhide HL).grown (fun _ _ _ _ _ => CdR.grown) (unhide HBz)).at hyj
        replace c3 : wr.cell? ⟨b2, off2 + j * 10 + 3, none⟩ = _ := c3
        replace c4 : wr.cell? ⟨b2, off2 + j * 10 + 4, none⟩ = _ := c4
        replace c5 : wr.cell? ⟨b2, off2 + j * 10 + 5, none⟩ = _ := c5
        replace c7 : wr.cell? ⟨b2, off2 + j * 10 + 7, none⟩ = _ := c7
        replace c8 : wr.cell? ⟨b2, off2 + j * 10 + 8, none⟩ = _ := c8
        replace c9 : wr.cell? ⟨b2, off2 + j * 10 + 9, none⟩ = _ := c9
        rw [hma2]
        have hb6 : Below wr.heap.size wr (wr.alloc (.cells (CdV.v y) 46)) := (Below.refl _ _).alloc (Nat.le_refl _) _
        have hbx6 := (unhide HBz).trans (hb6.mono (unhide HBz).size)
        have hb26 := (unhide HBX).trans (hbx6.mono (unhide HBX).size)
        have yc := unhide HY2 _ hb26
        obtain ⟨fn, tmps, assign, body, hy, hR⟩ := unhide HY _ y _ (unhide HJ _ _ _ (unhide HJz) (hb6.mono (Nat.le_trans (unhide HB12).size (Nat.le_trans (unhide HBX).size (unhide HBz).size)))) (flat_pre2 (f := fun y : CsV => y.whn) (unhide HPre) hyj)
        dsimp only [CdV.v] at hy yc
        have HB6 := hide hbx6
        have HS := hide (take_succT hyj)
        have HP := hide (show pre.flatMap (fun y : CsV => y.whn) ++ x.whn.take j ++ [y] <+: condsV hs from flat_pre2 (f := fun y : CsV => y.whn) (unhide HPre) hyj)
        clear hb6 hyj hbx6 hb26
        gi_wp2
        refine ⟨(fun h => by cases h), (round_any hR).mono ?_⟩
        rintro e W3 (⟨rfl, hJ3, hk3⟩ | ⟨rfl, hJx3, hup3⟩)
        · have HJ3 : Hid (J (pre.flatMap (fun y : CsV => y.whn) ++ x.whn.take (j + 1)) W3) := hide (by rw [unhide HS, ← List.append_assoc]; exact hJ3)
          have HB3 := hide ((unhide HB6).trans (hk3.mono (unhide HB6).size))
          clear hJ3 hk3 hR hy yc
          gi_wp2
          go_roundw
          case rel => exact ⟨j + 1, by congr 1, by omega, HJ3, HB3⟩
          case measure => simp [intOf]; omega
        · have HX3 := hide hJx3
          have HU := hide ((KeepUp.of_below (lo := W2.heap.size) (unhide HB6)).trans (hup3.mono (unhide HB12).size))
          clear hJx3 hup3 hR hy yc
          gi_wp2
          exact ⟨unhide HU, rfl, _, unhide HP, unhide HX3⟩
      · have hjlt' : ¬ (j : Int) < (M : Int) := by omega
        have HJn : Hid (J ((pre ++ [x]).flatMap (fun y : CsV => y.whn)) wr) := hide (by
          have e : x.whn.take j = x.whn := List.take_of_length_le (by have := unhide HM; omega)
          have := unhide HJz
          rw [e] at this
          simpa using this)
        gi_wp2
        exact ⟨unhide HBz, unhide HJn, (unhide HBX).trans ((unhide HBz).mono (unhide HBX).size)⟩
  case done =>
    rintro D X hD ⟨hj, -⟩ hK
    gi_wp2
    refine ⟨by simp, .inl ⟨_, _, rfl, run_takeDeferred hK, ?_⟩⟩
    exact ⟨_, results_none rfl _ _ _, ⟨_, rfl⟩, .inl (unhide HJ _ _ _ hj (below_turn _ (Nat.le_trans (unhide HB12).size hD) hK))⟩
  case stop =>
    rintro D c pre X hD hpre ⟨rfl, pre', hp', hjx⟩ hK
    gi_wp2
    refine ⟨by simp, .inl ⟨_, _, rfl, run_takeDeferred hK, ?_⟩⟩
    exact ⟨_, results_none rfl _ _ _, ⟨_, rfl⟩, .inr ⟨pre', hp', unhide HJx _ _ _ hjx (below_turn _ (Nat.le_trans (unhide HB12).size hD) hK)⟩⟩
end Go.Proofs.YtingpmgpjmlioaaGreatDoor

namespace Go.Proofs.YtingpmgpjmlioaaGreatDoor
open Go.RowKit Go.Shelf
set_option linter.unusedVariables false
attribute [local go_sem] Oper.semAt_some


set_option maxHeartbeats 4000000 in
set_option maxRecDepth 100000 in
theorem sets_goes (q : Nat) (ha : Option Addr) (hc : Nat) (hs : List HaV) (va : Option Addr) (vc : Nat) (vs : List EvV) (w : World) (hq : w.heap[q]? = some (.cells (rulV ha hs.length hc va vs.length vc) 25)) (ht : TabR w ha hc hs va vc vs) :
    Goes Tryz.prog 114 #[.pointer (some ⟨q, 0, none⟩)] AsV.v (setsV hs vs) w := by
  intro n l J Jx W hW hJ hJx hY h0
  have hmf : ∀ (fn : Fn) (first cap : Array Value) (w : World), (Instr.makeFunc fn first cap).run Tryz.prog w = .ok (.func fn first cap) w := fun _ _ _ _ => rfl
  have hqW := rowKept hq hW (Nat.le_refl _)
  have hb1 : Below W.heap.size W (W.alloc (.cells #[.func (.yield l) #[] #[]] 115)) := (Below.refl _ _).alloc (Nat.le_refl _) _
  have hq1 := rowKept hqW hb1 (Nat.le_refl _)
  have r0 : (W.alloc (.cells #[.func (.yield l) #[] #[]] 115)).cell? ⟨q, 0, none⟩ = some (.slice ha hs.length hc) := (cell_of_row _ _ _ _ _ _ hq1).trans rfl
  have r1 : (W.alloc (.cells #[.func (.yield l) #[] #[]] 115)).cell? ⟨q, 1, none⟩ = some (.slice va vs.length vc) := (cell_of_row _ _ _ _ _ _ hq1).trans rfl
  have hy1 : (W.alloc (.cells #[.func (.yield l) #[] #[]] 115)).heap[W.heap.size]? = some (.cells #[.func (.yield l) #[] #[]] 115) := heap_alloc_new _ _
  have ht1 := (ht.grown hW).grown hb1
  obtain ⟨W1, hW1⟩ : ∃ W1, W1 = W.alloc (.cells #[.func (.yield l) #[] #[]] 115) := ⟨_, rfl⟩
  rw [← hW1] at hb1 hq1 hy1 ht1
  have hb2 : Below W1.heap.size W1 (W1.alloc (.cells (rulV ha hs.length hc va vs.length vc) 25)) := (Below.refl _ _).alloc (Nat.le_refl _) _
  have hq2 : (W1.alloc (.cells (rulV ha hs.length hc va vs.length vc) 25)).heap[W1.heap.size]? = some (.cells (rulV ha hs.length hc va vs.length vc) 25) := heap_alloc_new _ _
  have ht2 := ht1.grown hb2
  have hy2 := rowKept hy1 hb2 (Nat.le_refl _)
  have hb12 := hb1.trans (hb2.mono hb1.size)
  obtain ⟨W2, hW2⟩ : ∃ W2, W2 = W1.alloc (.cells (rulV ha hs.length hc va vs.length vc) 25) := ⟨_, rfl⟩
  rw [← hW2] at hb2 hq2 ht2 hy2 hb12
  have HW2 : Hid (W2 = (W.alloc (.cells #[.func (.yield l) #[] #[]] 115)).alloc (.cells (rulV ha hs.length hc va vs.length vc) 25)) := hide (by rw [hW2, hW1])
  have hs1 : W1.heap.size = W.heap.size + 1 := by rw [hW1]; simp
  rw [hs1] at hq2
  have HY := hide hY
  have HJ := hide hJ
  have HJx := hide hJx
  have HT2 := hide ht2
  have HQ2 : Hid (∀ X, Below W2.heap.size W2 X → X.cell? ⟨q, 1, none⟩ = some (.slice va vs.length vc)) := hide (fun X hX => kept hX ((cell_of_row _ _ _ _ _ _ (rowKept hq1 hb2 (Nat.le_refl _))).trans rfl))
  have HY2 : Hid (∀ X, Below W2.heap.size W2 X → X.cell? ⟨W.heap.size, 0, none⟩ = some (.func (.yield l) #[] #[])) := hide (fun X hX => kept hX ((cell_of_row _ _ _ _ _ _ hy2).trans rfl))
  have HB12 := hide hb12
  have HG := hide (emits_goes (W.heap.size + 1) ha hc hs va vc vs W2 hq2 ht2)
  have HJ0 := hide (hJ _ _ _ h0 hb12)
  clear hW hq ht hY hJ hJx h0 hqW hq1 hy1 ht1 hb1 hb2 hb12 hq2 ht2 hy2 hW2 hs1
  clear hW1 W1
  refine callsIn_of_wp_marks Tryz.func114 rfl trivial ?_ rfl
  simp only [Tryz.ntmps114, List.size_toArray, List.length_cons, List.length_nil, Nat.reduceAdd, Nat.reduceSub, Array.replicate_succ, Array.replicate_zero, List.push_toArray, List.append_toArray, List.nil_append, List.cons_append]
  gi_wp2_with fail
  refine ⟨trivial, (fun h => by cases h), (callsIn_wide.2 (emits_any _ _ _ _ _ _ _)).mono ?_⟩
  rintro e w' ⟨rfl, rfl⟩
  clear r0 r1
  gi_wp2
  rw [show (W.alloc (.cells #[.func (.yield l) #[] #[]] 115)).alloc (.cells #[.slice ha hs.length hc, .slice va vs.length vc] 25) = W2 from (unhide HW2).symm]
  refine range_box (gf := 86) (lb := #[.pointer (some ⟨W.heap.size + 1, 0, none⟩)]) rfl (enters_of Tryz.func86 (by kernel_rfl) rfl) (unhide HG) (Below.refl _ _)
    (fun (pre : List EmV) X => J (pre.flatMap (fun y : EmV => y.sets)) X ∧ Below W2.heap.size W2 X)
    (fun c pre X => c = .ret ∧ ∃ pre', pre' <+: setsV hs vs ∧ Jx pre' X)
    (fun s X Y h hb => ⟨unhide HJ _ X Y h.1 (hb.mono (unhide HB12).size), h.2.trans hb⟩)
    (fun c s X Y h hb => by obtain ⟨h1, p', h2, h3⟩ := h; exact ⟨h1, p', h2, unhide HJx _ _ _ h3 (hb.mono (unhide HB12).size)⟩)
    ⟨unhide HJ0, Below.refl _ _⟩ 94 3 ?assign ?body ?done ?stop
  case assign =>
    intro l' x X K hK
    simp only [rdAct, List.setIfInBounds_toArray, List.set_cons_zero, List.set_cons_succ, EmV.v] at hK ⊢
    gi_wp2
    exact hK
  case body =>
    rintro l' pre x Bx X ⟨hj, hbX⟩ hbx hpre
    have hmem : x ∈ emitsV hs := hpre.subset (by simp)
    have hok := ((unhide HT2).em hmem).grown hbX
    have x0 : X.cell? ⟨Bx, 0, none⟩ = some (sv x.type) := (cell_of_row _ _ _ _ _ _ hbx).trans rfl
    have x1 : X.cell? ⟨Bx, 1, none⟩ = some (.slice x.a x.sets.length x.c) := (cell_of_row _ _ _ _ _ _ hbx).trans rfl
    obtain ⟨-, hm1, hm2⟩ := SlOf.len (show SlOf 5 AsR X (.slice x.a x.sets.length x.c) x.sets from hok)
    have HL := hide (show SlOf 5 AsR X (.slice x.a x.sets.length x.c) x.sets from hok)
    have HBX := hide hbX
    have HJX := hide hj
    have HPre := hide hpre
    obtain ⟨M, hM⟩ : ∃ M, M = x.sets.length := ⟨_, rfl⟩
    have HM := hide hM
    simp only [rdAct, List.setIfInBounds_toArray, List.set_cons_zero, List.set_cons_succ, EmV.v] at x0 x1 ⊢
    rw [← hM] at hm1 HL x1
    try rw [← hM]
    clear hok hj hbX hbx hpre hmem hM
    gi_wp2
    gi_loopw [5, 16] (fun _ i wz => ∃ (j : Nat), i = .int .i64 j ∧ j ≤ M ∧ Hid (J (pre.flatMap (fun y : EmV => y.sets) ++ x.sets.take j) wz) ∧ Hid (Below X.heap.size X wz)) (fun _ i _ => M - (intOf i).toNat)
    case atStart => exact ⟨0, rfl, by omega, hide (by simpa using unhide HJX), hide (Below.refl _ _)⟩
    case round =>
      obtain ⟨j, rfl, hj, HJz, HBz⟩ := hrel
      clear HJX
      by_cases hjlt : j < M
      · have hjlt' : (j : Int) < (M : Int) := by omega
        obtain ⟨y, hyj⟩ : ∃ u, x.sets[j]? = some u := ⟨_, List.getElem?_eq_getElem (by have := unhide HM; omega)⟩
        obtain ⟨b2, off2, hma2, -, c0, c1, c2, c3, c4, -⟩ := ((unhide HL).grown (fun _ _ _ _ _ => AsR.grown) (unhide HBz)).at hyj
        replace c2 : wr.cell? ⟨b2, off2 + j * 5 + 2, none⟩ = _ := c2
        replace c3 : wr.cell? ⟨b2, off2 + j * 5 + 3, none⟩ = _ := c3
        replace c4 : wr.cell? ⟨b2, off2 + j * 5 + 4, none⟩ = _ := c4
        rw [hma2]
        have hb6 : Below wr.heap.size wr (wr.alloc (.cells (AsV.v y) 77)) := (Below.refl _ _).alloc (Nat.le_refl _) _
        have hbx6 := (unhide HBz).trans (hb6.mono (unhide HBz).size)
        have hb26 := (unhide HBX).trans (hbx6.mono (unhide HBX).size)
        have yc := unhide HY2 _ hb26
        obtain ⟨fn, tmps, assign, body, hy, hR⟩ := unhide HY _ y _ (unhide HJ _ _ _ (unhide HJz) (hb6.mono (Nat.le_trans (unhide HB12).size (Nat.le_trans (unhide HBX).size (unhide HBz).size)))) (List.IsPrefix.trans (flat_pre2 (f := fun y : EmV => y.sets) (unhide HPre) hyj) (List.prefix_append _ _))
        dsimp only [AsV.v] at hy yc
        have HB6 := hide hbx6
        have HS := hide (take_succT hyj)
        have HP := hide (show pre.flatMap (fun y : EmV => y.sets) ++ x.sets.take j ++ [y] <+: setsV hs vs from List.IsPrefix.trans (flat_pre2 (f := fun y : EmV => y.sets) (unhide HPre) hyj) (List.prefix_append _ _))
        clear hb6 hyj hbx6 hb26
        gi_wp2
        refine ⟨(fun h => by cases h), (round_any hR).mono ?_⟩
        rintro e W3 (⟨rfl, hJ3, hk3⟩ | ⟨rfl, hJx3, hup3⟩)
        · have HJ3 : Hid (J (pre.flatMap (fun y : EmV => y.sets) ++ x.sets.take (j + 1)) W3) := hide (by rw [unhide HS, ← List.append_assoc]; exact hJ3)
          have HB3 := hide ((unhide HB6).trans (hk3.mono (unhide HB6).size))
          clear hJ3 hk3 hR hy yc
          gi_wp2
          go_roundw
          case rel => exact ⟨j + 1, by congr 1, by omega, HJ3, HB3⟩
          case measure => simp [intOf]; omega
        · have HX3 := hide hJx3
          have HU := hide ((KeepUp.of_below (lo := W2.heap.size) (unhide HB6)).trans (hup3.mono (unhide HB12).size))
          clear hJx3 hup3 hR hy yc
          gi_wp2
          exact ⟨unhide HU, rfl, _, unhide HP, unhide HX3⟩
      · have hjlt' : ¬ (j : Int) < (M : Int) := by omega
        have HJn : Hid (J ((pre ++ [x]).flatMap (fun y : EmV => y.sets)) wr) := hide (by
          have e : x.sets.take j = x.sets := List.take_of_length_le (by have := unhide HM; omega)
          have := unhide HJz
          rw [e] at this
          simpa using this)
        gi_wp2
        exact ⟨unhide HBz, unhide HJn, (unhide HBX).trans ((unhide HBz).mono (unhide HBX).size)⟩
  case done =>
    rintro D X hD ⟨hj, hbX⟩ hK
    have r1 := unhide HQ2 X hbX
    have HV := hide (SlOf.grown (unhide HT2).evol (fun _ _ _ _ _ => EvR.grown) hbX)
    obtain ⟨-, hv1, hv2⟩ := (unhide HT2).evol.len
    have HBX := hide hbX
    have HJX := hide hj
    have HK := hide hK
    have HD := hide hD
    obtain ⟨N, hN⟩ : ∃ N, N = vs.length := ⟨_, rfl⟩
    have HN := hide hN
    rw [← hN] at r1 hv1 HV ⊢
    clear hj hbX hK hD hN
    gi_wp2
    clear r1
    gi_loopw [7, 9, 28, 32, 33, 34, 35, 36, 37, 38, 39, 40, 41, 42, 43] (fun _ _ i _ _ _ _ _ _ _ _ _ _ _ _ wr => ∃ (k : Nat), i = .int .i64 k ∧ k ≤ N ∧ Hid (J ((emitsV hs).flatMap (fun y : EmV => y.sets) ++ (vs.take k).flatMap (fun y : EvV => y.sets)) wr) ∧ Hid (Below X.heap.size X wr)) (fun _ _ i _ _ _ _ _ _ _ _ _ _ _ _ _ => N - (intOf i).toNat)
    case atStart => exact ⟨0, rfl, by omega, hide (by simpa using unhide HJX), hide (Below.refl _ _)⟩
    case round =>
      obtain ⟨k, rfl, hk, HJs, HB⟩ := hrel
      clear HJX
      by_cases hlt : k < N
      · have hlt' : (k : Int) < (N : Int) := by omega
        obtain ⟨h, huk⟩ : ∃ u, vs[k]? = some u := ⟨_, List.getElem?_eq_getElem (by have := unhide HN; omega)⟩
        have HUk := hide huk
        obtain ⟨b, off, hma, -, d0, d1, d2, hat⟩ := ((unhide HV).grown (fun _ _ _ _ _ => EvR.grown) (unhide HB)).at huk
        rw [hma]
        clear huk
        have hb4 : Below wr.heap.size wr (wr.alloc (.cells h.v 74)) := (Below.refl _ _).alloc (Nat.le_refl _) _
        have HJ4 := hide (unhide HJ _ _ _ (unhide HJs) (hb4.mono (Nat.le_trans (unhide HB12).size (Nat.le_trans (unhide HBX).size (unhide HB).size))))
        have HB4 := hide ((unhide HB).trans (hb4.mono (unhide HB).size))
        have HC4 := hide (hat.1.grown (fun _ _ _ _ _ => AsR.grown) hb4)
        obtain ⟨-, hc1, hc2⟩ := hat.1.len
        obtain ⟨M, hM⟩ : ∃ M, M = h.sets.length := ⟨_, rfl⟩
        have HM := hide hM
        have harg : (wr.alloc (.cells h.v 74)) = wr.alloc (.cells #[sv h.type, .slice h.sa M h.sc, .slice h.da h.drops.length h.dc] 74) := by rw [hM]
        rw [harg] at HJ4 HB4 HC4
        rw [← hM] at d1 hc1 HC4
        clear hb4 hat hM harg
        gi_wp2
        gi_loopw [9, 35] (fun _ i wz => ∃ (j : Nat), i = .int .i64 j ∧ j ≤ M ∧ Hid (J ((emitsV hs).flatMap (fun y : EmV => y.sets) ++ ((vs.take k).flatMap (fun y : EvV => y.sets) ++ h.sets.take j)) wz) ∧ Hid (Below X.heap.size X wz) ∧ Hid (SlOf 5 AsR wz (.slice h.sa M h.sc) h.sets)) (fun _ i _ => M - (intOf i).toNat)
        case atStart => exact ⟨0, rfl, by omega, hide (by simpa using unhide HJ4), HB4, HC4⟩
        case round =>
          obtain ⟨j, rfl, hj, HJz, HBz, HCz⟩ := hrel
          clear HJ4 HB4 HC4 HJs HB
          by_cases hjlt : j < M
          · have hjlt' : (j : Int) < (M : Int) := by omega
            obtain ⟨x, hxj⟩ : ∃ u, h.sets[j]? = some u := ⟨_, List.getElem?_eq_getElem (by have := unhide HM; omega)⟩
            obtain ⟨b2, off2, hma2, -, c0, c1, c2, c3, c4, -⟩ := (unhide HCz).at hxj
            replace c2 : wr.cell? ⟨b2, off2 + j * 5 + 2, none⟩ = _ := c2
            replace c3 : wr.cell? ⟨b2, off2 + j * 5 + 3, none⟩ = _ := c3
            replace c4 : wr.cell? ⟨b2, off2 + j * 5 + 4, none⟩ = _ := c4
            rw [hma2]
            have hb6 : Below wr.heap.size wr (wr.alloc (.cells x.v 77)) := (Below.refl _ _).alloc (Nat.le_refl _) _
            have hbx6 := (unhide HBz).trans (hb6.mono (unhide HBz).size)
            have yc := unhide HY2 _ ((unhide HBX).trans (hbx6.mono (unhide HBX).size))
            have hpx : (emitsV hs).flatMap (fun y : EmV => y.sets) ++ ((vs.take k).flatMap (fun y : EvV => y.sets) ++ h.sets.take j) ++ [x] <+: setsV hs vs := by
              rw [List.append_assoc]
              exact (List.prefix_append_right_inj _).2 (flat_pre (f := fun y : EvV => y.sets) (unhide HUk) hxj)
            obtain ⟨fn, tmps, assign, body, hy, hR⟩ := unhide HY _ x _ (unhide HJ _ _ _ (unhide HJz) (hb6.mono (Nat.le_trans (unhide HB12).size (Nat.le_trans (unhide HBX).size (unhide HBz).size)))) hpx
            dsimp only [AsV.v] at hy yc
            have HB6 := hide hbx6
            have HC6 := hide ((unhide HCz).grown (fun _ _ _ _ _ => AsR.grown) hb6)
            have HS := hide (take_succT hxj)
            have HP := hide hpx
            clear hb6 hxj hbx6 hpx
            gi_wp2
            refine ⟨(fun h => by cases h), (round_any hR).mono ?_⟩
            rintro e W3 (⟨rfl, hJ3, hk3⟩ | ⟨rfl, hJx3, hup3⟩)
            · have HJ3 : Hid (J ((emitsV hs).flatMap (fun y : EmV => y.sets) ++ ((vs.take k).flatMap (fun y : EvV => y.sets) ++ h.sets.take (j + 1))) W3) := hide (by
                rw [unhide HS]
                simpa only [List.append_assoc] using hJ3)
              have HB3 := hide ((unhide HB6).trans (hk3.mono (unhide HB6).size))
              have HC3 := hide ((unhide HC6).grown (fun _ _ _ _ _ => AsR.grown) hk3)
              clear hJ3 hk3 hR hy yc
              gi_wp2
              go_roundw
              case rel => exact ⟨j + 1, by congr 1, by omega, HJ3, HB3, by rw [← hma2]; exact HC3⟩
              case measure => simp [intOf]; omega
            · have HX3 := hide hJx3
              have HU := hide ((hup3.same D (Nat.le_trans (unhide HB12).size (unhide HD)) (by have := (Array.getElem?_eq_some_iff.1 (unhide HK)).1; have := (unhide HB6).size; omega)).trans (rowKept (unhide HK) (unhide HB6) (Nat.le_refl _)))
              clear hJx3 hup3 hR hy yc
              gi_wp2
              refine ⟨by simp, .inl ⟨_, _, rfl, run_takeDeferred (unhide HU), ?_⟩⟩
              exact ⟨_, results_none rfl _ _ _, ⟨_, rfl⟩, .inr ⟨_, unhide HP, unhide HJx _ _ _ (unhide HX3) (below_turn _ (Nat.le_trans (unhide HB12).size (unhide HD)) (unhide HU))⟩⟩
          · have hjlt' : ¬ (j : Int) < (M : Int) := by omega
            have HJn : Hid (J ((emitsV hs).flatMap (fun y : EmV => y.sets) ++ (vs.take (k + 1)).flatMap (fun y : EvV => y.sets)) wr) := hide (by
              rw [flat_succ (unhide HUk)]
              have e : h.sets.take j = h.sets := List.take_of_length_le (by have := unhide HM; omega)
              have := unhide HJz
              rwa [e] at this)
            gi_wp2
            go_roundw
            case rel => exact ⟨k + 1, by congr 1, by omega, HJn, HBz⟩
            case measure => simp [intOf]; omega
      · have hlt' : ¬ (k : Int) < (N : Int) := by omega
        have HJn : Hid (J (setsV hs vs) wr) := hide (by
          have := unhide HJs
          have e : vs.take k = vs := List.take_of_length_le (by have := unhide HN; omega)
          rwa [e] at this)
        have HU := hide (rowKept (unhide HK) (unhide HB) (Nat.le_refl _))
        gi_wp2
        refine ⟨by simp, .inl ⟨_, _, rfl, run_takeDeferred (unhide HU), ?_⟩⟩
        exact ⟨_, results_none rfl _ _ _, ⟨_, rfl⟩, .inl (unhide HJ _ _ _ (unhide HJn) (below_turn _ (Nat.le_trans (unhide HB12).size (unhide HD)) (unhide HU)))⟩
  case stop =>
    rintro D c pre X hD hpre ⟨rfl, pre', hp', hjx⟩ hK
    gi_wp2
    refine ⟨by simp, .inl ⟨_, _, rfl, run_takeDeferred hK, ?_⟩⟩
    exact ⟨_, results_none rfl _ _ _, ⟨_, rfl⟩, .inr ⟨pre', hp', unhide HJx _ _ _ hjx (below_turn _ (Nat.le_trans (unhide HB12).size hD) hK)⟩⟩
end Go.Proofs.YtingpmgpjmlioaaGreatDoor

namespace Go.Proofs.YtingpmgpjmlioaaGreatDoor
open Go.RowKit Go.Shelf
set_option linter.unusedVariables false
attribute [local go_sem] Oper.semAt_some

theorem map_pre {β γ : Type} {f : β → γ} {l pre : List β} {x : β} (hp : pre ++ [x] <+: l) : pre.map f ++ [f x] <+: l.map f := by
  obtain ⟨r, rfl⟩ := hp
  exact ⟨r.map f, by simp⟩
theorem cells10 {w : World} {q : Nat} {d : CdV} {t : TypeId} (h : w.heap[q]? = some (.cells d.v t (0, 0))) : w.cell? ⟨q, 0, none⟩ = some (.int .i64 d.kind) ∧ (w.cell? ⟨q, 2, none⟩ = some (.int .i64 d.A.x.kind) ∧ w.cell? ⟨q, 3, none⟩ = some (.int .i64 d.A.x.n) ∧ w.cell? ⟨q, 4, none⟩ = some (sv d.A.x.s) ∧ w.cell? ⟨q, 5, none⟩ = some (.slice d.A.a d.A.x.args.length d.A.c)) ∧ w.cell? ⟨q, 6, none⟩ = some (.int .i64 d.B.x.kind) ∧ w.cell? ⟨q, 7, none⟩ = some (.int .i64 d.B.x.n) ∧ w.cell? ⟨q, 8, none⟩ = some (sv d.B.x.s) ∧ w.cell? ⟨q, 9, none⟩ = some (.slice d.B.a d.B.x.args.length d.B.c) :=
  ⟨(cell_of_row _ _ _ _ _ _ h).trans rfl, ⟨(cell_of_row _ _ _ _ _ _ h).trans rfl, (cell_of_row _ _ _ _ _ _ h).trans rfl, (cell_of_row _ _ _ _ _ _ h).trans rfl, (cell_of_row _ _ _ _ _ _ h).trans rfl⟩, (cell_of_row _ _ _ _ _ _ h).trans rfl, (cell_of_row _ _ _ _ _ _ h).trans rfl, (cell_of_row _ _ _ _ _ _ h).trans rfl, (cell_of_row _ _ _ _ _ _ h).trans rfl⟩
theorem cells5 {w : World} {q : Nat} {s : AsV} {t : TypeId} (h : w.heap[q]? = some (.cells s.v t (0, 0))) : w.cell? ⟨q, 0, none⟩ = some (sv s.nm) ∧ w.cell? ⟨q, 1, none⟩ = some (.int .i64 s.e.x.kind) ∧ w.cell? ⟨q, 2, none⟩ = some (.int .i64 s.e.x.n) ∧ w.cell? ⟨q, 3, none⟩ = some (sv s.e.x.s) ∧ w.cell? ⟨q, 4, none⟩ = some (.slice s.e.a s.e.x.args.length s.e.c) :=
  ⟨(cell_of_row _ _ _ _ _ _ h).trans rfl, (cell_of_row _ _ _ _ _ _ h).trans rfl, (cell_of_row _ _ _ _ _ _ h).trans rfl, (cell_of_row _ _ _ _ _ _ h).trans rfl, (cell_of_row _ _ _ _ _ _ h).trans rfl⟩

set_option maxHeartbeats 4000000 in
set_option maxRecDepth 100000 in
theorem expressions_goes (q : Nat) (ha : Option Addr) (hc : Nat) (hs : List HaV) (va : Option Addr) (vc : Nat) (vs : List EvV) (w : World) (hq : w.heap[q]? = some (.cells (rulV ha hs.length hc va vs.length vc) 25)) (ht : TabR w ha hc hs va vc vs) :
    Goes Tryz.prog 87 #[.pointer (some ⟨q, 0, none⟩)] ndv (exprsV hs vs) w := by
  intro n l J Jx W hW hJ hJx hY h0
  have hmf : ∀ (fn : Fn) (first cap : Array Value) (w : World), (Instr.makeFunc fn first cap).run Tryz.prog w = .ok (.func fn first cap) w := fun _ _ _ _ => rfl
  have hqW := rowKept hq hW (Nat.le_refl _)
  have hb1 : Below W.heap.size W (W.alloc (.cells #[.func (.yield l) #[] #[]] 58)) := (Below.refl _ _).alloc (Nat.le_refl _) _
  have hq1 := rowKept hqW hb1 (Nat.le_refl _)
  have r0 : (W.alloc (.cells #[.func (.yield l) #[] #[]] 58)).cell? ⟨q, 0, none⟩ = some (.slice ha hs.length hc) := (cell_of_row _ _ _ _ _ _ hq1).trans rfl
  have r1 : (W.alloc (.cells #[.func (.yield l) #[] #[]] 58)).cell? ⟨q, 1, none⟩ = some (.slice va vs.length vc) := (cell_of_row _ _ _ _ _ _ hq1).trans rfl
  have hy1 : (W.alloc (.cells #[.func (.yield l) #[] #[]] 58)).heap[W.heap.size]? = some (.cells #[.func (.yield l) #[] #[]] 58) := heap_alloc_new _ _
  have ht1 := (ht.grown hW).grown hb1
  obtain ⟨W1, hW1⟩ : ∃ W1, W1 = W.alloc (.cells #[.func (.yield l) #[] #[]] 58) := ⟨_, rfl⟩
  rw [← hW1] at hb1 hq1 hy1 ht1
  have hb2 : Below W1.heap.size W1 (W1.alloc (.cells (rulV ha hs.length hc va vs.length vc) 25)) := (Below.refl _ _).alloc (Nat.le_refl _) _
  have hq2 : (W1.alloc (.cells (rulV ha hs.length hc va vs.length vc) 25)).heap[W1.heap.size]? = some (.cells (rulV ha hs.length hc va vs.length vc) 25) := heap_alloc_new _ _
  have ht2 := ht1.grown hb2
  have hy2 := rowKept hy1 hb2 (Nat.le_refl _)
  have hb12 := hb1.trans (hb2.mono hb1.size)
  obtain ⟨W2, hW2⟩ : ∃ W2, W2 = W1.alloc (.cells (rulV ha hs.length hc va vs.length vc) 25) := ⟨_, rfl⟩
  rw [← hW2] at hb2 hq2 ht2 hy2 hb12
  have HW2 : Hid (W2 = (W.alloc (.cells #[.func (.yield l) #[] #[]] 58)).alloc (.cells (rulV ha hs.length hc va vs.length vc) 25)) := hide (by rw [hW2, hW1])
  have hs1 : W1.heap.size = W.heap.size + 1 := by rw [hW1]; simp
  rw [hs1] at hq2
  have HY := hide hY
  have HJ := hide hJ
  have HJx := hide hJx
  have HT2 := hide ht2
  have HQ2 : Hid (∀ X, Below W2.heap.size W2 X → X.heap[q]? = some (.cells (rulV ha hs.length hc va vs.length vc) 25)) := hide (fun X hX => rowKept (rowKept hq1 hb2 (Nat.le_refl _)) hX (Nat.le_refl _))
  have HY2 : Hid (∀ X, Below W2.heap.size W2 X → X.cell? ⟨W.heap.size, 0, none⟩ = some (.func (.yield l) #[] #[])) := hide (fun X hX => kept hX ((cell_of_row _ _ _ _ _ _ hy2).trans rfl))
  have HB12 := hide hb12
  have HG := hide (conditions_goes (W.heap.size + 1) ha hc hs va vc vs W2 hq2 ht2)
  have HJ0 := hide (hJ _ _ _ h0 hb12)
  have HCd : Hid (∀ d ∈ condsV hs, CdO W2 d) := hide (fun d hd => ht2.cd hd)
  clear hW hq ht hY hJ hJx h0 hqW hq1 hy1 ht1 hb1 hb2 hb12 hq2 ht2 hy2 hW2 hs1
  clear hW1 W1
  refine callsIn_of_wp_marks Tryz.func87 rfl trivial ?_ rfl
  simp only [Tryz.ntmps87, List.size_toArray, List.length_cons, List.length_nil, Nat.reduceAdd, Nat.reduceSub, Array.replicate_succ, Array.replicate_zero, List.push_toArray, List.append_toArray, List.nil_append, List.cons_append]
  gi_wp2_with fail
  refine ⟨trivial, (fun h => by cases h), (callsIn_wide.2 (conditions_any _ _ _ _ _ _ _)).mono ?_⟩
  rintro e w' ⟨rfl, rfl⟩
  clear r0 r1
  gi_wp2
  rw [show (W.alloc (.cells #[.func (.yield l) #[] #[]] 58)).alloc (.cells #[.slice ha hs.length hc, .slice va vs.length vc] 25) = W2 from (unhide HW2).symm]
  refine range_box (gf := 94) (lb := #[.pointer (some ⟨W.heap.size + 1, 0, none⟩)]) rfl (enters_of Tryz.func94 (by kernel_rfl) rfl) (unhide HG) (Below.refl _ _)
    (fun (pre : List CdV) X => J (pre.flatMap cdExs) X ∧ Below W2.heap.size W2 X)
    (fun c pre X => c = .ret ∧ ∃ pre', pre' <+: exprsV hs vs ∧ Jx pre' X)
    (fun s X Y h hb => ⟨unhide HJ _ X Y h.1 (hb.mono (unhide HB12).size), h.2.trans hb⟩)
    (fun c s X Y h hb => by obtain ⟨h1, p', h2, h3⟩ := h; exact ⟨h1, p', h2, unhide HJx _ _ _ h3 (hb.mono (unhide HB12).size)⟩)
    ⟨unhide HJ0, Below.refl _ _⟩ 46 3 ?assign ?body ?done ?stop
  case assign =>
    intro l' x X K hK
    simp only [rdAct, List.setIfInBounds_toArray, List.set_cons_zero, List.set_cons_succ, CdV.v] at hK ⊢
    gi_wp2
    exact hK
  case body =>
    rintro l' pre d Bx X ⟨hj, hbX⟩ hbx hpre
    obtain ⟨k0, ⟨a0, a1, a2, a3⟩, b0, b1, b2, b3⟩ := cells10 hbx
    have yc := unhide HY2 X hbX
    have hA0 : (cdExs d)[0]? = some d.A := by unfold cdExs; split <;> rfl
    have hpA : pre.flatMap cdExs ++ [d.A] <+: exprsV hs vs := by
      have := flat_pre2 (f := cdExs) hpre hA0
      simp only [List.take_zero, List.append_nil] at this
      exact this.trans (List.prefix_append _ _)
    obtain ⟨fn, tmps, assign, body, hy, hR⟩ := unhide HY _ d.A X hj hpA
    have HBX := hide hbX
    have HPA := hide hpA
    have HPre := hide hpre
    have HBx := hide hbx
    clear hj hbX hbx hpre hA0 hpA
    simp only [rdAct, List.setIfInBounds_toArray, List.set_cons_zero, List.set_cons_succ, CdV.v, ndv] at hy ⊢
    gi_wp2
    refine ⟨(fun h => by cases h), (round_any hR).mono ?_⟩
    rintro e W3 (⟨rfl, hJ3, hk3⟩ | ⟨rfl, hJx3, hup3⟩)
    · clear hR hy k0 a0 a1 a2 a3 b0 b1 b2 b3 yc
      obtain ⟨k0, ⟨a0, a1, a2, a3⟩, b0, b1, b2, b3⟩ := cells10 (rowKept (unhide HBx) hk3 (Nat.le_refl _))
      have hb3 := (unhide HBX).trans (hk3.mono (unhide HBX).size)
      have yc := unhide HY2 W3 hb3
      have HB3 := hide hk3
      by_cases h4 : d.kind = 4
      · have HJ3 : Hid (J ((pre ++ [d]).flatMap cdExs) W3) := hide (by
          have e : cdExs d = [d.A] := by unfold cdExs; rw [if_pos h4]
          simpa [e] using hJ3)
        rw [h4] at k0
        have HB23 := hide hb3
        clear hJ3 hk3 hb3 h4
        gi_wp2
        refine ⟨fun _ h => (by cases h), ?_⟩
        gi_wp2
        exact ⟨unhide HB3, unhide HJ3, unhide HB23⟩
      · have h4' : (d.kind != 4) = true := by simp [h4]
        have hB0 : (cdExs d)[1]? = some d.B := by unfold cdExs; rw [if_neg h4]; rfl
        have hT0 : (cdExs d).take 1 = [d.A] := by unfold cdExs; rw [if_neg h4]; rfl
        have hpB : pre.flatMap cdExs ++ [d.A] ++ [d.B] <+: exprsV hs vs := by
          have := flat_pre2 (f := cdExs) (unhide HPre) hB0
          rw [hT0] at this
          exact this.trans (List.prefix_append _ _)
        obtain ⟨fn, tmps, assign, body, hy, hR⟩ := unhide HY _ d.B W3 hJ3 hpB
        have HE : Hid ((pre ++ [d]).flatMap cdExs = pre.flatMap cdExs ++ [d.A] ++ [d.B]) := hide (by
          have e : cdExs d = [d.A, d.B] := by unfold cdExs; rw [if_neg h4]
          simp [e])
        have HPB := hide hpB
        have HB23 := hide hb3
        clear hJ3 hk3 hb3 h4 hB0 hT0 hpB
        simp only [ndv] at hy
        gi_wp2
        refine ⟨(fun h => by cases h), (round_any hR).mono ?_⟩
        rintro e W4 (⟨rfl, hJ4, hk4⟩ | ⟨rfl, hJx4, hup4⟩)
        · have HJ4 : Hid (J ((pre ++ [d]).flatMap cdExs) W4) := hide (by rw [unhide HE]; exact hJ4)
          have HB4 := hide ((unhide HB3).trans (hk4.mono (unhide HB3).size))
          clear hR hy hJ4 hk4 yc
          gi_wp2
          exact ⟨unhide HB4, unhide HJ4, (unhide HBX).trans ((unhide HB4).mono (unhide HBX).size)⟩
        · have HX4 := hide hJx4
          have HU := hide ((KeepUp.of_below (lo := W2.heap.size) (unhide HB3)).trans (hup4.mono (unhide HB12).size))
          clear hR hy hJx4 hup4 yc
          gi_wp2
          exact ⟨unhide HU, rfl, _, unhide HPB, unhide HX4⟩
    · have HX3 := hide hJx3
      have HU := hide (hup3.mono (unhide HB12).size)
      clear hR hy hJx3 hup3 k0 a0 a1 a2 a3 b0 b1 b2 b3 yc
      gi_wp2
      all_goals first
        | exact absurd (show some undef = some (Value.bool _) by assumption) (by unfold undef; simp)
        | (refine ⟨fun _ h => (by cases h), ?_⟩
           gi_wp2
           all_goals first
             | exact absurd (show some undef = some (Value.bool _) by assumption) (by unfold undef; simp)
             | exact ⟨unhide HU, rfl, _, unhide HPA, unhide HX3⟩)
  case done =>
    rintro D X hD ⟨hj, hbX⟩ hK
    have hqX := unhide HQ2 X hbX
    have r0 : X.cell? ⟨q, 0, none⟩ = some (.slice ha hs.length hc) := (cell_of_row _ _ _ _ _ _ hqX).trans rfl
    have r1 : X.cell? ⟨q, 1, none⟩ = some (.slice va vs.length vc) := (cell_of_row _ _ _ _ _ _ hqX).trans rfl
    have hb5 : Below X.heap.size X (X.alloc (.cells (rulV ha hs.length hc va vs.length vc) 25)) := (Below.refl _ _).alloc (Nat.le_refl _) _
    have hq5 : (X.alloc (.cells (rulV ha hs.length hc va vs.length vc) 25)).heap[X.heap.size]? = some (.cells (rulV ha hs.length hc va vs.length vc) 25) := heap_alloc_new _ _
    have hb25 := hbX.trans (hb5.mono hbX.size)
    have hK5 := rowKept hK hb5 (Nat.le_refl _)
    have hJ5 := unhide HJ _ _ _ hj (hb5.mono (Nat.le_trans (unhide HB12).size hbX.size))
    obtain ⟨X2, hX2⟩ : ∃ X2, X2 = X.alloc (.cells (rulV ha hs.length hc va vs.length vc) 25) := ⟨_, rfl⟩
    rw [← hX2] at hb5 hq5 hb25 hK5 hJ5
    have HX2 := hide hX2
    have HG2 := hide (sets_goes X.heap.size ha hc hs va vc vs X2 hq5 ((unhide HT2).grown hb25))
    have HB25 := hide hb25
    have HK5 := hide hK5
    have HJ5 := hide hJ5
    have HWX : Hid (W.heap.size ≤ X2.heap.size) := hide (Nat.le_trans (unhide HB12).size hb25.size)
    have HDl : Hid (D < X2.heap.size) := hide ((Array.getElem?_eq_some_iff.1 hK5).1)
    have HWD : Hid (W.heap.size ≤ D) := hide (Nat.le_trans (unhide HB12).size hD)
    clear hj hbX hK hqX hb5 hq5 hb25 hK5 hJ5 hX2 hD
    gi_wp2_with fail
    refine ⟨trivial, (fun h => by cases h), (callsIn_wide.2 (sets_any _ _ _ _ _ _ _)).mono ?_⟩
    rintro e w' ⟨rfl, rfl⟩
    clear r0 r1
    gi_wp2
    rw [show X.alloc (.cells #[.slice ha hs.length hc, .slice va vs.length vc] 25) = X2 from (unhide HX2).symm]
    refine range_box (gf := 114) (lb := #[.pointer (some ⟨X.heap.size, 0, none⟩)]) rfl (enters_of Tryz.func114 (by kernel_rfl) rfl) (unhide HG2) (Below.refl _ _)
      (fun (pre : List AsV) Z => J ((condsV hs).flatMap cdExs ++ pre.map (·.e)) Z ∧ Below X2.heap.size X2 Z ∧ Z.heap[D]? = some (.deferred (some [])))
      (fun c pre Z => c = .ret ∧ (∃ pre', pre' <+: exprsV hs vs ∧ Jx pre' Z) ∧ Z.heap[D]? = some (.deferred (some [])))
      (fun s A B h hb => ⟨unhide HJ _ A B h.1 (hb.mono (unhide HWX)), h.2.1.trans hb, (hb.block D (unhide HDl)).trans h.2.2⟩)
      (fun c s A B h hb => by obtain ⟨h1, ⟨p', h2, h3⟩, h4⟩ := h; exact ⟨h1, ⟨p', h2, unhide HJx _ _ _ h3 (hb.mono (unhide HWX))⟩, (hb.block D (unhide HDl)).trans h4⟩)
      ⟨by simpa using unhide HJ5, Below.refl _ _, unhide HK5⟩ 77 4 ?assign2 ?body2 ?done2 ?stop2
    case assign2 =>
      intro l' x Z K hK
      simp only [rdAct, List.setIfInBounds_toArray, List.set_cons_zero, List.set_cons_succ, AsV.v] at hK ⊢
      gi_wp2
      exact hK
    case body2 =>
      rintro l' pre s Bx Z ⟨hj, hbZ, hKZ⟩ hbx hpre
      obtain ⟨s0, s1, s2, s3, s4⟩ := cells5 hbx
      have hb2Z := (unhide HB25).trans (hbZ.mono (unhide HB25).size)
      have yc := unhide HY2 Z hb2Z
      have hpA : (condsV hs).flatMap cdExs ++ pre.map (·.e) ++ [s.e] <+: exprsV hs vs := by
        rw [List.append_assoc]
        exact (List.prefix_append_right_inj _).2 (map_pre (f := fun s : AsV => s.e) hpre)
      obtain ⟨fn, tmps, assign, body, hy, hR⟩ := unhide HY _ s.e Z hj hpA
      have HBZ := hide hbZ
      have HKZ := hide hKZ
      have HPA := hide hpA
      have HDz : Hid (D < Z.heap.size) := hide ((Array.getElem?_eq_some_iff.1 hKZ).1)
      clear hj hbZ hbx hpre hpA hb2Z hKZ
      simp only [rdAct, List.setIfInBounds_toArray, List.set_cons_zero, List.set_cons_succ, AsV.v, ndv] at hy ⊢
      gi_wp2
      refine ⟨(fun h => by cases h), (round_any hR).mono ?_⟩
      rintro e W3 (⟨rfl, hJ3, hk3⟩ | ⟨rfl, hJx3, hup3⟩)
      · have HJ3 : Hid (J ((condsV hs).flatMap cdExs ++ (pre ++ [s]).map (·.e)) W3) := hide (by simpa only [List.map_append, List.map_cons, List.map_nil, List.append_assoc] using hJ3)
        have HB3 := hide hk3
        clear hR hy hJ3 hk3 s0 s1 s2 s3 s4 yc
        gi_wp2
        exact ⟨unhide HB3, unhide HJ3, (unhide HBZ).trans ((unhide HB3).mono (unhide HBZ).size), ((unhide HB3).block D (unhide HDz)).trans (unhide HKZ)⟩
      · have HX3 := hide hJx3
        have HU := hide (hup3.mono (unhide HWX))
        have HKn := hide ((hup3.same D (unhide HWD) (unhide HDz)).trans (unhide HKZ))
        clear hR hy hJx3 hup3 s0 s1 s2 s3 s4 yc
        gi_wp2
        exact ⟨unhide HU, rfl, ⟨_, unhide HPA, unhide HX3⟩, unhide HKn⟩
    case done2 =>
      rintro D2 Z hD2 ⟨hj, -, hKD⟩ hK2
      have hne : D ≠ D2 := by have := unhide HDl; omega
      have hK3 : (Z.putObj D2 (.deferred none)).heap[D]? = some (.deferred (some [])) := (World.putObj_heap_other hne).trans hKD
      have hWD2 : W.heap.size ≤ D2 := Nat.le_trans (unhide HWX) hD2
      gi_wp2
      refine ⟨by simp, .inl ⟨_, _, rfl, run_takeDeferred hK2, ?_⟩⟩
      refine ⟨by simp, .inl ⟨_, _, rfl, run_takeDeferred hK3, ?_⟩⟩
      exact ⟨_, results_none rfl _ _ _, ⟨_, rfl⟩, .inl (unhide HJ _ _ _ (unhide HJ _ _ _ hj (below_turn _ hWD2 hK2)) (below_turn _ (unhide HWD) hK3))⟩
    case stop2 =>
      rintro D2 c pre Z hD2 hpre ⟨rfl, ⟨pre', hp', hjx⟩, hKD⟩ hK2
      have hne : D ≠ D2 := by have := unhide HDl; omega
      have hK3 : (Z.putObj D2 (.deferred none)).heap[D]? = some (.deferred (some [])) := (World.putObj_heap_other hne).trans hKD
      have hWD2 : W.heap.size ≤ D2 := Nat.le_trans (unhide HWX) hD2
      gi_wp2
      refine ⟨by simp, .inl ⟨_, _, rfl, run_takeDeferred hK2, ?_⟩⟩
      refine ⟨by simp, .inl ⟨_, _, rfl, run_takeDeferred hK3, ?_⟩⟩
      exact ⟨_, results_none rfl _ _ _, ⟨_, rfl⟩, .inr ⟨pre', hp', unhide HJx _ _ _ (unhide HJx _ _ _ hjx (below_turn _ hWD2 hK2)) (below_turn _ (unhide HWD) hK3)⟩⟩
  case stop =>
    rintro D c pre X hD hpre ⟨rfl, pre', hp', hjx⟩ hK
    gi_wp2
    refine ⟨by simp, .inl ⟨_, _, rfl, run_takeDeferred hK, ?_⟩⟩
    exact ⟨_, results_none rfl _ _ _, ⟨_, rfl⟩, .inr ⟨pre', hp', unhide HJx _ _ _ hjx (below_turn _ (Nat.le_trans (unhide HB12).size hD) hK)⟩⟩
end Go.Proofs.YtingpmgpjmlioaaGreatDoor
