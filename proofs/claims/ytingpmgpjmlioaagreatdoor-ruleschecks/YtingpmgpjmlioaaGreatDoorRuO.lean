/-
  DERIVED. The walk of holds.
-/
import Derived.Test.YtingpmgpjmlioaaGreatDoorRuJ
namespace Go.Proofs.YtingpmgpjmlioaaGreatDoor
open Go.RowKit
set_option linter.unusedVariables false

def notR : Except Int Bool → Bool → Except Int Bool
  | .error e, _ => .error e
  | .ok b, n => .ok (b != n)
def holdsR (S : Sc) (d : Cd) : Except Int Bool := notR (isSoR S d) d.neg

set_option maxRecDepth 20000 in
set_option maxHeartbeats 4000000 in
theorem holds_any (S : Sc) (d : Cd) (a : Option Addr) (c : Nat) (a' : Option Addr) (c' : Nat) (w : World) (hA : ExAt w d.A a c) (hB : ExAt w d.B a' c') (hS : S.at w) (hva : Vars w) : Calls Tryz.prog 43 #[.agg (scv S), .agg (cdV d a c a' c')] w (EndsB w (holdsR S d)) := by
  have hb2 : Below w.heap.size w ((w.alloc (.cells (scv S) 82)).alloc (.cells (cdV d a c a' c') 46)) := ((Below.refl _ _).alloc (Nat.le_refl _) _).alloc (by simp) _
  have hs2 : SBox ((w.alloc (.cells (scv S) 82)).alloc (.cells (cdV d a c a' c') 46)) w.heap.size S := (SBox.new w S).below ((Below.refl _ _).alloc (Nat.le_refl _) _) (Nat.le_refl _)
  have hx2 : CBox ((w.alloc (.cells (scv S) 82)).alloc (.cells (cdV d a c a' c') 46)) (w.heap.size + 1) d a c a' c' := by
    have : CBox ((w.alloc (.cells (scv S) 82)).alloc (.cells (cdV d a c a' c') 46)) (w.alloc (.cells (scv S) 82)).heap.size d a c a' c' := heap_alloc_new _ _
    rw [show (w.alloc (.cells (scv S) 82)).heap.size = w.heap.size + 1 by simp] at this
    exact this
  obtain ⟨wr, hw2⟩ : ∃ w2, w2 = (w.alloc (.cells (scv S) 82)).alloc (.cells (cdV d a c a' c') 46) := ⟨_, rfl⟩
  rw [← hw2] at hb2 hs2 hx2
  have HW := hide hw2
  have HB2 := hide hb2
  have R0 : Hid (Below wr.heap.size wr wr.drew) := hide (Below.refl _ _).drew
  have HC := hide (isSo_any S d a c a' c' wr.drew ((hA.grown hb2).grown (unhide R0)) ((hB.grown hb2).grown (unhide R0)) ((hS.grown hb2).grown (unhide R0)) ((hva.below hb2 (Nat.le_refl _)).below (unhide R0) (Nat.le_refl _)))
  obtain ⟨R, hR⟩ : ∃ R, R = holdsR S d := ⟨_, rfl⟩
  rw [← hR]
  obtain ⟨T, hT⟩ : ∃ T, T = isSoR S d := ⟨_, rfl⟩
  rw [← hT] at HC
  have HR : Hid (R = notR T d.neg) := hide (by rw [hR, hT]; rfl)
  obtain ⟨p, hp⟩ : ∃ p, p = w.heap.size := ⟨_, rfl⟩
  obtain ⟨q, hq⟩ : ∃ q, q = w.heap.size + 1 := ⟨_, rfl⟩
  rw [← hp] at hs2
  rw [← hq] at hx2
  have HPQ := hide (And.intro hp hq)
  have hgw : w.heap.size ≤ wr.heap.size := hb2.size
  obtain ⟨kd, ng, A, B⟩ := d
  obtain ⟨st, sl, gl, sa, sc, ga, gc, mp⟩ := S
  have SV : Hid (∀ W, Below wr.heap.size wr W → (W.cell? ⟨p, 0, none⟩ = some (sv st) ∧ W.cell? ⟨p, 1, none⟩ = some (.slice sa sl.length sc) ∧ W.cell? ⟨p, 2, none⟩ = some (.slice ga gl.length gc) ∧ W.cell? ⟨p, 3, none⟩ = some (.map (some mp))) ∧ (W.cell? ⟨q, 0, none⟩ = some (.int .i64 kd) ∧ W.cell? ⟨q, 1, none⟩ = some (.bool ng)) ∧ (W.cell? ⟨q, 2, none⟩ = some (.int .i64 A.kind) ∧ W.cell? ⟨q, 3, none⟩ = some (.int .i64 A.n) ∧ W.cell? ⟨q, 4, none⟩ = some (sv A.s) ∧ W.cell? ⟨q, 5, none⟩ = some (.slice a A.args.length c)) ∧ (W.cell? ⟨q, 6, none⟩ = some (.int .i64 B.kind) ∧ W.cell? ⟨q, 7, none⟩ = some (.int .i64 B.n) ∧ W.cell? ⟨q, 8, none⟩ = some (sv B.s) ∧ W.cell? ⟨q, 9, none⟩ = some (.slice a' B.args.length c'))) := hide (fun W hW => by
    obtain ⟨s0, s1, s2, s3, _⟩ := (hs2.below hW (Nat.le_refl _)).cells
    obtain ⟨⟨k0, k1⟩, ⟨x0, x1, x2, x3⟩, y0, y1, y2, y3⟩ := (hx2.below hW (Nat.le_refl _)).cells
    exact ⟨⟨s0, s1, s2, s3⟩, ⟨k0, k1⟩, ⟨x0, x1, x2, x3⟩, y0, y1, y2, y3⟩)
  simp only at HR HC
  clear hw2 hb2 hs2 hx2 hS hA hB hva hp hq hR hT
  go_enter Tryz.func43, Tryz.ntmps43
  go_upto_region 1 with fail
  rw [show (w.alloc (.cells #[sv st, .slice sa sl.length sc, .slice ga gl.length gc, .map (some mp)] 82)).alloc (.cells #[Value.int IntKind.i64 kd, .bool ng, .int .i64 A.kind, .int .i64 A.n, sv A.s, .slice a A.args.length c, .int .i64 B.kind, .int .i64 B.n, sv B.s, .slice a' B.args.length c'] 46) = wr from (unhide HW).symm]
  rw [← (unhide HPQ).2, ← (unhide HPQ).1]
  refine wp_region_held_drew (S := fun W => (W.cell? ⟨p, 0, none⟩ = some (sv st) ∧ W.cell? ⟨p, 1, none⟩ = some (.slice sa sl.length sc) ∧ W.cell? ⟨p, 2, none⟩ = some (.slice ga gl.length gc) ∧ W.cell? ⟨p, 3, none⟩ = some (.map (some mp))) ∧ (W.cell? ⟨q, 0, none⟩ = some (.int .i64 kd) ∧ W.cell? ⟨q, 1, none⟩ = some (.bool ng)) ∧ (W.cell? ⟨q, 2, none⟩ = some (.int .i64 A.kind) ∧ W.cell? ⟨q, 3, none⟩ = some (.int .i64 A.n) ∧ W.cell? ⟨q, 4, none⟩ = some (sv A.s) ∧ W.cell? ⟨q, 5, none⟩ = some (.slice a A.args.length c)) ∧ (W.cell? ⟨q, 6, none⟩ = some (.int .i64 B.kind) ∧ W.cell? ⟨q, 7, none⟩ = some (.int .i64 B.n) ∧ W.cell? ⟨q, 8, none⟩ = some (sv B.s) ∧ W.cell? ⟨q, 9, none⟩ = some (.slice a' B.args.length c'))) (by kernel_rfl) (unhide SV _ (unhide R0)) (fun hS => ?_)
  refine wpAnyH_take (i := 0) (oi := ?ox1) (v := ?vx1) ?hx1 (by kernel_rfl) (by kernel_rfl) (by kernel_rfl) ?qx1 (Or.inl ⟨?wx1, ?yx1⟩) hS ?rx1
  case hx1 => (simp only [List.getElem?_toArray, List.getElem?_cons_zero]; rfl)
  case wx1 => rfl
  case qx1 => exact fun _ _ _ h => h
  case yx1 =>
    intro w' hSw
    try dsimp only at hSw
    go_simp
    with_reducible rfl
  try simp only [Act.put, List.setIfInBounds_toArray, List.set_cons_zero, List.set_cons_succ]
  refine wpAnyH_take (i := 1) (oi := ?ox2) (v := ?vx2) ?hx2 (by kernel_rfl) (by kernel_rfl) (by kernel_rfl) ?qx2 (Or.inl ⟨?wx2, ?yx2⟩) hS ?rx2
  case hx2 => (simp only [List.getElem?_toArray, List.getElem?_cons_succ, List.getElem?_cons_zero]; rfl)
  case wx2 => rfl
  case qx2 => exact fun _ _ _ h => h
  case yx2 =>
    intro w' hSw
    try dsimp only at hSw
    go_simp
    with_reducible rfl
  try simp only [Act.put, List.setIfInBounds_toArray, List.set_cons_zero, List.set_cons_succ]
  refine wpAnyH_take (i := 3) (oi := ?ox3) (v := ?vx3) ?hx3 (by kernel_rfl) (by kernel_rfl) (by kernel_rfl) ?qx3 (Or.inl ⟨?wx3, ?yx3⟩) hS ?rx3
  case hx3 => (simp only [List.getElem?_toArray, List.getElem?_cons_succ, List.getElem?_cons_zero]; rfl)
  case wx3 => rfl
  case qx3 => exact fun _ _ _ h => h
  case yx3 =>
    intro w' hSw
    try dsimp only at hSw
    go_simp
    with_reducible rfl
  try simp only [Act.put, List.setIfInBounds_toArray, List.set_cons_zero, List.set_cons_succ]
  refine wpAnyH_take (i := 4) (oi := ?ox4) (v := ?vx4) ?hx4 (by kernel_rfl) (by kernel_rfl) (by kernel_rfl) ?qx4 (Or.inl ⟨?wx4, ?yx4⟩) hS ?rx4
  case hx4 => (simp only [List.getElem?_toArray, List.getElem?_cons_succ, List.getElem?_cons_zero]; rfl)
  case wx4 => rfl
  case qx4 => exact fun _ _ _ h => h
  case yx4 =>
    intro w' hSw
    try dsimp only at hSw
    go_simp
    with_reducible rfl
  try simp only [Act.put, List.setIfInBounds_toArray, List.set_cons_zero, List.set_cons_succ]
  refine wpAnyH_ready (rs := [2]) (by kernel_rfl) (by simp) ?_
  refine AllReadyH.cons (o := ?ox5) ?hx5 ?kx5 ?mx5
  case hx5 => (simp only [List.getElem?_toArray, List.getElem?_cons_succ, List.getElem?_cons_zero]; rfl)
  case kx5 =>
    intro K hK
    go_simp
    cases T with
    | error n =>
      refine (unhide HC).mono ?_
      rintro e wF ⟨rfl, bF⟩
      refine ⟨rfl, ?_⟩
      rw [unhide HR]
      exact ⟨rfl, (unhide HB2).trans (((unhide R0).trans (bF.mono (unhide R0).size)).mono hgw)⟩
    | ok t =>
      refine (unhide HC).mono ?_
      rintro e wF ⟨rfl, bF⟩
      have BF := hide ((unhide R0).trans (bF.mono (unhide R0).size))
      clear bF
      refine hK.out _ _ (unhide SV _ (unhide BF)) (fun hS => ?_)
      clear hK K
      try simp only [Act.put, List.setIfInBounds_toArray, List.set_cons_zero, List.set_cons_succ]
      refine wpAnyH_take (i := 5) (oi := ?ox6) (v := ?vx6) ?hx6 (by kernel_rfl) (by kernel_rfl) (by kernel_rfl) ?qx6 (Or.inl ⟨?wx6, ?yx6⟩) hS ?rx6
      case hx6 => (simp only [List.getElem?_toArray, List.getElem?_cons_succ, List.getElem?_cons_zero]; rfl)
      case wx6 => rfl
      case qx6 => exact fun _ _ _ h => h
      case yx6 =>
        intro w' hSw
        try dsimp only at hSw
        go_simp
        with_reducible rfl
      try simp only [Act.put, List.setIfInBounds_toArray, List.set_cons_zero, List.set_cons_succ]
      refine wpAnyH_take (i := 6) (oi := ?ox7) (v := ?vx7) ?hx7 (by kernel_rfl) (by kernel_rfl) (by kernel_rfl) ?qx7 (Or.inl ⟨?wx7, ?yx7⟩) hS ?rx7
      case hx7 => (simp only [List.getElem?_toArray, List.getElem?_cons_succ, List.getElem?_cons_zero]; rfl)
      case wx7 => rfl
      case qx7 => exact fun _ _ _ h => h
      case yx7 =>
        intro w' hSw
        try dsimp only at hSw
        go_simp
        with_reducible rfl
      try simp only [Act.put, List.setIfInBounds_toArray, List.set_cons_zero, List.set_cons_succ]
      refine wpAnyH_done (by kernel_rfl) ?_ _
      clear hS
      go_wp2
      go_ret
      refine ⟨?_, (unhide HB2).trans ((unhide BF).mono hgw)⟩
      rw [unhide HR]
      rfl
  exact AllReadyH.nil
end Go.Proofs.YtingpmgpjmlioaaGreatDoor

namespace Go.Proofs.YtingpmgpjmlioaaGreatDoor
open Go.RowKit
set_option linter.unusedVariables false

set_option maxRecDepth 20000 in
theorem catchB_panicking (p : Addr) (x n : Int) (older : List PanicEntry) (w : World) (hc : w.cell? p = some (.int .i64 x)) (hz : w.frozen? p = false) :
    CallsD Tryz.prog 83 #[.pointer (some p)] (.panicking ({ v := .iface 27 (.int .i64 n), recovered := false } :: older)) w fun e u' w' =>
      e = .returned (.tuple #[]) ∧ u' = .panicking ({ v := .iface 27 (.int .i64 n), recovered := true } :: older) ∧ w' = w.setCell p (.int .i64 n) := by
  refine callsD_of_wpS Tryz.func83 rfl fun c₀ cs hu => ?_
  apply wpS_seq
  apply wpS_region
  simp [wpOpsS, go_sem, assert_errno, recoverD, hu, Tryz.ntmps83, Exit.thenS]
  apply wpS_seq
  apply wpS_region
  simp [wpOpsS, go_sem, Exit.thenS]
  refine wpS_cond (t := true) (by simp [Act.eval, Array.replicate]) ?_
  simp only [if_true]
  apply wpS_region
  simp [wpOpsS, go_sem, hc, hz, bodyPostS, results, Tryz.results83]

set_option maxRecDepth 20000 in
theorem catchB_idle (p : Addr) (w : World) :
    CallsD Tryz.prog 83 #[.pointer (some p)] .returning w fun e u' w' => e = .returned (.tuple #[]) ∧ u' = .returning ∧ w' = w := by
  refine callsD_of_wpS Tryz.func83 rfl fun c₀ cs hu => ?_
  apply wpS_seq
  apply wpS_region
  simp [wpOpsS, go_sem, assert_nil, recoverD, hu, Tryz.ntmps83, Exit.thenS]
  apply wpS_seq
  apply wpS_region
  simp [wpOpsS, go_sem, Exit.thenS]
  refine wpS_cond (t := false) (by simp [Act.eval, Array.replicate]) ?_
  simp only [Bool.false_eq_true, if_false]
  refine wpS_of_wp (wp_skip ?_)
  cases c₀
  simp_all [bodyPostS, results, Tryz.results83]

/-- A slot and a cell as results. -/
theorem results_tc {P : Program} {fn : Func} {p u : Tmp} {ty2 : TypeId} (h : fn.results = #[.tmp p, .cell u ty2]) (tmps : Array Value) (w : World) (g2 : Nat) {x y : Value}
    (hp : tmps.getD p undef = y) (hx : tmps.getD u undef = .pointer (some ⟨g2, 0, none⟩)) (hl : (loadVar ty2 ⟨g2, 0, none⟩).run P w = .ok x w) :
    (results fn tmps).run P w = .ok (.tuple #[y, x]) w := by
  have hp' : tmps[p]?.getD undef = y := by rw [← hp]; simp
  have hx' : tmps[u]?.getD undef = .pointer (some ⟨g2, 0, none⟩) := by rw [← hx]; simp
  simp only [results, h]
  simp [Result.andThen, hp', hx', asAddr, hl]

/-- What caught answers. -/
def CaughtB (R : Except Int Bool) (e : Ending) : Prop := match R with
  | .ok b => e = .returned (.tuple #[.bool b, .int .i64 0])
  | .error n => e = .returned (.tuple #[.bool false, .int .i64 n])

set_option maxRecDepth 20000 in
set_option maxHeartbeats 2000000 in
theorem caughtB_any (p1 p2 : Addr) (R : Except Int Bool) (w : World) (hc : ∀ W, Below w.heap.size w W → Calls Tryz.prog 42 #[.pointer (some p1), .pointer (some p2)] W (EndsB W R)) :
    Calls Tryz.prog 41 #[.func (.func 42) #[] #[.pointer (some p1), .pointer (some p2)]] w fun e w' => CaughtB R e ∧ Below w.heap.size w w' := by
  have hmf : ∀ (fn : Fn) (first cap : Array Value) (w : World), (Instr.makeFunc fn first cap).run Tryz.prog w = .ok (.func fn first cap) w := fun _ _ _ _ => rfl
  have hb2 : Below w.heap.size w (w.alloc (.cells #[.int .i64 0] 27)) := (Below.refl _ _).alloc (Nat.le_refl _) _
  have HC := hide (hc _ hb2)
  have hq2 : (w.alloc (.cells #[.int .i64 0] 27)).cell? ⟨w.heap.size, 0, none⟩ = some (.int .i64 0) ∧ (w.alloc (.cells #[.int .i64 0] 27)).frozen? ⟨w.heap.size, 0, none⟩ = false := by simp [go_sem]
  have HQ := hide hq2
  have HB2 := hide hb2
  clear hb2 hc hq2
  go_enter_defers Tryz.func41, Tryz.ntmps41
  cases R with
  | error n =>
    go_wp2_with (go_at_call 42; refine (unhide HC).mono ?_; rintro e w3 ⟨rfl, b3⟩; have B3 := hide b3; clear b3)
    have b3 := unhide B3
    have q0 := (b3.cell (p := ⟨w.heap.size, 0, none⟩) (by simp)).trans (unhide HQ).1
    have q1 := (b3.frozen (p := ⟨w.heap.size, 0, none⟩) (by simp)).trans (unhide HQ).2
    refine leaves_cons (f := 83) (args := #[.pointer (some ⟨w.heap.size, 0, none⟩)]) (by simp) (by simp [go_sem]) ?_
    refine (catchB_panicking ⟨w.heap.size, 0, none⟩ 0 n [] w3 q0 q1).mono ?_
    rintro e u' w'' ⟨rfl, rfl, rfl⟩
    have q4 : (w3.setCell ⟨w.heap.size, 0, none⟩ (.int .i64 n)).cell? ⟨w.heap.size, 0, none⟩ = some (.int .i64 n) := World.cell?_setCell_same _ _ _ q0
    refine ⟨.tuple #[.bool false, .int .i64 n], ?_, rfl, ((unhide HB2).trans (b3.mono (unhide HB2).size)).setCell (p := ⟨w.heap.size, 0, none⟩) (Nat.le_refl _) _⟩
    exact results_tc rfl _ _ w.heap.size rfl rfl (load_errno _ _ _ q4)
  | ok t =>
    go_wp2_with (go_at_call 42; refine (unhide HC).mono ?_; rintro e w3 ⟨rfl, b3⟩; have B3 := hide b3; have q0 := (b3.cell (p := ⟨w.heap.size, 0, none⟩) (by simp)).trans (unhide HQ).1; have q1 := (b3.frozen (p := ⟨w.heap.size, 0, none⟩) (by simp)).trans (unhide HQ).2; clear b3)
    refine leaves_cons (f := 83) (args := #[.pointer (some ⟨w.heap.size, 0, none⟩)]) (by simp) (by simp [go_sem]) ?_
    refine (catchB_idle ⟨w.heap.size, 0, none⟩ _).mono ?_
    rintro e u' w'' ⟨rfl, rfl, rfl⟩
    have b3 := unhide B3
    refine ⟨.tuple #[.bool t, .int .i64 0], ?_, rfl, ?_⟩
    · exact results_tc rfl _ _ w.heap.size rfl rfl (load_errno _ _ _ (World.cell?_setCell_same _ _ _ q0))
    · exact ((unhide HB2).trans (b3.mono (unhide HB2).size)).setCell (p := ⟨w.heap.size, 0, none⟩) (Nat.le_refl _) _

set_option maxRecDepth 20000 in
set_option maxHeartbeats 2000000 in
theorem holdsC1_any (p q : Nat) (S : Sc) (d : Cd) (a : Option Addr) (c : Nat) (a' : Option Addr) (c' : Nat) (w : World) (hs : SBox w p S) (hx : CBox w q d a c a' c') (hA : ExAt w d.A a c) (hB : ExAt w d.B a' c') (hS : S.at w) (hva : Vars w) :
    Calls Tryz.prog 42 #[.pointer (some ⟨p, 0, none⟩), .pointer (some ⟨q, 0, none⟩)] w (EndsB w (holdsR S d)) := by
  have HC := hide (holds_any S d a c a' c' w hA hB hS hva)
  obtain ⟨s0, s1, s2, s3, sf⟩ := hs.cells
  obtain ⟨⟨k0, k1⟩, ⟨x0, x1, x2, x3⟩, y0, y1, y2, y3⟩ := hx.cells
  obtain ⟨R, hR⟩ : ∃ R, R = holdsR S d := ⟨_, rfl⟩
  rw [← hR] at HC ⊢
  clear hs hx hA hB hS hva hR
  obtain ⟨st, sl, gl, sa, sc, ga, gc, mp⟩ := S
  obtain ⟨kd, ng, A, B⟩ := d
  simp only at s0 s1 s2 s3 k0 k1 x0 x1 x2 x3 y0 y1 y2 y3
  go_enter Tryz.func42, Tryz.ntmps42
  cases R with
  | error n =>
    go_wp2_with (go_at_call 43; refine (unhide HC).mono ?_; rintro e w5 ⟨rfl, b5⟩; have BE := hide b5; clear b5)
    exact ⟨rfl, rfl, unhide BE⟩
  | ok t =>
    go_wp2_with (go_at_call 43; refine (unhide HC).mono ?_; rintro e w5 ⟨rfl, b5⟩; have BE := hide b5; clear b5)
    go_ret
    exact ⟨rfl, unhide BE⟩
end Go.Proofs.YtingpmgpjmlioaaGreatDoor

namespace Go.Proofs.YtingpmgpjmlioaaGreatDoor
open Go.RowKit
set_option linter.unusedVariables false

/-- What Holds is. -/
def holdsE (st : List UInt8) (l m : List Fld) (d : Cd) : Except Int Bool := holdsR ⟨st, l, m, none, 0, none, 0, 0⟩ d
theorem holdsR_same (st : List UInt8) (l m : List Fld) (la : Option Addr) (lc : Nat) (ma : Option Addr) (mc mp : Nat) (d : Cd) : holdsR ⟨st, l, m, la, lc, ma, mc, mp⟩ d = holdsE st l m d := by
  unfold holdsE holdsR isSoR
  rw [evalA_same st l m la lc ma mc mp d.A, evalA_same st l m la lc ma mc mp d.B, evalA_same st l m none 0 none 0 0 d.A, evalA_same st l m none 0 none 0 0 d.B]
  unfold hasR
  simp only

set_option maxRecDepth 20000 in
set_option maxHeartbeats 4000000 in
theorem Holds_any (st : List UInt8) (l m : List Fld) (la : Option Addr) (lc : Nat) (ma : Option Addr) (mc : Nat) (d : Cd) (a : Option Addr) (c : Nat) (a' : Option Addr) (c' : Nat) (w : World) (hA : ExAt w d.A a c) (hB : ExAt w d.B a' c') (hl : FdL w (.slice la l.length lc) l) (hm : FdL w (.slice ma m.length mc) m) (hst : st.length ≤ 140737488355328) (hfs : ∀ f ∈ l, small f) (hfg : ∀ f ∈ m, small f) (hva : Vars w) :
    Calls Tryz.prog 15 #[.agg (cdV d a c a' c'), sv st, .slice la l.length lc, .slice ma m.length mc] w fun e w' => CaughtB (holdsE st l m d) e ∧ Below w.heap.size w w' := by
  have hmf : ∀ (fn : Fn) (first cap : Array Value) (w : World), (Instr.makeFunc fn first cap).run Tryz.prog w = .ok (.func fn first cap) w := fun _ _ _ _ => rfl
  have hb2 : Below w.heap.size w (w.alloc (.cells (cdV d a c a' c') 46)) := (Below.refl _ _).alloc (Nat.le_refl _) _
  have hx2 : CBox (w.alloc (.cells (cdV d a c a' c') 46)) w.heap.size d a c a' c' := heap_alloc_new _ _
  obtain ⟨w2, hw2⟩ : ∃ w2, w2 = w.alloc (.cells (cdV d a c a' c') 46) := ⟨_, rfl⟩
  rw [← hw2] at hb2 hx2
  have HW := hide hw2
  have HB2 := hide hb2
  have HX2 := hide hx2
  have HA := hide (hA.grown hb2)
  have HBx := hide (hB.grown hb2)
  have HL := hide (hl.below hb2 (Nat.le_refl _))
  have HM := hide (hm.below hb2 (Nat.le_refl _))
  have HVA := hide (hva.below hb2 (Nat.le_refl _))
  have HN := hide (newScope_any st l m la lc ma mc w2)
  have HST := hide (And.intro hst (And.intro hfs hfg))
  obtain ⟨R, hR⟩ : ∃ R, R = holdsE st l m d := ⟨_, rfl⟩
  rw [← hR]
  have HR := hide hR
  clear hR hw2 hb2 hx2 hA hB hl hm hva hst hfs hfg
  obtain ⟨kd, ng, A, B⟩ := d
  go_enter Tryz.func15, Tryz.ntmps15
  go_upto_region 1 with fail
  rw [show w.alloc (.cells #[Value.int IntKind.i64 kd, .bool ng, .int .i64 A.kind, .int .i64 A.n, sv A.s, .slice a A.args.length c, .int .i64 B.kind, .int .i64 B.n, sv B.s, .slice a' B.args.length c'] 46) = w2 from (unhide HW).symm]
  go_wp2_with fail
  refine (unhide HN).mono ?_
  rintro e w3 ⟨mp, rfl, hpm, b3⟩
  have HPM := hide hpm
  have HB3 := hide b3
  clear hpm b3
  go_upto_region 2 with fail
  have hb4 : Below w3.heap.size w3 (w3.alloc (.cells (scv ⟨st, l, m, la, lc, ma, mc, mp⟩) 82)) := (Below.refl _ _).alloc (Nat.le_refl _) _
  have hs4 := SBox.new w3 ⟨st, l, m, la, lc, ma, mc, mp⟩
  obtain ⟨w4, hw4⟩ : ∃ w4, w4 = w3.alloc (.cells (scv ⟨st, l, m, la, lc, ma, mc, mp⟩) 82) := ⟨_, rfl⟩
  rw [show w3.alloc (.cells #[Value.string ⟨st.toArray⟩, .slice la l.length lc, .slice ma m.length mc, .map (some mp)] 82) = w4 from hw4.symm]
  rw [← hw4] at hb4 hs4
  have b24 := (unhide HB3).trans (hb4.mono (unhide HB3).size)
  have hsat : Sc.at ⟨st, l, m, la, lc, ma, mc, mp⟩ w4 := ⟨(unhide HL).below b24 (Nat.le_refl _), (unhide HM).below b24 (Nat.le_refl _), (unhide HPM).grown hb4, (unhide HST).1, (unhide HST).2.1, (unhide HST).2.2⟩
  have hx4 := (unhide HX2).below b24 (Nat.le_refl _)
  have hA4 := (unhide HA).grown b24
  have hB4 := (unhide HBx).grown b24
  have hva4 := (unhide HVA).below b24 (Nat.le_refl _)
  have HC := hide (caughtB_any ⟨w3.heap.size, 0, none⟩ ⟨w.heap.size, 0, none⟩ (holdsE st l m ⟨kd, ng, A, B⟩) w4 (fun W hW => by
    rw [← holdsR_same st l m la lc ma mc mp ⟨kd, ng, A, B⟩]
    exact holdsC1_any _ _ ⟨st, l, m, la, lc, ma, mc, mp⟩ ⟨kd, ng, A, B⟩ a c a' c' W (hs4.below hW (Nat.le_refl _)) (hx4.below hW (Nat.le_refl _)) (hA4.grown hW) (hB4.grown hW) (hsat.grown hW) (hva4.below hW (Nat.le_refl _))))
  have HBE := hide ((unhide HB2).trans (b24.mono (unhide HB2).size))
  have hgw : w.heap.size ≤ w4.heap.size := (unhide HBE).size
  obtain ⟨g3, hg3⟩ : ∃ g3, g3 = w3.heap.size := ⟨_, rfl⟩
  rw [← unhide HR] at HC
  rw [← hg3] at HC ⊢
  clear hb4 hs4 hw4 b24 hsat hx4 hA4 hB4 hva4 hg3
  cases R with
  | error n =>
    go_wp2_with (go_at_call 41; refine (unhide HC).mono ?_; rintro e w6 ⟨rfl, b6⟩; have BE := hide ((unhide HBE).trans (b6.mono hgw)); clear b6)
    go_ret2
    exact ⟨rfl, unhide BE⟩
  | ok t =>
    go_wp2_with (go_at_call 41; refine (unhide HC).mono ?_; rintro e w6 ⟨rfl, b6⟩; have BE := hide ((unhide HBE).trans (b6.mono hgw)); clear b6)
    go_ret2
    exact ⟨rfl, unhide BE⟩
end Go.Proofs.YtingpmgpjmlioaaGreatDoor
