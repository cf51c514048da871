/-
  DERIVED. The walks of namesField, of compare and of what it calls.
-/
import Derived.Test.YtingpmgpjmlioaaGreatDoorRuD
import Derived.Lib.Bytealg
import Derived.Lib.Walk
namespace Go.Proofs.YtingpmgpjmlioaaGreatDoor
open Go.RowKit
set_option linter.unusedVariables false

/-- An expression names a field. -/
def nmsX (x : Ex) : Bool := x.kind == 3 || x.kind == 4
theorem namesField_any (x : Ex) (a : Option Addr) (c : Nat) (w : World) : Calls Tryz.prog 64 #[.agg (exV x a c)] w fun e w' => e = .returned (.bool (nmsX x)) ∧ Below w.heap.size w w' := by
  have hb1 : Below w.heap.size w (w.alloc (.cells (exV x a c) 44)) := (Below.refl _ _).alloc (Nat.le_refl _) _
  have hx1 : XBox (w.alloc (.cells (exV x a c) 44)) w.heap.size x a c := heap_alloc_new _ _
  obtain ⟨x0, x1, x2, x3, xf⟩ := hx1.cells
  have HB := hide hb1
  have HN : Hid (nmsX x = (x.kind == 3 || x.kind == 4)) := hide rfl
  clear hb1 hx1
  cases h3 : (x.kind == 3) with
  | true =>
    rw [h3] at HN
    go_enter Tryz.func64, Tryz.ntmps64
    go_wp2
    go_ret
    exact ⟨by rw [unhide HN]; rfl, unhide HB⟩
  | false =>
    rw [h3] at HN
    cases h4 : (x.kind == 4) with
    | true =>
      rw [h4] at HN
      go_enter Tryz.func64, Tryz.ntmps64
      go_wp2
      go_ret
      exact ⟨by rw [unhide HN]; rfl, unhide HB⟩
    | false =>
      rw [h4] at HN
      go_enter Tryz.func64, Tryz.ntmps64
      go_wp2
      go_ret
      exact ⟨by rw [unhide HN]; rfl, unhide HB⟩

theorem isNaN_any (n : Int) (w : World) : Calls Tryz.prog 119 #[.int .i64 n] w fun e w' => e = .returned (.bool false) ∧ w' = w := by
  have h : (n != n) = false := by simp
  go_enter Tryz.func119, Tryz.ntmps119
  go_wp2
  go_ret
  exact ⟨by simp, rfl⟩

def cmpZ (a b : Int) : Int := if a < b then -1 else if b < a then 1 else 0
theorem cmpCompare_any (a b : Int) (w : World) : Calls Tryz.prog 116 #[.int .i64 a, .int .i64 b] w fun e w' => e = .returned (.int .i64 (cmpZ a b)) ∧ w' = w := by
  by_cases h1 : a < b
  · go_enter Tryz.func116, Tryz.ntmps116
    go_wp2_with (go_at_call 119; refine (isNaN_any _ _).mono ?_; rintro e w' ⟨rfl, rfl⟩)
    go_ret
    exact ⟨by simp [cmpZ, h1], rfl⟩
  · by_cases h2 : b < a
    · go_enter Tryz.func116, Tryz.ntmps116
      go_wp2_with (go_at_call 119; refine (isNaN_any _ _).mono ?_; rintro e w' ⟨rfl, rfl⟩)
      go_ret
      exact ⟨by simp [cmpZ, h1, h2], rfl⟩
    · go_enter Tryz.func116, Tryz.ntmps116
      go_wp2_with (go_at_call 119; refine (isNaN_any _ _).mono ?_; rintro e w' ⟨rfl, rfl⟩)
      go_ret
      exact ⟨by rw [show cmpZ a b = 0 by unfold cmpZ; rw [if_neg (by omega), if_neg (by omega)]]; rfl, rfl⟩

set_option maxRecDepth 100000 in
theorem CompareString_any (a b : List UInt8) (w : World) : Calls Tryz.prog 120 #[sv a, sv b] w fun e w' => e = .returned (.int .i64 (Lib.compareBytes a b)) ∧ w' = w := by
  go_enter Tryz.func120, Tryz.ntmps120
  go_wp2
  rw [run_callFunc_extern Tryz.func125 (by kernel_rfl) (by kernel_rfl) (by kernel_rfl) (e := Extern.BytealgCompare.compare) (by kernel_rfl), Lib.run_compareString]
  simp only [Result.andThen]
  rw [Oper.upon_value]
  go_wp2
  go_ret
  exact ⟨rfl, rfl⟩
theorem stringsCompare_any (a b : List UInt8) (w : World) : Calls Tryz.prog 117 #[sv a, sv b] w fun e w' => e = .returned (.int .i64 (Lib.compareBytes a b)) ∧ w' = w := by
  go_enter Tryz.func117, Tryz.ntmps117
  go_wp2_with (go_at_call 120; refine (CompareString_any _ _ _).mono ?_; rintro e w' ⟨rfl, rfl⟩)
  go_ret
  exact ⟨rfl, rfl⟩

/-- Two values held against each other. -/
def cmpR (k : Int) (a b : Fld) : Except Int Bool :=
  if k = 1 then .ok (decide (a = b))
  else if a.text != b.text then .error 134
  else .ok (if k = 2 then decide ((if a.text then Lib.compareBytes a.s b.s else cmpZ a.n b.n) < 0) else decide ((if a.text then Lib.compareBytes a.s b.s else cmpZ a.n b.n) ≤ 0))
/-- What a test comes to: true or false, or it gives up. -/
def EndsB (w : World) (r : Except Int Bool) (e : Ending) (w' : World) : Prop :=
  (match r with
    | .ok b => e = .returned (.bool b)
    | .error n => e = pan n) ∧ Below w.heap.size w w'

set_option maxRecDepth 20000 in
set_option maxHeartbeats 2000000 in
theorem compare_any (k : Int) (a b : Fld) (w : World) : Calls Tryz.prog 113 #[.int .i64 k, .agg (fv a), .agg (fv b)] w (EndsB w (cmpR k a b)) := by
  have hb2 : Below w.heap.size w ((w.alloc (.cells (fv a) 48)).alloc (.cells (fv b) 48)) := ((Below.refl _ _).alloc (Nat.le_refl _) _).alloc (by simp) _
  have h1 : FBox ((w.alloc (.cells (fv a) 48)).alloc (.cells (fv b) 48)) w.heap.size a := (FBox.new w a).below ((Below.refl _ _).alloc (Nat.le_refl _) _) (Nat.le_refl _)
  have h2 : FBox ((w.alloc (.cells (fv a) 48)).alloc (.cells (fv b) 48)) (w.heap.size + 1) b := by
    have := FBox.new (w.alloc (.cells (fv a) 48)) b
    rw [show (w.alloc (.cells (fv a) 48)).heap.size = w.heap.size + 1 by simp] at this
    exact this
  obtain ⟨w2, hw2⟩ : ∃ w2, w2 = (w.alloc (.cells (fv a) 48)).alloc (.cells (fv b) 48) := ⟨_, rfl⟩
  rw [← hw2] at hb2 h1 h2
  have HW := hide hw2
  have HB := hide hb2
  obtain ⟨a0, a1, a2, a3, af⟩ := h1.cells
  obtain ⟨b0, b1, b2, b3, bf⟩ := h2.cells
  clear hw2 hb2 h1 h2
  by_cases hk : k = 1
  · subst hk
    obtain ⟨R, hR⟩ : ∃ R, R = cmpR 1 a b := ⟨_, rfl⟩
    rw [← hR]
    have HR : Hid (R = .ok (decide (a = b))) := hide (by rw [hR]; rfl)
    clear hR
    obtain ⟨an, at_, ai, az⟩ := a
    obtain ⟨bn, bt, bi, bz⟩ := b
    simp only at a0 a1 a2 a3 b0 b1 b2 b3
    go_enter Tryz.func113, Tryz.ntmps113
    go_upto_region 1 with fail
    rw [show (w.alloc (.cells #[sv an, .bool at_, .int .i64 ai, sv az] 48)).alloc (.cells #[sv bn, .bool bt, .int .i64 bi, sv bz] 48) = w2 from (unhide HW).symm]
    go_wp2
    all_goals go_ret
    all_goals refine ⟨?_, unhide HB⟩
    all_goals rw [unhide HR]
    all_goals simp_all
  · obtain ⟨R, hR⟩ : ∃ R, R = cmpR k a b := ⟨_, rfl⟩
    rw [← hR]
    have HR : Hid (R = if a.text != b.text then .error 134 else .ok (if k = 2 then decide ((if a.text then Lib.compareBytes a.s b.s else cmpZ a.n b.n) < 0) else decide ((if a.text then Lib.compareBytes a.s b.s else cmpZ a.n b.n) ≤ 0))) := hide (by rw [hR]; unfold cmpR; rw [if_neg hk])
    clear hR
    obtain ⟨an, at_, ai, az⟩ := a
    obtain ⟨bn, bt, bi, bz⟩ := b
    simp only at a0 a1 a2 a3 b0 b1 b2 b3 HR
    obtain ⟨CZ, hCZ⟩ : ∃ CZ, CZ = cmpZ ai bi := ⟨_, rfl⟩
    obtain ⟨CB, hCB⟩ : ∃ CB, CB = Lib.compareBytes az bz := ⟨_, rfl⟩
    rw [← hCZ, ← hCB] at HR
    have C1 : Hid (∀ W, Calls Tryz.prog 116 #[.int .i64 ai, .int .i64 bi] W fun e w' => e = .returned (.int .i64 CZ) ∧ w' = W) := hide (by rw [hCZ]; exact cmpCompare_any ai bi)
    have C2 : Hid (∀ W, Calls Tryz.prog 117 #[sv az, sv bz] W fun e w' => e = .returned (.int .i64 CB) ∧ w' = W) := hide (by rw [hCB]; exact stringsCompare_any az bz)
    clear hCZ hCB
    go_enter Tryz.func113, Tryz.ntmps113
    go_upto_region 1 with fail
    rw [show (w.alloc (.cells #[sv an, .bool at_, .int .i64 ai, sv az] 48)).alloc (.cells #[sv bn, .bool bt, .int .i64 bi, sv bz] 48) = w2 from (unhide HW).symm]
    cases at_ <;> cases bt
    · go_wp2_with (go_at_call 116; refine (unhide C1 _).mono ?_; rintro e w' ⟨rfl, rfl⟩)
      all_goals go_ret
      all_goals refine ⟨?_, unhide HB⟩
      all_goals rw [unhide HR]
      all_goals simp_all
    · go_wp2
      refine ⟨rfl, ?_⟩
      rw [unhide HR]
      exact ⟨rfl, unhide HB⟩
    · go_wp2
      refine ⟨rfl, ?_⟩
      rw [unhide HR]
      exact ⟨rfl, unhide HB⟩
    · go_wp2_with (first | (go_at_call 116; refine (unhide C1 _).mono ?_; rintro e w' ⟨rfl, rfl⟩) | (go_at_call 117; refine (unhide C2 _).mono ?_; rintro e w' ⟨rfl, rfl⟩))
      all_goals go_ret
      all_goals refine ⟨?_, unhide HB⟩
      all_goals rw [unhide HR]
      all_goals simp_all
end Go.Proofs.YtingpmgpjmlioaaGreatDoor

namespace Go.Proofs.YtingpmgpjmlioaaGreatDoor
open Go.RowKit
set_option linter.unusedVariables false

def hasR (S : Sc) (x : Ex) : Except Int Bool := if nmsX x then .ok (hasF (if x.kind = 3 then S.state else S.given) x.s) else .error 132

set_option maxRecDepth 20000 in
set_option maxHeartbeats 4000000 in
theorem has_any (S : Sc) (x : Ex) (a : Option Addr) (c : Nat) (w : World) (hS : S.at w) : Calls Tryz.prog 112 #[.agg (scv S), .agg (exV x a c)] w (EndsB w (hasR S x)) := by
  have hb2 : Below w.heap.size w ((w.alloc (.cells (scv S) 82)).alloc (.cells (exV x a c) 44)) := ((Below.refl _ _).alloc (Nat.le_refl _) _).alloc (by simp) _
  have hs2 : SBox ((w.alloc (.cells (scv S) 82)).alloc (.cells (exV x a c) 44)) w.heap.size S := (SBox.new w S).below ((Below.refl _ _).alloc (Nat.le_refl _) _) (Nat.le_refl _)
  have hx2 : XBox ((w.alloc (.cells (scv S) 82)).alloc (.cells (exV x a c) 44)) (w.heap.size + 1) x a c := by
    have : XBox ((w.alloc (.cells (scv S) 82)).alloc (.cells (exV x a c) 44)) (w.alloc (.cells (scv S) 82)).heap.size x a c := heap_alloc_new _ _
    rw [show (w.alloc (.cells (scv S) 82)).heap.size = w.heap.size + 1 by simp] at this
    exact this
  obtain ⟨w2, hw2⟩ : ∃ w2, w2 = (w.alloc (.cells (scv S) 82)).alloc (.cells (exV x a c) 44) := ⟨_, rfl⟩
  rw [← hw2] at hb2 hs2 hx2
  have HW := hide hw2
  have HB2 := hide hb2
  have HS2 := hide hs2
  have HX2 := hide hx2
  have HN := hide (namesField_any x a c w2)
  obtain ⟨la, l, lc, hFO, hFd, hl⟩ : ∃ (la : Option Addr) (l : List Fld) (lc : Nat), (∀ W, Calls Tryz.prog 106 #[.agg (scv S), .agg (exV x a c)] W fun e w' => e = .returned (.slice la l.length lc) ∧ Below W.heap.size W w') ∧ FdL w2 (.slice la l.length lc) l ∧ l = (if x.kind = 3 then S.state else S.given) := by
    by_cases hk : x.kind = 3
    · refine ⟨S.sa, S.state, S.sc, fun W => ?_, hS.st.below hb2 (Nat.le_refl _), by rw [if_pos hk]⟩
      have := fieldsOf_any S ⟨x, a, c⟩ W
      simp only at this
      rw [if_pos hk] at this
      exact this
    · refine ⟨S.ga, S.given, S.gc, fun W => ?_, hS.gv.below hb2 (Nat.le_refl _), by rw [if_neg hk]⟩
      have := fieldsOf_any S ⟨x, a, c⟩ W
      simp only at this
      rw [if_neg hk] at this
      exact this
  have HFO := hide hFO
  have HG0 : Hid (∀ W, Below w2.heap.size w2 W → Calls Tryz.prog 78 #[.slice la l.length lc, sv x.s] W fun e w' => e = .returned (.tuple #[.agg (fv (getA l x.s)), .bool (hasF l x.s)]) ∧ Below W.heap.size W w') := hide (fun W hW => Get_any la _ lc l x.s W (hFd.below hW (Nat.le_refl _)))
  obtain ⟨R, hR⟩ : ∃ R, R = hasR S x := ⟨_, rfl⟩
  rw [← hR]
  have HX : Hid (R = if nmsX x then .ok (hasF l x.s) else .error 132) := hide (by rw [hR, hl]; rfl)
  obtain ⟨H, hH⟩ : ∃ H, H = hasF l x.s := ⟨_, rfl⟩
  obtain ⟨⟨gn, gt, gi, gz⟩, hGG⟩ : ∃ G, G = getA l x.s := ⟨_, rfl⟩
  obtain ⟨NM, hNM⟩ : ∃ NM, NM = nmsX x := ⟨_, rfl⟩
  rw [← hH, ← hGG] at HG0
  rw [← hH, ← hNM] at HX
  rw [← hNM] at HN
  obtain ⟨p, hp⟩ : ∃ p, p = w.heap.size := ⟨_, rfl⟩
  obtain ⟨q, hq⟩ : ∃ q, q = w.heap.size + 1 := ⟨_, rfl⟩
  rw [← hp] at HS2
  rw [← hq] at HX2
  have HPQ := hide (And.intro hp hq)
  clear hw2 hb2 hs2 hx2 hS hR hH hGG hNM hFO hFd hl hp hq
  obtain ⟨x0, x1, x2, x3, xf⟩ := (unhide HX2).cells
  obtain ⟨st, sl, gl, sa, sc, ga, gc, mp⟩ := S
  go_enter Tryz.func112, Tryz.ntmps112
  go_upto_region 1 with fail
  rw [show (w.alloc (.cells #[sv st, .slice sa sl.length sc, .slice ga gl.length gc, .map (some mp)] 82)).alloc (.cells #[Value.int IntKind.i64 x.kind, .int .i64 x.n, sv x.s, .slice a x.args.length c] 44) = w2 from (unhide HW).symm]
  rw [← (unhide HPQ).2, ← (unhide HPQ).1]
  cases NM with
  | false =>
    go_wp2_with (go_at_call 64; refine (unhide HN).mono ?_; rintro e w4 ⟨rfl, b4⟩; have BE := hide ((unhide HB2).trans (b4.mono (unhide HB2).size)); clear b4)
    refine ⟨rfl, ?_⟩
    rw [unhide HX]
    exact ⟨rfl, unhide BE⟩
  | true =>
    go_wp2_with fail
    refine (unhide HN).mono ?_
    rintro e wr ⟨rfl, b4⟩
    have HBE := hide ((unhide HB2).trans (b4.mono (unhide HB2).size))
    have hgw : w.heap.size ≤ wr.heap.size := (unhide HBE).size
    have HG : Hid (∀ W, Below wr.heap.size wr W → Calls Tryz.prog 78 #[.slice la l.length lc, sv x.s] W fun e w' => e = .returned (.tuple #[.agg (fv ⟨gn, gt, gi, gz⟩), .bool H]) ∧ Below W.heap.size W w') := hide (fun W hW => unhide HG0 W (b4.trans (hW.mono b4.size)))
    have hs4 := (unhide HS2).below b4 (Nat.le_refl _)
    have hx4 := (unhide HX2).below b4 (Nat.le_refl _)
    have SV : Hid (∀ W, Below wr.heap.size wr W → (W.cell? ⟨p, 0, none⟩ = some (sv st) ∧ W.cell? ⟨p, 1, none⟩ = some (.slice sa sl.length sc) ∧ W.cell? ⟨p, 2, none⟩ = some (.slice ga gl.length gc) ∧ W.cell? ⟨p, 3, none⟩ = some (.map (some mp))) ∧ (W.cell? ⟨q, 0, none⟩ = some (.int .i64 x.kind) ∧ W.cell? ⟨q, 1, none⟩ = some (.int .i64 x.n) ∧ W.cell? ⟨q, 2, none⟩ = some (sv x.s) ∧ W.cell? ⟨q, 3, none⟩ = some (.slice a x.args.length c))) := hide (fun W hW => by
      obtain ⟨s0, s1, s2, s3, _⟩ := (hs4.below hW (Nat.le_refl _)).cells
      obtain ⟨x0, x1, x2, x3, _⟩ := (hx4.below hW (Nat.le_refl _)).cells
      exact ⟨⟨s0, s1, s2, s3⟩, x0, x1, x2, x3⟩)
    have R0 : Hid (Below wr.heap.size wr wr.drew) := hide (Below.refl _ _).drew
    clear b4 hs4 hx4 x0 x1 x2 x3 xf
    go_upto_region 3 with fail
    refine wp_region_held_drew (S := fun w' => (w'.cell? ⟨p, 0, none⟩ = some (sv st) ∧ w'.cell? ⟨p, 1, none⟩ = some (.slice sa sl.length sc) ∧ w'.cell? ⟨p, 2, none⟩ = some (.slice ga gl.length gc) ∧ w'.cell? ⟨p, 3, none⟩ = some (.map (some mp))) ∧ (w'.cell? ⟨q, 0, none⟩ = some (.int .i64 x.kind) ∧ w'.cell? ⟨q, 1, none⟩ = some (.int .i64 x.n) ∧ w'.cell? ⟨q, 2, none⟩ = some (sv x.s) ∧ w'.cell? ⟨q, 3, none⟩ = some (.slice a x.args.length c))) (by kernel_rfl) (unhide SV _ (unhide R0)) (fun hS => ?_)
    refine wpAnyH_take (i := 0) (oi := ?ox1) (v := ?vx1) ?hx1 (by kernel_rfl) (by kernel_rfl) (by kernel_rfl) ?qx1 (Or.inl ⟨?wx1, ?yx1⟩) hS ?rx1
    case hx1 => (simp only [List.getElem?_toArray, List.getElem?_cons_zero]; rfl)
    case wx1 => rfl
    case qx1 => exact fun _ _ _ h => h
    case yx1 =>
      intro w' hSw
      try dsimp only at hSw
      go_simp
      with_reducible rfl
    try simp only [Act.put, List.setIfInBounds_toArray, List.set_cons_zero, List.set_cons_succ]
    refine wpAnyH_take (i := 1) (oi := ?ox2) (v := ?vx2) ?hx2 (by kernel_rfl) (by kernel_rfl) (by kernel_rfl) ?qx2 (Or.inl ⟨?wx2, ?yx2⟩) hS ?rx2
    case hx2 => (simp only [List.getElem?_toArray, List.getElem?_cons_succ, List.getElem?_cons_zero]; rfl)
    case wx2 => rfl
    case qx2 => exact fun _ _ _ h => h
    case yx2 =>
      intro w' hSw
      try dsimp only at hSw
      go_simp
      with_reducible rfl
    try simp only [Act.put, List.setIfInBounds_toArray, List.set_cons_zero, List.set_cons_succ]
    refine wpAnyH_take (i := 3) (oi := ?ox3) (v := ?vx3) ?hx3 (by kernel_rfl) (by kernel_rfl) (by kernel_rfl) ?qx3 (Or.inl ⟨?wx3, ?yx3⟩) hS ?rx3
    case hx3 => (simp only [List.getElem?_toArray, List.getElem?_cons_succ, List.getElem?_cons_zero]; rfl)
    case wx3 => rfl
    case qx3 => exact fun _ _ _ h => h
    case yx3 =>
      intro w' hSw
      try dsimp only at hSw
      go_simp
      with_reducible rfl
    try simp only [Act.put, List.setIfInBounds_toArray, List.set_cons_zero, List.set_cons_succ]
    refine wpAnyH_take (i := 4) (oi := ?ox4) (v := ?vx4) ?hx4 (by kernel_rfl) (by kernel_rfl) (by kernel_rfl) ?qx4 (Or.inl ⟨?wx4, ?yx4⟩) hS ?rx4
    case hx4 => (simp only [List.getElem?_toArray, List.getElem?_cons_succ, List.getElem?_cons_zero]; rfl)
    case wx4 => rfl
    case qx4 => exact fun _ _ _ h => h
    case yx4 =>
      intro w' hSw
      try dsimp only at hSw
      go_simp
      with_reducible rfl
    try simp only [Act.put, List.setIfInBounds_toArray, List.set_cons_zero, List.set_cons_succ]
    refine wpAnyH_ready (rs := [2, 9]) (by kernel_rfl) (by simp) ?_
    refine AllReadyH.cons (o := ?ox5) ?hx5 ?kx5 ?mx5
    case hx5 => (simp only [List.getElem?_toArray, List.getElem?_cons_succ, List.getElem?_cons_zero]; rfl)
    case kx5 =>
      intro K hK
      go_simp
      refine (unhide HFO _).mono ?_
      rintro e wF ⟨rfl, bF⟩
      have BF := hide ((unhide R0).trans (bF.mono (unhide R0).size))
      clear bF
      refine hK.out _ _ (unhide SV _ (unhide BF)) (fun hS => ?_)
      clear hK K
      try simp only [Act.put, List.setIfInBounds_toArray, List.set_cons_zero, List.set_cons_succ]
      refine wpAnyH_ready (rs := [5, 9]) (by kernel_rfl) (by simp) ?_
      refine AllReadyH.cons (o := ?ox6) ?hx6 ?kx6 ?mx6
      case hx6 => (simp only [List.getElem?_toArray, List.getElem?_cons_succ, List.getElem?_cons_zero]; rfl)
      case kx6 =>
        intro K hK
        go_simp
        refine (unhide HG _ (unhide BF)).mono ?_
        rintro e wG ⟨rfl, bF⟩
        have BG := hide ((unhide BF).trans (bF.mono (unhide BF).size))
        clear bF
        refine hK.out _ _ (unhide SV _ (unhide BG)) (fun hS => ?_)
        clear hK K
        try simp only [Act.put, List.setIfInBounds_toArray, List.set_cons_zero, List.set_cons_succ]
        refine wpAnyH_take (i := 6) (oi := ?ox7) (v := ?vx7) ?hx7 (by kernel_rfl) (by kernel_rfl) (by kernel_rfl) ?qx7 (Or.inl ⟨?wx7, ?yx7⟩) hS ?rx7
        case hx7 => (simp only [List.getElem?_toArray, List.getElem?_cons_succ, List.getElem?_cons_zero]; rfl)
        case wx7 => rfl
        case qx7 => exact fun _ _ _ h => h
        case yx7 =>
          intro w' hSw
          try dsimp only at hSw
          go_simp
          with_reducible rfl
        try simp only [Act.put, List.setIfInBounds_toArray, List.set_cons_zero, List.set_cons_succ]
        refine wpAnyH_take (i := 7) (oi := ?ox8) (v := ?vx8) ?hx8 (by kernel_rfl) (by kernel_rfl) (by kernel_rfl) ?qx8 (Or.inl ⟨?wx8, ?yx8⟩) hS ?rx8
        case hx8 => (simp only [List.getElem?_toArray, List.getElem?_cons_succ, List.getElem?_cons_zero]; rfl)
        case wx8 => rfl
        case qx8 => exact fun _ _ _ h => h
        case yx8 =>
          intro w' hSw
          try dsimp only at hSw
          go_simp
          with_reducible rfl
        try simp only [Act.put, List.setIfInBounds_toArray, List.set_cons_zero, List.set_cons_succ]
        refine wpAnyH_take (i := 8) (oi := ?ox9) (v := ?vx9) ?hx9 (by kernel_rfl) (by kernel_rfl) (by kernel_rfl) ?qx9 (Or.inl ⟨?wx9, ?yx9⟩) hS ?rx9
        case hx9 => (simp only [List.getElem?_toArray, List.getElem?_cons_succ, List.getElem?_cons_zero]; rfl)
        case wx9 => rfl
        case qx9 => exact fun _ _ _ h => h
        case yx9 =>
          intro w' hSw
          try dsimp only at hSw
          go_simp
          with_reducible rfl
        try simp only [Act.put, List.setIfInBounds_toArray, List.set_cons_zero, List.set_cons_succ]
        refine wpAnyH_ready (rs := [9]) (by kernel_rfl) (by simp) ?_
        refine AllReadyH.cons (o := ?ox10) ?hx10 ?kx10 ?mx10
        case hx10 => (simp only [List.getElem?_toArray, List.getElem?_cons_succ, List.getElem?_cons_zero]; rfl)
        case kx10 =>
          intro K hK
          go_simp
          have HFB : Hid (FBox (wG.alloc (.cells (fv fld0) 48)) wG.heap.size fld0) := hide (FBox.new wG fld0)
          have HGE : Hid (wr.heap.size ≤ wG.heap.size) := hide (unhide BG).size
          have BA := hide ((unhide BG).alloc (unhide BG).size (.cells (fv fld0) 48))
          refine hK.out _ _ (unhide SV _ (unhide BA)) (fun hS => ?_)
          clear hK K
          try simp only [Act.put, List.setIfInBounds_toArray, List.set_cons_zero, List.set_cons_succ]
          refine wpAnyH_ready (rs := [10]) (by kernel_rfl) (by simp) ?_
          refine AllReadyH.cons (o := ?ox11) ?hx11 ?kx11 ?mx11
          case hx11 => (simp only [List.getElem?_toArray, List.getElem?_cons_succ, List.getElem?_cons_zero]; rfl)
          case kx11 =>
            intro K hK
            obtain ⟨r0, r1, r2, r3, rf⟩ := (unhide HFB).cells
            have BE := hide ((unhide BG).alloc (unhide BG).size (.cells (fv ⟨gn, gt, gi, gz⟩) 48))
            go_simp
            refine hK.out _ _ (unhide SV _ (unhide BE)) (fun hS => ?_)
            clear hK K
            try simp only [Act.put, List.setIfInBounds_toArray, List.set_cons_zero, List.set_cons_succ]
            refine wpAnyH_take (i := 11) (oi := ?ox12) (v := ?vx12) ?hx12 (by kernel_rfl) (by kernel_rfl) (by kernel_rfl) ?qx12 (Or.inl ⟨?wx12, ?yx12⟩) hS ?rx12
            case hx12 => (simp only [List.getElem?_toArray, List.getElem?_cons_succ, List.getElem?_cons_zero]; rfl)
            case wx12 => rfl
            case qx12 => exact fun _ _ _ h => h
            case yx12 =>
              intro w' hSw
              try dsimp only at hSw
              go_simp
              with_reducible rfl
            try simp only [Act.put, List.setIfInBounds_toArray, List.set_cons_zero, List.set_cons_succ]
            refine wpAnyH_done (by kernel_rfl) ?_ _
            clear hS
            go_wp2
            go_ret
            exact ⟨by rw [unhide HX]; rfl, (unhide HBE).trans ((unhide BE).mono hgw)⟩
          exact AllReadyH.nil
        exact AllReadyH.nil
      refine AllReadyH.cons (o := ?ox13) ?hx13 ?kx13 ?mx13
      case hx13 => (simp only [List.getElem?_toArray, List.getElem?_cons_succ, List.getElem?_cons_zero]; rfl)
      case kx13 =>
        intro K hK
        go_simp
        have HFB : Hid (FBox (wF.alloc (.cells (fv fld0) 48)) wF.heap.size fld0) := hide (FBox.new wF fld0)
        have HGE : Hid (wr.heap.size ≤ wF.heap.size) := hide (unhide BF).size
        have BA := hide ((unhide BF).alloc (unhide BF).size (.cells (fv fld0) 48))
        refine hK.out _ _ (unhide SV _ (unhide BA)) (fun hS => ?_)
        clear hK K
        try simp only [Act.put, List.setIfInBounds_toArray, List.set_cons_zero, List.set_cons_succ]
        refine wpAnyH_ready (rs := [5]) (by kernel_rfl) (by simp) ?_
        refine AllReadyH.cons (o := ?ox14) ?hx14 ?kx14 ?mx14
        case hx14 => (simp only [List.getElem?_toArray, List.getElem?_cons_succ, List.getElem?_cons_zero]; rfl)
        case kx14 =>
          intro K hK
          go_simp
          refine (unhide HG _ (unhide BA)).mono ?_
          rintro e wG ⟨rfl, bF⟩
          have BG := hide ((unhide BA).trans (bF.mono (unhide BA).size))
          have HFB2 := hide ((unhide HFB).below bF (Nat.le_refl _))
          clear HFB
          have HFB := HFB2
          clear HFB2
          clear bF
          refine hK.out _ _ (unhide SV _ (unhide BG)) (fun hS => ?_)
          clear hK K
          try simp only [Act.put, List.setIfInBounds_toArray, List.set_cons_zero, List.set_cons_succ]
          refine wpAnyH_take (i := 6) (oi := ?ox15) (v := ?vx15) ?hx15 (by kernel_rfl) (by kernel_rfl) (by kernel_rfl) ?qx15 (Or.inl ⟨?wx15, ?yx15⟩) hS ?rx15
          case hx15 => (simp only [List.getElem?_toArray, List.getElem?_cons_succ, List.getElem?_cons_zero]; rfl)
          case wx15 => rfl
          case qx15 => exact fun _ _ _ h => h
          case yx15 =>
            intro w' hSw
            try dsimp only at hSw
            go_simp
            with_reducible rfl
          try simp only [Act.put, List.setIfInBounds_toArray, List.set_cons_zero, List.set_cons_succ]
          refine wpAnyH_take (i := 7) (oi := ?ox16) (v := ?vx16) ?hx16 (by kernel_rfl) (by kernel_rfl) (by kernel_rfl) ?qx16 (Or.inl ⟨?wx16, ?yx16⟩) hS ?rx16
          case hx16 => (simp only [List.getElem?_toArray, List.getElem?_cons_succ, List.getElem?_cons_zero]; rfl)
          case wx16 => rfl
          case qx16 => exact fun _ _ _ h => h
          case yx16 =>
            intro w' hSw
            try dsimp only at hSw
            go_simp
            with_reducible rfl
          try simp only [Act.put, List.setIfInBounds_toArray, List.set_cons_zero, List.set_cons_succ]
          refine wpAnyH_take (i := 8) (oi := ?ox17) (v := ?vx17) ?hx17 (by kernel_rfl) (by kernel_rfl) (by kernel_rfl) ?qx17 (Or.inl ⟨?wx17, ?yx17⟩) hS ?rx17
          case hx17 => (simp only [List.getElem?_toArray, List.getElem?_cons_succ, List.getElem?_cons_zero]; rfl)
          case wx17 => rfl
          case qx17 => exact fun _ _ _ h => h
          case yx17 =>
            intro w' hSw
            try dsimp only at hSw
            go_simp
            with_reducible rfl
          try simp only [Act.put, List.setIfInBounds_toArray, List.set_cons_zero, List.set_cons_succ]
          refine wpAnyH_ready (rs := [10]) (by kernel_rfl) (by simp) ?_
          refine AllReadyH.cons (o := ?ox18) ?hx18 ?kx18 ?mx18
          case hx18 => (simp only [List.getElem?_toArray, List.getElem?_cons_succ, List.getElem?_cons_zero]; rfl)
          case kx18 =>
            intro K hK
            obtain ⟨r0, r1, r2, r3, rf⟩ := (unhide HFB).cells
            have BE := hide (below_put (unhide BG) (unhide HGE) gn gt gi gz)
            go_simp
            refine hK.out _ _ (unhide SV _ (unhide BE)) (fun hS => ?_)
            clear hK K
            try simp only [Act.put, List.setIfInBounds_toArray, List.set_cons_zero, List.set_cons_succ]
            refine wpAnyH_take (i := 11) (oi := ?ox19) (v := ?vx19) ?hx19 (by kernel_rfl) (by kernel_rfl) (by kernel_rfl) ?qx19 (Or.inl ⟨?wx19, ?yx19⟩) hS ?rx19
            case hx19 => (simp only [List.getElem?_toArray, List.getElem?_cons_succ, List.getElem?_cons_zero]; rfl)
            case wx19 => rfl
            case qx19 => exact fun _ _ _ h => h
            case yx19 =>
              intro w' hSw
              try dsimp only at hSw
              go_simp
              with_reducible rfl
            try simp only [Act.put, List.setIfInBounds_toArray, List.set_cons_zero, List.set_cons_succ]
            refine wpAnyH_done (by kernel_rfl) ?_ _
            clear hS
            go_wp2
            go_ret
            exact ⟨by rw [unhide HX]; rfl, (unhide HBE).trans ((unhide BE).mono hgw)⟩
          exact AllReadyH.nil
        exact AllReadyH.nil
      exact AllReadyH.nil
    refine AllReadyH.cons (o := ?ox20) ?hx20 ?kx20 ?mx20
    case hx20 => (simp only [List.getElem?_toArray, List.getElem?_cons_succ, List.getElem?_cons_zero]; rfl)
    case kx20 =>
      intro K hK
      go_simp
      have HFB : Hid (FBox (wr.drew.alloc (.cells (fv fld0) 48)) wr.heap.size fld0) := hide (FBox.new wr.drew fld0)
      have HGE : Hid (wr.heap.size ≤ wr.heap.size) := hide (unhide R0).size
      have BA := hide ((unhide R0).alloc (unhide R0).size (.cells (fv fld0) 48))
      refine hK.out _ _ (unhide SV _ (unhide BA)) (fun hS => ?_)
      clear hK K
      try simp only [Act.put, List.setIfInBounds_toArray, List.set_cons_zero, List.set_cons_succ]
      refine wpAnyH_ready (rs := [2]) (by kernel_rfl) (by simp) ?_
      refine AllReadyH.cons (o := ?ox21) ?hx21 ?kx21 ?mx21
      case hx21 => (simp only [List.getElem?_toArray, List.getElem?_cons_succ, List.getElem?_cons_zero]; rfl)
      case kx21 =>
        intro K hK
        go_simp
        refine (unhide HFO _).mono ?_
        rintro e wF ⟨rfl, bF⟩
        have BF := hide ((unhide BA).trans (bF.mono (unhide BA).size))
        have HFB2 := hide ((unhide HFB).below bF (Nat.le_refl _))
        clear HFB
        have HFB := HFB2
        clear HFB2
        clear bF
        refine hK.out _ _ (unhide SV _ (unhide BF)) (fun hS => ?_)
        clear hK K
        try simp only [Act.put, List.setIfInBounds_toArray, List.set_cons_zero, List.set_cons_succ]
        refine wpAnyH_ready (rs := [5]) (by kernel_rfl) (by simp) ?_
        refine AllReadyH.cons (o := ?ox22) ?hx22 ?kx22 ?mx22
        case hx22 => (simp only [List.getElem?_toArray, List.getElem?_cons_succ, List.getElem?_cons_zero]; rfl)
        case kx22 =>
          intro K hK
          go_simp
          refine (unhide HG _ (unhide BF)).mono ?_
          rintro e wG ⟨rfl, bF⟩
          have BG := hide ((unhide BF).trans (bF.mono (unhide BF).size))
          have HFB2 := hide ((unhide HFB).below bF (Nat.le_refl _))
          clear HFB
          have HFB := HFB2
          clear HFB2
          clear bF
          refine hK.out _ _ (unhide SV _ (unhide BG)) (fun hS => ?_)
          clear hK K
          try simp only [Act.put, List.setIfInBounds_toArray, List.set_cons_zero, List.set_cons_succ]
          refine wpAnyH_take (i := 6) (oi := ?ox23) (v := ?vx23) ?hx23 (by kernel_rfl) (by kernel_rfl) (by kernel_rfl) ?qx23 (Or.inl ⟨?wx23, ?yx23⟩) hS ?rx23
          case hx23 => (simp only [List.getElem?_toArray, List.getElem?_cons_succ, List.getElem?_cons_zero]; rfl)
          case wx23 => rfl
          case qx23 => exact fun _ _ _ h => h
          case yx23 =>
            intro w' hSw
            try dsimp only at hSw
            go_simp
            with_reducible rfl
          try simp only [Act.put, List.setIfInBounds_toArray, List.set_cons_zero, List.set_cons_succ]
          refine wpAnyH_take (i := 7) (oi := ?ox24) (v := ?vx24) ?hx24 (by kernel_rfl) (by kernel_rfl) (by kernel_rfl) ?qx24 (Or.inl ⟨?wx24, ?yx24⟩) hS ?rx24
          case hx24 => (simp only [List.getElem?_toArray, List.getElem?_cons_succ, List.getElem?_cons_zero]; rfl)
          case wx24 => rfl
          case qx24 => exact fun _ _ _ h => h
          case yx24 =>
            intro w' hSw
            try dsimp only at hSw
            go_simp
            with_reducible rfl
          try simp only [Act.put, List.setIfInBounds_toArray, List.set_cons_zero, List.set_cons_succ]
          refine wpAnyH_take (i := 8) (oi := ?ox25) (v := ?vx25) ?hx25 (by kernel_rfl) (by kernel_rfl) (by kernel_rfl) ?qx25 (Or.inl ⟨?wx25, ?yx25⟩) hS ?rx25
          case hx25 => (simp only [List.getElem?_toArray, List.getElem?_cons_succ, List.getElem?_cons_zero]; rfl)
          case wx25 => rfl
          case qx25 => exact fun _ _ _ h => h
          case yx25 =>
            intro w' hSw
            try dsimp only at hSw
            go_simp
            with_reducible rfl
          try simp only [Act.put, List.setIfInBounds_toArray, List.set_cons_zero, List.set_cons_succ]
          refine wpAnyH_ready (rs := [10]) (by kernel_rfl) (by simp) ?_
          refine AllReadyH.cons (o := ?ox26) ?hx26 ?kx26 ?mx26
          case hx26 => (simp only [List.getElem?_toArray, List.getElem?_cons_succ, List.getElem?_cons_zero]; rfl)
          case kx26 =>
            intro K hK
            obtain ⟨r0, r1, r2, r3, rf⟩ := (unhide HFB).cells
            have BE := hide (below_put (unhide BG) (unhide HGE) gn gt gi gz)
            go_simp
            refine hK.out _ _ (unhide SV _ (unhide BE)) (fun hS => ?_)
            clear hK K
            try simp only [Act.put, List.setIfInBounds_toArray, List.set_cons_zero, List.set_cons_succ]
            refine wpAnyH_take (i := 11) (oi := ?ox27) (v := ?vx27) ?hx27 (by kernel_rfl) (by kernel_rfl) (by kernel_rfl) ?qx27 (Or.inl ⟨?wx27, ?yx27⟩) hS ?rx27
            case hx27 => (simp only [List.getElem?_toArray, List.getElem?_cons_succ, List.getElem?_cons_zero]; rfl)
            case wx27 => rfl
            case qx27 => exact fun _ _ _ h => h
            case yx27 =>
              intro w' hSw
              try dsimp only at hSw
              go_simp
              with_reducible rfl
            try simp only [Act.put, List.setIfInBounds_toArray, List.set_cons_zero, List.set_cons_succ]
            refine wpAnyH_done (by kernel_rfl) ?_ _
            clear hS
            go_wp2
            go_ret
            exact ⟨by rw [unhide HX]; rfl, (unhide HBE).trans ((unhide BE).mono hgw)⟩
          exact AllReadyH.nil
        exact AllReadyH.nil
      exact AllReadyH.nil
    exact AllReadyH.nil
end Go.Proofs.YtingpmgpjmlioaaGreatDoor
