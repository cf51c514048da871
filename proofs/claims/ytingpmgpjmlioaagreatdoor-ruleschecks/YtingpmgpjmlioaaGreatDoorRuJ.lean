/-
  DERIVED. The walk of isSo.
-/
import Derived.Test.YtingpmgpjmlioaaGreatDoorRuI
namespace Go.Proofs.YtingpmgpjmlioaaGreatDoor
open Go.RowKit
set_option linter.unusedVariables false

/-- A condition. -/
structure Cd where
  kind : Int
  neg : Bool
  A : Ex
  B : Ex
/-- A condition as a row of cells; the places of its expressions' Args. -/
abbrev cdV (d : Cd) (a : Option Addr) (c : Nat) (a' : Option Addr) (c' : Nat) : Array Value := #[.int .i64 d.kind, .bool d.neg, .int .i64 d.A.kind, .int .i64 d.A.n, sv d.A.s, .slice a d.A.args.length c, .int .i64 d.B.kind, .int .i64 d.B.n, sv d.B.s, .slice a' d.B.args.length c']
def isSoR (S : Sc) (d : Cd) : Except Int Bool :=
  if d.kind = 4 then hasR S d.A
  else if d.kind = 1 ∨ d.kind = 2 ∨ d.kind = 3 then match evalA S d.A with
    | .error e => .error e
    | .ok x => match evalA S d.B with
      | .error e => .error e
      | .ok y => cmpR d.kind x y
  else .error 132
def CBox (w : World) (q : Nat) (d : Cd) (a : Option Addr) (c : Nat) (a' : Option Addr) (c' : Nat) : Prop := w.heap[q]? = some (.cells (cdV d a c a' c') 46 (0, 0))
theorem CBox.cells {w : World} {q : Nat} {d : Cd} {a : Option Addr} {c : Nat} {a' : Option Addr} {c' : Nat} (h : CBox w q d a c a' c') : (w.cell? ⟨q, 0, none⟩ = some (.int .i64 d.kind) ∧ w.cell? ⟨q, 1, none⟩ = some (.bool d.neg)) ∧ (w.cell? ⟨q, 2, none⟩ = some (.int .i64 d.A.kind) ∧ w.cell? ⟨q, 3, none⟩ = some (.int .i64 d.A.n) ∧ w.cell? ⟨q, 4, none⟩ = some (sv d.A.s) ∧ w.cell? ⟨q, 5, none⟩ = some (.slice a d.A.args.length c)) ∧ (w.cell? ⟨q, 6, none⟩ = some (.int .i64 d.B.kind) ∧ w.cell? ⟨q, 7, none⟩ = some (.int .i64 d.B.n) ∧ w.cell? ⟨q, 8, none⟩ = some (sv d.B.s) ∧ w.cell? ⟨q, 9, none⟩ = some (.slice a' d.B.args.length c')) :=
  ⟨⟨(cell_of_row _ _ _ _ _ _ h).trans rfl, (cell_of_row _ _ _ _ _ _ h).trans rfl⟩, ⟨(cell_of_row _ _ _ _ _ _ h).trans rfl, (cell_of_row _ _ _ _ _ _ h).trans rfl, (cell_of_row _ _ _ _ _ _ h).trans rfl, (cell_of_row _ _ _ _ _ _ h).trans rfl⟩, (cell_of_row _ _ _ _ _ _ h).trans rfl, (cell_of_row _ _ _ _ _ _ h).trans rfl, (cell_of_row _ _ _ _ _ _ h).trans rfl, (cell_of_row _ _ _ _ _ _ h).trans rfl⟩
theorem CBox.below {B : Nat} {w w' : World} {q : Nat} {d : Cd} {a : Option Addr} {c : Nat} {a' : Option Addr} {c' : Nat} (h : CBox w q d a c a' c') (hb : Below B w w') (hB : w.heap.size ≤ B) : CBox w' q d a c a' c' := (hb.block q (by have := lt_of_block h; omega)).trans h

set_option maxRecDepth 20000 in
set_option maxHeartbeats 4000000 in
theorem isSo_any (S : Sc) (d : Cd) (a : Option Addr) (c : Nat) (a' : Option Addr) (c' : Nat) (w : World) (hA : ExAt w d.A a c) (hB : ExAt w d.B a' c') (hS : S.at w) (hva : Vars w) : Calls Tryz.prog 84 #[.agg (scv S), .agg (cdV d a c a' c')] w (EndsB w (isSoR S d)) := by
  have hb2 : Below w.heap.size w ((w.alloc (.cells (scv S) 82)).alloc (.cells (cdV d a c a' c') 46)) := ((Below.refl _ _).alloc (Nat.le_refl _) _).alloc (by simp) _
  have hs2 : SBox ((w.alloc (.cells (scv S) 82)).alloc (.cells (cdV d a c a' c') 46)) w.heap.size S := (SBox.new w S).below ((Below.refl _ _).alloc (Nat.le_refl _) _) (Nat.le_refl _)
  have hx2 : CBox ((w.alloc (.cells (scv S) 82)).alloc (.cells (cdV d a c a' c') 46)) (w.heap.size + 1) d a c a' c' := by
    have : CBox ((w.alloc (.cells (scv S) 82)).alloc (.cells (cdV d a c a' c') 46)) (w.alloc (.cells (scv S) 82)).heap.size d a c a' c' := heap_alloc_new _ _
    rw [show (w.alloc (.cells (scv S) 82)).heap.size = w.heap.size + 1 by simp] at this
    exact this
  obtain ⟨w2, hw2⟩ : ∃ w2, w2 = (w.alloc (.cells (scv S) 82)).alloc (.cells (cdV d a c a' c') 46) := ⟨_, rfl⟩
  rw [← hw2] at hb2 hs2 hx2
  have HW := hide hw2
  have HB2 := hide hb2
  have HS2 := hide hs2
  have HX2 := hide hx2
  have hS2 := hS.grown hb2
  have hA2 := hA.grown hb2
  have hB2 := hB.grown hb2
  have hva2 := hva.below hb2 (Nat.le_refl _)
  have HH := hide (has_any S d.A a c w2 hS2)
  have HEA := hide (eval_any S d.A a c w2 hA2 hS2 hva2)
  have HEB : Hid (∀ W, Below w2.heap.size w2 W → Calls Tryz.prog 40 #[.agg (scv S), .agg (exV d.B a' c')] W (EndsF W (evalA S d.B))) := hide (fun W hW => eval_any S d.B a' c' W (hB2.grown hW) (hS2.grown hW) (hva2.below hW (Nat.le_refl _)))
  obtain ⟨⟨s0, s1, s2, s3, sf⟩, ⟨k0, k1⟩, ⟨x0, x1, x2, x3⟩, y0, y1, y2, y3⟩ := And.intro hs2.cells hx2.cells
  obtain ⟨R, hR⟩ : ∃ R, R = isSoR S d := ⟨_, rfl⟩
  rw [← hR]
  obtain ⟨p, hp⟩ : ∃ p, p = w.heap.size := ⟨_, rfl⟩
  obtain ⟨q, hq⟩ : ∃ q, q = w.heap.size + 1 := ⟨_, rfl⟩
  rw [← hp] at HS2 s0 s1 s2 s3 sf
  rw [← hq] at HX2 k0 k1 x0 x1 x2 x3 y0 y1 y2 y3
  have HPQ := hide (And.intro hp hq)
  have hgw : w.heap.size ≤ w2.heap.size := hb2.size
  clear hw2 hb2 hs2 hx2 hS hA hB hva hS2 hA2 hB2 hva2 hp hq
  obtain ⟨kd, ng, A, B⟩ := d
  simp only at HH HEA HEB k0 k1 x0 x1 x2 x3 y0 y1 y2 y3 hR
  by_cases h4 : kd = 4
  · subst h4
    have HR : Hid (R = hasR S A) := hide (by rw [hR]; rfl)
    clear hR
    obtain ⟨T, hT⟩ : ∃ T, T = hasR S A := ⟨_, rfl⟩
    rw [← hT] at HR HH
    clear hT
    obtain ⟨st, sl, gl, sa, sc, ga, gc, mp⟩ := S
    simp only at s0 s1 s2 s3
    go_enter Tryz.func84, Tryz.ntmps84
    go_upto_region 1 with fail
    rw [show (w.alloc (.cells #[sv st, .slice sa sl.length sc, .slice ga gl.length gc, .map (some mp)] 82)).alloc (.cells #[Value.int IntKind.i64 4, .bool ng, .int .i64 A.kind, .int .i64 A.n, sv A.s, .slice a A.args.length c, .int .i64 B.kind, .int .i64 B.n, sv B.s, .slice a' B.args.length c'] 46) = w2 from (unhide HW).symm]
    rw [← (unhide HPQ).2, ← (unhide HPQ).1]
    cases T with
    | error n =>
      go_wp2_with (go_at_call 112; refine (unhide HH).mono ?_; rintro e w4 ⟨rfl, b4⟩; have BE := hide ((unhide HB2).trans (b4.mono (unhide HB2).size)); clear b4)
      refine ⟨rfl, ?_⟩
      rw [unhide HR]
      exact ⟨rfl, unhide BE⟩
    | ok t =>
      go_wp2_with (go_at_call 112; refine (unhide HH).mono ?_; rintro e w4 ⟨rfl, b4⟩; have BE := hide ((unhide HB2).trans (b4.mono (unhide HB2).size)); clear b4)
      go_ret
      rw [unhide HR]
      exact ⟨rfl, unhide BE⟩
  · by_cases h123 : kd = 1 ∨ kd = 2 ∨ kd = 3
    · have HR : Hid (R = match evalA S A with
          | .error e => .error e
          | .ok x => match evalA S B with
            | .error e => .error e
            | .ok y => cmpR kd x y) := hide (by rw [hR]; unfold isSoR; rw [if_neg h4, if_pos h123])
      clear HH hR h4
      rcases h123 with rfl | rfl | rfl
      · obtain ⟨RA, hRA⟩ : ∃ RA, RA = evalA S A := ⟨_, rfl⟩
        obtain ⟨RB, hRB⟩ : ∃ RB, RB = evalA S B := ⟨_, rfl⟩
        rw [← hRA] at HR HEA
        rw [← hRB] at HR HEB
        clear hRA hRB
        obtain ⟨st, sl, gl, sa, sc, ga, gc, mp⟩ := S
        simp only at s0 s1 s2 s3
        go_enter Tryz.func84, Tryz.ntmps84
        go_upto_region 1 with fail
        rw [show (w.alloc (.cells #[sv st, .slice sa sl.length sc, .slice ga gl.length gc, .map (some mp)] 82)).alloc (.cells #[Value.int IntKind.i64 1, .bool ng, .int .i64 A.kind, .int .i64 A.n, sv A.s, .slice a A.args.length c, .int .i64 B.kind, .int .i64 B.n, sv B.s, .slice a' B.args.length c'] 46) = w2 from (unhide HW).symm]
        rw [← (unhide HPQ).2, ← (unhide HPQ).1]
        cases RA with
        | error n =>
          go_wp2_with (go_at_call 40; refine (unhide HEA).mono ?_; rintro e w4 ⟨rfl, b4⟩; have BE := hide ((unhide HB2).trans (b4.mono (unhide HB2).size)); clear b4)
          refine ⟨rfl, ?_⟩
          rw [unhide HR]
          exact ⟨rfl, unhide BE⟩
        | ok X =>
          obtain ⟨xn, xt, xi, xz⟩ := X
          go_wp2_with fail
          refine (unhide HEA).mono ?_
          rintro e w4 ⟨⟨rfl, hsm⟩, b4⟩
          have HB4 := hide b4
          clear hsm b4 s0 s1 s2 s3 sf k0 k1 x0 x1 x2 x3 y0 y1 y2 y3
          go_upto_region 8 with fail
          have b4 := unhide HB4
          have hb5 : Below w2.heap.size w2 (w4.alloc (.cells (fv ⟨xn, xt, xi, xz⟩) 48)) := b4.alloc b4.size _
          have hf5 := FBox.new w4 ⟨xn, xt, xi, xz⟩
          obtain ⟨w5, hw5⟩ : ∃ w5, w5 = w4.alloc (.cells (fv ⟨xn, xt, xi, xz⟩) 48) := ⟨_, rfl⟩
          rw [show w4.alloc (.cells #[Value.string ⟨xn.toArray⟩, .bool xt, .int .i64 xi, Value.string ⟨xz.toArray⟩] 48) = w5 from hw5.symm]
          rw [← hw5] at hb5 hf5
          obtain ⟨g5, hg5⟩ : ∃ g5, g5 = w4.heap.size := ⟨_, rfl⟩
          rw [← hg5] at hf5 ⊢
          have HB5 := hide hb5
          have HF5 := hide hf5
          obtain ⟨s0, s1, s2, s3, sf⟩ := ((unhide HS2).below hb5 (Nat.le_refl _)).cells
          obtain ⟨⟨k0, k1⟩, ⟨x0, x1, x2, x3⟩, y0, y1, y2, y3⟩ := ((unhide HX2).below hb5 (Nat.le_refl _)).cells
          simp only at s0 s1 s2 s3 k0 k1 x0 x1 x2 x3 y0 y1 y2 y3
          have HEB5 := hide (unhide HEB w5 hb5)
          clear b4 hw5 hg5 hb5 hf5 HEB
          cases RB with
          | error n =>
            go_wp2_with (go_at_call 40; refine (unhide HEB5).mono ?_; rintro e w6 ⟨rfl, b6⟩; have BE := hide ((unhide HB2).trans (((unhide HB5).trans (b6.mono (unhide HB5).size)).mono (unhide HB2).size)); clear b6)
            refine ⟨rfl, ?_⟩
            rw [unhide HR]
            exact ⟨rfl, unhide BE⟩
          | ok Y =>
            obtain ⟨yn, yt, yi, yz⟩ := Y
            go_wp2_with fail
            refine (unhide HEB5).mono ?_
            rintro e w6 ⟨⟨rfl, hsm⟩, b6⟩
            have HB6 := hide b6
            clear hsm b6 s0 s1 s2 s3 sf k0 k1 x0 x1 x2 x3 y0 y1 y2 y3
            go_upto_region 9 with fail
            have b6 := unhide HB6
            have hb7 : Below w5.heap.size w5 (w6.alloc (.cells (fv ⟨yn, yt, yi, yz⟩) 48)) := b6.alloc b6.size _
            have hf7 := FBox.new w6 ⟨yn, yt, yi, yz⟩
            obtain ⟨w7, hw7⟩ : ∃ w7, w7 = w6.alloc (.cells (fv ⟨yn, yt, yi, yz⟩) 48) := ⟨_, rfl⟩
            rw [show w6.alloc (.cells #[Value.string ⟨yn.toArray⟩, .bool yt, .int .i64 yi, Value.string ⟨yz.toArray⟩] 48) = w7 from hw7.symm]
            rw [← hw7] at hb7 hf7
            obtain ⟨g7, hg7⟩ : ∃ g7, g7 = w6.heap.size := ⟨_, rfl⟩
            rw [← hg7] at hf7 ⊢
            have hb27 := (unhide HB5).trans (hb7.mono (unhide HB5).size)
            have BE7 := hide ((unhide HB2).trans (hb27.mono (unhide HB2).size))
            obtain ⟨⟨k0, k1⟩, kx⟩ := ((unhide HX2).below hb27 (Nat.le_refl _)).cells
            clear kx
            try simp only at k0 k1
            obtain ⟨u0, u1, u2, u3, uf⟩ := ((unhide HF5).below hb7 (Nat.le_refl _)).cells
            obtain ⟨v0, v1, v2, v3, vf⟩ := hf7.cells
            try simp only at u0 u1 u2 u3 v0 v1 v2 v3
            have HCM := hide (compare_any 1 ⟨xn, xt, xi, xz⟩ ⟨yn, yt, yi, yz⟩ w7)
            obtain ⟨T, hT⟩ : ∃ T, T = cmpR 1 ⟨xn, xt, xi, xz⟩ ⟨yn, yt, yi, yz⟩ := ⟨_, rfl⟩
            try simp only at HR
            rw [← hT] at HCM HR
            clear b6 hw7 hg7 hb7 hf7 hb27 hT
            cases T with
            | error n =>
              go_wp2_with (go_at_call 113; refine (unhide HCM).mono ?_; rintro e w8 ⟨rfl, b8⟩; have BE := hide ((unhide BE7).trans (b8.mono (unhide BE7).size)); clear b8)
              refine ⟨rfl, ?_⟩
              rw [unhide HR]
              exact ⟨rfl, unhide BE⟩
            | ok t =>
              go_wp2_with (go_at_call 113; refine (unhide HCM).mono ?_; rintro e w8 ⟨rfl, b8⟩; have BE := hide ((unhide BE7).trans (b8.mono (unhide BE7).size)); clear b8)
              go_ret
              rw [unhide HR]
              exact ⟨rfl, unhide BE⟩
      · obtain ⟨RA, hRA⟩ : ∃ RA, RA = evalA S A := ⟨_, rfl⟩
        obtain ⟨RB, hRB⟩ : ∃ RB, RB = evalA S B := ⟨_, rfl⟩
        rw [← hRA] at HR HEA
        rw [← hRB] at HR HEB
        clear hRA hRB
        obtain ⟨st, sl, gl, sa, sc, ga, gc, mp⟩ := S
        simp only at s0 s1 s2 s3
        go_enter Tryz.func84, Tryz.ntmps84
        go_upto_region 1 with fail
        rw [show (w.alloc (.cells #[sv st, .slice sa sl.length sc, .slice ga gl.length gc, .map (some mp)] 82)).alloc (.cells #[Value.int IntKind.i64 2, .bool ng, .int .i64 A.kind, .int .i64 A.n, sv A.s, .slice a A.args.length c, .int .i64 B.kind, .int .i64 B.n, sv B.s, .slice a' B.args.length c'] 46) = w2 from (unhide HW).symm]
        rw [← (unhide HPQ).2, ← (unhide HPQ).1]
        cases RA with
        | error n =>
          go_wp2_with (go_at_call 40; refine (unhide HEA).mono ?_; rintro e w4 ⟨rfl, b4⟩; have BE := hide ((unhide HB2).trans (b4.mono (unhide HB2).size)); clear b4)
          refine ⟨rfl, ?_⟩
          rw [unhide HR]
          exact ⟨rfl, unhide BE⟩
        | ok X =>
          obtain ⟨xn, xt, xi, xz⟩ := X
          go_wp2_with fail
          refine (unhide HEA).mono ?_
          rintro e w4 ⟨⟨rfl, hsm⟩, b4⟩
          have HB4 := hide b4
          clear hsm b4 s0 s1 s2 s3 sf k0 k1 x0 x1 x2 x3 y0 y1 y2 y3
          go_upto_region 8 with fail
          have b4 := unhide HB4
          have hb5 : Below w2.heap.size w2 (w4.alloc (.cells (fv ⟨xn, xt, xi, xz⟩) 48)) := b4.alloc b4.size _
          have hf5 := FBox.new w4 ⟨xn, xt, xi, xz⟩
          obtain ⟨w5, hw5⟩ : ∃ w5, w5 = w4.alloc (.cells (fv ⟨xn, xt, xi, xz⟩) 48) := ⟨_, rfl⟩
          rw [show w4.alloc (.cells #[Value.string ⟨xn.toArray⟩, .bool xt, .int .i64 xi, Value.string ⟨xz.toArray⟩] 48) = w5 from hw5.symm]
          rw [← hw5] at hb5 hf5
          obtain ⟨g5, hg5⟩ : ∃ g5, g5 = w4.heap.size := ⟨_, rfl⟩
          rw [← hg5] at hf5 ⊢
          have HB5 := hide hb5
          have HF5 := hide hf5
          obtain ⟨s0, s1, s2, s3, sf⟩ := ((unhide HS2).below hb5 (Nat.le_refl _)).cells
          obtain ⟨⟨k0, k1⟩, ⟨x0, x1, x2, x3⟩, y0, y1, y2, y3⟩ := ((unhide HX2).below hb5 (Nat.le_refl _)).cells
          simp only at s0 s1 s2 s3 k0 k1 x0 x1 x2 x3 y0 y1 y2 y3
          have HEB5 := hide (unhide HEB w5 hb5)
          clear b4 hw5 hg5 hb5 hf5 HEB
          cases RB with
          | error n =>
            go_wp2_with (go_at_call 40; refine (unhide HEB5).mono ?_; rintro e w6 ⟨rfl, b6⟩; have BE := hide ((unhide HB2).trans (((unhide HB5).trans (b6.mono (unhide HB5).size)).mono (unhide HB2).size)); clear b6)
            refine ⟨rfl, ?_⟩
            rw [unhide HR]
            exact ⟨rfl, unhide BE⟩
          | ok Y =>
            obtain ⟨yn, yt, yi, yz⟩ := Y
            go_wp2_with fail
            refine (unhide HEB5).mono ?_
            rintro e w6 ⟨⟨rfl, hsm⟩, b6⟩
            have HB6 := hide b6
            clear hsm b6 s0 s1 s2 s3 sf k0 k1 x0 x1 x2 x3 y0 y1 y2 y3
            go_upto_region 9 with fail
            have b6 := unhide HB6
            have hb7 : Below w5.heap.size w5 (w6.alloc (.cells (fv ⟨yn, yt, yi, yz⟩) 48)) := b6.alloc b6.size _
            have hf7 := FBox.new w6 ⟨yn, yt, yi, yz⟩
            obtain ⟨w7, hw7⟩ : ∃ w7, w7 = w6.alloc (.cells (fv ⟨yn, yt, yi, yz⟩) 48) := ⟨_, rfl⟩
            rw [show w6.alloc (.cells #[Value.string ⟨yn.toArray⟩, .bool yt, .int .i64 yi, Value.string ⟨yz.toArray⟩] 48) = w7 from hw7.symm]
            rw [← hw7] at hb7 hf7
            obtain ⟨g7, hg7⟩ : ∃ g7, g7 = w6.heap.size := ⟨_, rfl⟩
            rw [← hg7] at hf7 ⊢
            have hb27 := (unhide HB5).trans (hb7.mono (unhide HB5).size)
            have BE7 := hide ((unhide HB2).trans (hb27.mono (unhide HB2).size))
            obtain ⟨⟨k0, k1⟩, kx⟩ := ((unhide HX2).below hb27 (Nat.le_refl _)).cells
            clear kx
            try simp only at k0 k1
            obtain ⟨u0, u1, u2, u3, uf⟩ := ((unhide HF5).below hb7 (Nat.le_refl _)).cells
            obtain ⟨v0, v1, v2, v3, vf⟩ := hf7.cells
            try simp only at u0 u1 u2 u3 v0 v1 v2 v3
            have HCM := hide (compare_any 2 ⟨xn, xt, xi, xz⟩ ⟨yn, yt, yi, yz⟩ w7)
            obtain ⟨T, hT⟩ : ∃ T, T = cmpR 2 ⟨xn, xt, xi, xz⟩ ⟨yn, yt, yi, yz⟩ := ⟨_, rfl⟩
            try simp only at HR
            rw [← hT] at HCM HR
            clear b6 hw7 hg7 hb7 hf7 hb27 hT
            cases T with
            | error n =>
              go_wp2_with (go_at_call 113; refine (unhide HCM).mono ?_; rintro e w8 ⟨rfl, b8⟩; have BE := hide ((unhide BE7).trans (b8.mono (unhide BE7).size)); clear b8)
              refine ⟨rfl, ?_⟩
              rw [unhide HR]
              exact ⟨rfl, unhide BE⟩
            | ok t =>
              go_wp2_with (go_at_call 113; refine (unhide HCM).mono ?_; rintro e w8 ⟨rfl, b8⟩; have BE := hide ((unhide BE7).trans (b8.mono (unhide BE7).size)); clear b8)
              go_ret
              rw [unhide HR]
              exact ⟨rfl, unhide BE⟩
      · obtain ⟨RA, hRA⟩ : ∃ RA, RA = evalA S A := ⟨_, rfl⟩
        obtain ⟨RB, hRB⟩ : ∃ RB, RB = evalA S B := ⟨_, rfl⟩
        rw [← hRA] at HR HEA
        rw [← hRB] at HR HEB
        clear hRA hRB
        obtain ⟨st, sl, gl, sa, sc, ga, gc, mp⟩ := S
        simp only at s0 s1 s2 s3
        go_enter Tryz.func84, Tryz.ntmps84
        go_upto_region 1 with fail
        rw [show (w.alloc (.cells #[sv st, .slice sa sl.length sc, .slice ga gl.length gc, .map (some mp)] 82)).alloc (.cells #[Value.int IntKind.i64 3, .bool ng, .int .i64 A.kind, .int .i64 A.n, sv A.s, .slice a A.args.length c, .int .i64 B.kind, .int .i64 B.n, sv B.s, .slice a' B.args.length c'] 46) = w2 from (unhide HW).symm]
        rw [← (unhide HPQ).2, ← (unhide HPQ).1]
        cases RA with
        | error n =>
          go_wp2_with (go_at_call 40; refine (unhide HEA).mono ?_; rintro e w4 ⟨rfl, b4⟩; have BE := hide ((unhide HB2).trans (b4.mono (unhide HB2).size)); clear b4)
          refine ⟨rfl, ?_⟩
          rw [unhide HR]
          exact ⟨rfl, unhide BE⟩
        | ok X =>
          obtain ⟨xn, xt, xi, xz⟩ := X
          go_wp2_with fail
          refine (unhide HEA).mono ?_
          rintro e w4 ⟨⟨rfl, hsm⟩, b4⟩
          have HB4 := hide b4
          clear hsm b4 s0 s1 s2 s3 sf k0 k1 x0 x1 x2 x3 y0 y1 y2 y3
          go_upto_region 8 with fail
          have b4 := unhide HB4
          have hb5 : Below w2.heap.size w2 (w4.alloc (.cells (fv ⟨xn, xt, xi, xz⟩) 48)) := b4.alloc b4.size _
          have hf5 := FBox.new w4 ⟨xn, xt, xi, xz⟩
          obtain ⟨w5, hw5⟩ : ∃ w5, w5 = w4.alloc (.cells (fv ⟨xn, xt, xi, xz⟩) 48) := ⟨_, rfl⟩
          rw [show w4.alloc (.cells #[Value.string ⟨xn.toArray⟩, .bool xt, .int .i64 xi, Value.string ⟨xz.toArray⟩] 48) = w5 from hw5.symm]
          rw [← hw5] at hb5 hf5
          obtain ⟨g5, hg5⟩ : ∃ g5, g5 = w4.heap.size := ⟨_, rfl⟩
          rw [← hg5] at hf5 ⊢
          have HB5 := hide hb5
          have HF5 := hide hf5
          obtain ⟨s0, s1, s2, s3, sf⟩ := ((unhide HS2).below hb5 (Nat.le_refl _)).cells
          obtain ⟨⟨k0, k1⟩, ⟨x0, x1, x2, x3⟩, y0, y1, y2, y3⟩ := ((unhide HX2).below hb5 (Nat.le_refl _)).cells
          simp only at s0 s1 s2 s3 k0 k1 x0 x1 x2 x3 y0 y1 y2 y3
          have HEB5 := hide (unhide HEB w5 hb5)
          clear b4 hw5 hg5 hb5 hf5 HEB
          cases RB with
          | error n =>
            go_wp2_with (go_at_call 40; refine (unhide HEB5).mono ?_; rintro e w6 ⟨rfl, b6⟩; have BE := hide ((unhide HB2).trans (((unhide HB5).trans (b6.mono (unhide HB5).size)).mono (unhide HB2).size)); clear b6)
            refine ⟨rfl, ?_⟩
            rw [unhide HR]
            exact ⟨rfl, unhide BE⟩
          | ok Y =>
            obtain ⟨yn, yt, yi, yz⟩ := Y
            go_wp2_with fail
            refine (unhide HEB5).mono ?_
            rintro e w6 ⟨⟨rfl, hsm⟩, b6⟩
            have HB6 := hide b6
            clear hsm b6 s0 s1 s2 s3 sf k0 k1 x0 x1 x2 x3 y0 y1 y2 y3
            go_upto_region 9 with fail
            have b6 := unhide HB6
            have hb7 : Below w5.heap.size w5 (w6.alloc (.cells (fv ⟨yn, yt, yi, yz⟩) 48)) := b6.alloc b6.size _
            have hf7 := FBox.new w6 ⟨yn, yt, yi, yz⟩
            obtain ⟨w7, hw7⟩ : ∃ w7, w7 = w6.alloc (.cells (fv ⟨yn, yt, yi, yz⟩) 48) := ⟨_, rfl⟩
            rw [show w6.alloc (.cells #[Value.string ⟨yn.toArray⟩, .bool yt, .int .i64 yi, Value.string ⟨yz.toArray⟩] 48) = w7 from hw7.symm]
            rw [← hw7] at hb7 hf7
            obtain ⟨g7, hg7⟩ : ∃ g7, g7 = w6.heap.size := ⟨_, rfl⟩
            rw [← hg7] at hf7 ⊢
            have hb27 := (unhide HB5).trans (hb7.mono (unhide HB5).size)
            have BE7 := hide ((unhide HB2).trans (hb27.mono (unhide HB2).size))
            obtain ⟨⟨k0, k1⟩, kx⟩ := ((unhide HX2).below hb27 (Nat.le_refl _)).cells
            clear kx
            try simp only at k0 k1
            obtain ⟨u0, u1, u2, u3, uf⟩ := ((unhide HF5).below hb7 (Nat.le_refl _)).cells
            obtain ⟨v0, v1, v2, v3, vf⟩ := hf7.cells
            try simp only at u0 u1 u2 u3 v0 v1 v2 v3
            have HCM := hide (compare_any 3 ⟨xn, xt, xi, xz⟩ ⟨yn, yt, yi, yz⟩ w7)
            obtain ⟨T, hT⟩ : ∃ T, T = cmpR 3 ⟨xn, xt, xi, xz⟩ ⟨yn, yt, yi, yz⟩ := ⟨_, rfl⟩
            try simp only at HR
            rw [← hT] at HCM HR
            clear b6 hw7 hg7 hb7 hf7 hb27 hT
            cases T with
            | error n =>
              go_wp2_with (go_at_call 113; refine (unhide HCM).mono ?_; rintro e w8 ⟨rfl, b8⟩; have BE := hide ((unhide BE7).trans (b8.mono (unhide BE7).size)); clear b8)
              refine ⟨rfl, ?_⟩
              rw [unhide HR]
              exact ⟨rfl, unhide BE⟩
            | ok t =>
              go_wp2_with (go_at_call 113; refine (unhide HCM).mono ?_; rintro e w8 ⟨rfl, b8⟩; have BE := hide ((unhide BE7).trans (b8.mono (unhide BE7).size)); clear b8)
              go_ret
              rw [unhide HR]
              exact ⟨rfl, unhide BE⟩
    · have HR : Hid (R = .error 132) := hide (by rw [hR]; unfold isSoR; rw [if_neg h4, if_neg h123])
      have n1 : ¬ kd = 1 := fun h => h123 (Or.inl h)
      have n2 : ¬ kd = 2 := fun h => h123 (Or.inr (Or.inl h))
      have n3 : ¬ kd = 3 := fun h => h123 (Or.inr (Or.inr h))
      clear hR h123
      obtain ⟨st, sl, gl, sa, sc, ga, gc, mp⟩ := S
      go_enter Tryz.func84, Tryz.ntmps84
      go_upto_region 1 with fail
      rw [show (w.alloc (.cells #[sv st, .slice sa sl.length sc, .slice ga gl.length gc, .map (some mp)] 82)).alloc (.cells #[Value.int IntKind.i64 kd, .bool ng, .int .i64 A.kind, .int .i64 A.n, sv A.s, .slice a A.args.length c, .int .i64 B.kind, .int .i64 B.n, sv B.s, .slice a' B.args.length c'] 46) = w2 from (unhide HW).symm]
      rw [← (unhide HPQ).2, ← (unhide HPQ).1]
      go_wp2
      refine ⟨rfl, ?_⟩
      rw [unhide HR]
      exact ⟨rfl, unhide HB2⟩
end Go.Proofs.YtingpmgpjmlioaaGreatDoor
