/-
  DERIVED. The walks of allHold and of event.
-/
import Derived.Test.YtingpmgpjmlioaaGreatDoorRuDa
namespace Go.Proofs.YtingpmgpjmlioaaGreatDoor
open Go.RowKit
set_option linter.unusedVariables false

theorem allR_err (S : Sc) {l : List Cd} {k : Nat} {d : Cd} {e : Int} (h : ∀ i d, i < k → l[i]? = some d → holdsR S d = .ok true) (hk : l[k]? = some d) (hd : holdsR S d = .error e) : allR S l = .error e := by
  rw [allR_stop S l k h, drop_consT hk, allR, hd]
theorem allR_no (S : Sc) {l : List Cd} {k : Nat} {d : Cd} (h : ∀ i d, i < k → l[i]? = some d → holdsR S d = .ok true) (hk : l[k]? = some d) (hd : holdsR S d = .ok false) : allR S l = .ok false := by
  rw [allR_stop S l k h, drop_consT hk, allR, hd]
theorem allR_yes (S : Sc) {l : List Cd} {k : Nat} (h : ∀ i d, i < k → l[i]? = some d → holdsR S d = .ok true) (hk : l.length ≤ k) : allR S l = .ok true := by
  rw [allR_stop S l k h, List.drop_eq_nil_of_le hk, allR]
theorem allR_more (S : Sc) {l : List Cd} {k : Nat} {d : Cd} (h : ∀ i d, i < k → l[i]? = some d → holdsR S d = .ok true) (hk : l[k]? = some d) (hd : holdsR S d = .ok true) : ∀ i d, i < k + 1 → l[i]? = some d → holdsR S d = .ok true := by
  intro i y hi hy
  by_cases e : i = k
  · subst e; rw [hk] at hy; cases hy; exact hd
  · exact h i y (by omega) hy

set_option maxRecDepth 20000 in
set_option maxHeartbeats 4000000 in
theorem allHold_any (S : Sc) (a : Option Addr) (c : Nat) (l : List CdV) (w : World) (hl : SlOf 10 CdR w (.slice a l.length c) l) (hS : S.at w) (hva : Vars w) :
    Calls Tryz.prog 79 #[.agg (scv S), .slice a l.length c] w (EndsB w (allR S (l.map CdV.p))) := by
  obtain ⟨-, hl1, hl2⟩ := hl.len
  have hb2 : Below w.heap.size w (w.alloc (.cells (scv S) 82)) := (Below.refl _ _).alloc (Nat.le_refl _) _
  have hs2 := SBox.new w S
  obtain ⟨w2, hw2⟩ : ∃ w2, w2 = w.alloc (.cells (scv S) 82) := ⟨_, rfl⟩
  rw [← hw2] at hb2 hs2
  have HW := hide hw2
  have HB2 := hide hb2
  have HL := hide (hl.grown (fun _ _ _ _ _ => CdR.grown) hb2)
  have HC : Hid (∀ (W : World) (d : CdV), Below w2.heap.size w2 W → CdO W d → Calls Tryz.prog 43 #[.agg (scv S), .agg d.v] W (EndsB W (holdsR S d.p))) := hide (fun W d hW hd =>
    have h0 := hb2.trans (hW.mono hb2.size)
    holds_any S d.p d.A.a d.A.c d.B.a d.B.c W hd.1 hd.2 (hS.grown h0) (hva.below h0 (Nat.le_refl _)))
  have HS2 : Hid (∀ W, Below w2.heap.size w2 W → W.cell? ⟨w.heap.size, 0, none⟩ = some (sv S.stream) ∧ W.cell? ⟨w.heap.size, 1, none⟩ = some (.slice S.sa S.state.length S.sc) ∧ W.cell? ⟨w.heap.size, 2, none⟩ = some (.slice S.ga S.given.length S.gc) ∧ W.cell? ⟨w.heap.size, 3, none⟩ = some (.map (some S.mp))) := hide (fun W hW => by
    obtain ⟨s0, s1, s2, s3, -⟩ := (hs2.below hW (Nat.le_refl _)).cells
    exact ⟨s0, s1, s2, s3⟩)
  obtain ⟨R, hR⟩ : ∃ R, R = allR S (l.map CdV.p) := ⟨_, rfl⟩
  rw [← hR]
  obtain ⟨Hd, hHd⟩ : ∃ Hd : Cd → Except Int Bool, Hd = holdsR S := ⟨_, rfl⟩
  have HE : Hid (∀ (k : Nat) (d : CdV) (n : Int), (∀ i d, i < k → (l.map CdV.p)[i]? = some d → Hd d = .ok true) → l[k]? = some d → Hd d.p = .error n → R = .error n) := hide (fun k d n h1 h2 h3 => by
    rw [hHd] at h1 h3; rw [hR]; exact allR_err S h1 (by rw [List.getElem?_map, h2]; rfl) h3)
  have HF : Hid (∀ (k : Nat) (d : CdV), (∀ i d, i < k → (l.map CdV.p)[i]? = some d → Hd d = .ok true) → l[k]? = some d → Hd d.p = .ok false → R = .ok false) := hide (fun k d h1 h2 h3 => by
    rw [hHd] at h1 h3; rw [hR]; exact allR_no S h1 (by rw [List.getElem?_map, h2]; rfl) h3)
  have HM : Hid (∀ (k : Nat) (d : CdV), (∀ i d, i < k → (l.map CdV.p)[i]? = some d → Hd d = .ok true) → l[k]? = some d → Hd d.p = .ok true → ∀ i d, i < k + 1 → (l.map CdV.p)[i]? = some d → Hd d = .ok true) := hide (fun k d h1 h2 h3 => by
    rw [hHd] at h1 h3 ⊢; exact allR_more S h1 (by rw [List.getElem?_map, h2]; rfl) h3)
  have HY : Hid ((∀ i d, i < l.length → (l.map CdV.p)[i]? = some d → Hd d = .ok true) → R = .ok true) := hide (fun h1 => by
    rw [hHd] at h1; rw [hR]; exact allR_yes S h1 (by simp))
  rw [← hHd] at HC
  obtain ⟨N, hN⟩ : ∃ N, N = l.length := ⟨_, rfl⟩
  have HN := hide hN
  rw [← hN] at hl1 HL HY ⊢
  obtain ⟨B, hB⟩ : ∃ B, B = w.heap.size := ⟨_, rfl⟩
  have HBe := hide hB
  rw [← hB] at HS2
  obtain ⟨st, sl, gl, sa, sc, ga, gc, mp⟩ := S
  simp only at HS2
  simp only [scv] at HW HC ⊢
  obtain ⟨SN, hSN⟩ : ∃ SN, SN = sl.length := ⟨_, rfl⟩
  obtain ⟨GN, hGN⟩ : ∃ GN, GN = gl.length := ⟨_, rfl⟩
  rw [← hSN, ← hGN] at HW HS2 HC ⊢
  clear hl hS hva hw2 hb2 hs2 hN hB hR hHd hSN hGN
  go_enter Tryz.func79, Tryz.ntmps79
  go_upto_region 1 with fail
  rw [show w.alloc (.cells #[Value.string ⟨st.toArray⟩, .slice sa SN sc, .slice ga GN gc, .map (some mp)] 82) = w2 from (unhide HW).symm]
  rw [← unhide HBe]
  go_wp2_with fail
  go_loopw [6, 9] (fun _ i wr => ∃ (k : Nat), k ≤ N ∧ i = .int .i64 k ∧ Hid (∀ i d, i < k → (l.map CdV.p)[i]? = some d → Hd d = .ok true) ∧ Hid (Below w2.heap.size w2 wr)) (fun _ i _ => N - (intOf i).toNat)
  case atStart => exact ⟨0, by omega, rfl, hide (fun i d hi => by omega), hide (Below.refl _ _)⟩
  case round =>
    obtain ⟨k, hk, rfl, HA, HB⟩ := hrel
    by_cases hlt : k < N
    · obtain ⟨d, huk⟩ : ∃ u, l[k]? = some u := ⟨_, List.getElem?_eq_getElem (by have := unhide HN; omega)⟩
      obtain ⟨b, off, rfl, -, hcd⟩ := ((unhide HL).grown (fun _ _ _ _ _ => CdR.grown) (unhide HB)).at huk
      have hok := hcd.ok
      obtain ⟨d0, d1, ⟨d2, d3, d4, d5, -⟩, d6, d7, d8, d9, -⟩ := hcd
      replace d3 : wr.cell? ⟨b, off + k * 10 + 3, none⟩ = _ := d3
      replace d4 : wr.cell? ⟨b, off + k * 10 + 4, none⟩ = _ := d4
      replace d5 : wr.cell? ⟨b, off + k * 10 + 5, none⟩ = _ := d5
      replace d7 : wr.cell? ⟨b, off + k * 10 + 7, none⟩ = _ := d7
      replace d8 : wr.cell? ⟨b, off + k * 10 + 8, none⟩ = _ := d8
      replace d9 : wr.cell? ⟨b, off + k * 10 + 9, none⟩ = _ := d9
      go_upto_region 4 with fail
      have hb4 : Below wr.heap.size wr (wr.alloc (.cells d.v 46)) := (Below.refl _ _).alloc (Nat.le_refl _) _
      have hx4 : CBox (wr.alloc (.cells d.v 46)) wr.heap.size d.p d.A.a d.A.c d.B.a d.B.c := heap_alloc_new _ _
      have HB4 := hide ((unhide HB).trans (hb4.mono (unhide HB).size))
      have HK := hide (hok.grown hb4)
      obtain ⟨w4, hw4⟩ : ∃ w4, w4 = wr.alloc (.cells d.v 46) := ⟨_, rfl⟩
      rw [show wr.alloc (.cells #[Value.int .i64 d.kind, .bool d.neg, .int .i64 d.A.x.kind, .int .i64 d.A.x.n, .string ⟨d.A.x.s.toArray⟩, .slice d.A.a d.A.x.args.length d.A.c, .int .i64 d.B.x.kind, .int .i64 d.B.x.n, .string ⟨d.B.x.s.toArray⟩, .slice d.B.a d.B.x.args.length d.B.c] 46) = w4 from hw4.symm]
      rw [← hw4] at hx4 HB4 HK
      obtain ⟨p4, hp4⟩ : ∃ p4, p4 = wr.heap.size := ⟨_, rfl⟩
      rw [← hp4] at hx4 ⊢
      obtain ⟨⟨k0, k1⟩, ⟨x0, x1, x2, x3⟩, y0, y1, y2, y3⟩ := hx4.cells
      simp only [CdV.p] at k0 k1 x0 x1 x2 x3 y0 y1 y2 y3
      obtain ⟨s0, s1, s2, s3⟩ := unhide HS2 w4 (unhide HB4)
      have HC4 := hide (unhide HC w4 d (unhide HB4) (unhide HK))
      clear hb4 hw4 hp4 d0 d1 d2 d3 d4 d5 d6 d7 d8 d9 hx4 hok
      cases hT : Hd d.p with
      | error n =>
        have HX := hide (unhide HE k d n (unhide HA) huk hT)
        rw [hT] at HC4
        clear hT huk
        go_wp2_with (go_at_call 43; refine (unhide HC4).mono ?_; rintro e w5 ⟨rfl, b5⟩; have HB5 := hide ((unhide HB4).trans (b5.mono (unhide HB4).size)); clear b5)
        exact ⟨rfl, by rw [unhide HX]; exact ⟨rfl, (unhide HB2).trans ((unhide HB5).mono (unhide HB2).size)⟩⟩
      | ok t =>
        cases t with
        | false =>
          have HX := hide (unhide HF k d (unhide HA) huk hT)
          rw [hT] at HC4
          clear hT huk
          go_wp2_with (go_at_call 43; refine (unhide HC4).mono ?_; rintro e w5 ⟨rfl, b5⟩; have HB5 := hide ((unhide HB4).trans (b5.mono (unhide HB4).size)); clear b5)
          go_ret
          exact ⟨by rw [unhide HX]; rfl, (unhide HB2).trans ((unhide HB5).mono (unhide HB2).size)⟩
        | true =>
          have HA2 := hide (unhide HM k d (unhide HA) huk hT)
          rw [hT] at HC4
          clear hT huk
          go_wp2_with (go_at_call 43; refine (unhide HC4).mono ?_; rintro e w5 ⟨rfl, b5⟩; have HB5 := hide ((unhide HB4).trans (b5.mono (unhide HB4).size)); clear b5)
          go_roundw
          case rel => exact ⟨k + 1, by omega, by go_num, HA2, HB5⟩
          case measure => simp [intOf]; omega
    · have HX := hide (unhide HY (fun i d hi => unhide HA i d (by omega)))
      go_wp2_with fail
      go_ret
      exact ⟨by rw [unhide HX]; rfl, (unhide HB2).trans ((unhide HB).mono (unhide HB2).size)⟩
end Go.Proofs.YtingpmgpjmlioaaGreatDoor

namespace Go.Proofs.YtingpmgpjmlioaaGreatDoor
open Go.RowKit
set_option linter.unusedVariables false

abbrev ev00 : Array Value := #[.string ⟨#[]⟩, .int .i64 0, .slice none 0 0]
abbrev emvV (t : List UInt8) (fv : Value) : Array Value := #[sv t, .int .i64 0, fv]
theorem sizeEvent3 : (Tryz.prog.info? 34).map (·.size) = some 3 := by kernel_rfl
/-- What event comes to. -/
def EndsE (w : World) (r : Except Int EvM) (e : Ending) (w' : World) : Prop :=
  (match r with
    | .ok v => ∃ fv, e = .returned (.agg (emvV v.type fv)) ∧ FOwn w' w.heap.size fv v.fields
    | .error n => e = pan n) ∧ Below w.heap.size w w'

/-- Where event stands. -/
structure EnSt (w wr : World) (v : Value) (cur : List Fld) (k : Nat) : Prop where
  bel : Below w.heap.size w wr
  own : FOwn wr w.heap.size v cur
  len : cur.length ≤ k
theorem EnSt.grown {w wr wr' : World} {v : Value} {cur : List Fld} {k : Nat} (h : EnSt w wr v cur k) (hb : Below wr.heap.size wr wr') : EnSt w wr' v cur k :=
  ⟨h.bel.trans (hb.mono h.bel.size), h.own.below hb (Nat.le_refl _), h.len⟩
theorem EnSt.put {w wr wr' : World} {v v' : Value} {cur cur' : List Fld} {k : Nat} (h : EnSt w wr v cur k) (hb : Below wr.heap.size wr wr') (ho : FOwn wr' wr.heap.size v' cur') (hl : cur'.length ≤ k + 1) : EnSt w wr' v' cur' (k + 1) :=
  ⟨h.bel.trans (hb.mono h.bel.size), ho.mono h.bel.size, hl⟩
theorem setF_le (L : List Fld) (f : Fld) : (setF L f).length ≤ L.length + 1 := by
  have hle := atF_le L f.name
  have hb : atF L f.name ≤ behF L f.name := by unfold behF; split <;> omega
  unfold setF; simp; omega

set_option maxRecDepth 20000 in
set_option maxHeartbeats 8000000 in
theorem event_any (S : Sc) (m : EmV) (w : World) (hm : EmO w m) (hml : m.sets.length ≤ 2000000000000) (hS : S.at w) (hva : Vars w) :
    Calls Tryz.prog 102 #[.agg (scv S), .agg m.v] w (EndsE w (eventR S m.p)) := by
  obtain ⟨-, hl1, hl2⟩ := SlOf.len hm
  have hb2 := below3 w (.cells (scv S) 82) (.cells m.v 94) (.cells ev00 34)
  obtain ⟨hs2, hm2, he2⟩ := boxes3 w (.cells (scv S) 82) (.cells m.v 94) (.cells ev00 34)
  obtain ⟨w2, hw2⟩ : ∃ w2, w2 = ((w.alloc (.cells (scv S) 82)).alloc (.cells m.v 94)).alloc (.cells ev00 34) := ⟨_, rfl⟩
  rw [← hw2] at hb2 hs2 hm2 he2
  have HW := hide hw2
  have HB2 := hide hb2
  have hs2' : SBox w2 w.heap.size S := hs2
  have HL := hide (SlOf.grown hm (fun _ _ _ _ _ => AsR.grown) hb2)
  have HC : Hid (∀ (W : World) (d : Nd), Below w2.heap.size w2 W → d.at W → Calls Tryz.prog 40 #[.agg (scv S), .agg (ndv d)] W (EndsF W (evalA S d.x))) := hide (fun W d hW hd =>
    have h0 := hb2.trans (hW.mono hb2.size)
    eval_any S d.x d.a d.c W hd (hS.grown h0) (hva.below h0 (Nat.le_refl _)))
  have HS2 : Hid (∀ W, Below w2.heap.size w2 W → W.cell? ⟨w.heap.size, 0, none⟩ = some (sv S.stream) ∧ W.cell? ⟨w.heap.size, 1, none⟩ = some (.slice S.sa S.state.length S.sc) ∧ W.cell? ⟨w.heap.size, 2, none⟩ = some (.slice S.ga S.given.length S.gc) ∧ W.cell? ⟨w.heap.size, 3, none⟩ = some (.map (some S.mp))) := hide (fun W hW => by
    obtain ⟨s0, s1, s2, s3, -⟩ := (hs2'.below hW (Nat.le_refl _)).cells
    exact ⟨s0, s1, s2, s3⟩)
  have m1 : w2.cell? ⟨w.heap.size + 1, 1, none⟩ = some (.slice m.a m.sets.length m.c) := (cell_of_row _ _ _ _ _ _ hm2).trans rfl
  have HM0 : Hid (∀ W, Below w2.heap.size w2 W → W.cell? ⟨w.heap.size + 1, 0, none⟩ = some (sv m.type)) := hide (fun W hW => kept hW ((cell_of_row _ _ _ _ _ _ hm2).trans rfl))
  have HE2 : Hid (∀ W, Below w2.heap.size w2 W → W.heap[w.heap.size + 2]? = some (.cells ev00 34)) := hide (fun W hW => rowKept he2 hW (Nat.le_refl _))
  obtain ⟨ev, hev⟩ : ∃ ev : Ex → Except Int Fld, ev = evalA S := ⟨_, rfl⟩
  obtain ⟨R, hR⟩ : ∃ R, R = eventR S m.p := ⟨_, rfl⟩
  rw [← hR]
  have HR : Hid (R = match setsG ev [] (m.sets.map AsV.p) with | .error e => .error e | .ok fs => .ok ⟨m.type, fs⟩) := hide (by rw [hR, hev]; rfl)
  rw [← hev] at HC
  obtain ⟨N, hN⟩ : ∃ N, N = m.sets.length := ⟨_, rfl⟩
  have HN := hide hN
  rw [← hN] at hl1 HL m1 hml
  have HW' : Hid (w2 = ((w.alloc (.cells (scv S) 82)).alloc (.cells #[sv m.type, .slice m.a N m.c] 94)).alloc (.cells ev00 34)) := hide (by rw [hN]; exact unhide HW)
  have harg : m.v = #[sv m.type, .slice m.a N m.c] := by rw [hN]
  rw [harg]
  obtain ⟨B, hB⟩ : ∃ B, B = w.heap.size := ⟨_, rfl⟩
  have HBe := hide hB
  rw [← hB] at HS2 m1 HM0 HE2
  obtain ⟨st, sl, gl, sa, sc, ga, gc, mp⟩ := S
  simp only at HS2
  simp only [scv] at HW' HC ⊢
  obtain ⟨SN, hSN⟩ : ∃ SN, SN = sl.length := ⟨_, rfl⟩
  obtain ⟨GN, hGN⟩ : ∃ GN, GN = gl.length := ⟨_, rfl⟩
  rw [← hSN, ← hGN] at HW' HS2 HC ⊢
  have HSt : Hid (EnSt w2 w2 (.slice none 0 0) [] 0) := hide ⟨Below.refl _ _, fown_nil _ _, by simp⟩
  clear hm hS hva hw2 hb2 hs2 hm2 he2 hs2' hN hB hR hev hSN hGN harg HW
  go_enter Tryz.func102, Tryz.ntmps102
  go_upto_region 1 with fail
  rw [show ((w.alloc (.cells #[Value.string ⟨st.toArray⟩, .slice sa SN sc, .slice ga GN gc, .map (some mp)] 82)).alloc (.cells #[Value.string ⟨m.type.toArray⟩, .slice m.a N m.c] 94)).alloc (.cells #[Value.string ⟨#[]⟩, .int .i64 0, .slice none 0 0] 34) = w2 from (unhide HW').symm]
  rw [← unhide HBe]
  go_wp2_with fail
  clear m1
  go_loopw [5, 7, 8, 12] (fun v _ _ i wr => ∃ (k : Nat) (cur : List Fld), k ≤ N ∧ i = .int .i64 k ∧ Hid (setsG ev [] (m.sets.map AsV.p) = setsG ev cur ((m.sets.map AsV.p).drop k)) ∧ Hid (EnSt w2 wr v cur k)) (fun _ _ _ i _ => N - (intOf i).toNat)
  case atStart => exact ⟨0, [], by omega, rfl, hide (by simp), HSt⟩
  case round =>
    obtain ⟨k, cur, hk, rfl, HA, HF⟩ := hrel
    clear HSt
    obtain ⟨ca, cc, rfl, -⟩ := (unhide HF).own.fdn
    by_cases hlt : k < N
    · obtain ⟨s, huk⟩ : ∃ u, m.sets[k]? = some u := ⟨_, List.getElem?_eq_getElem (by have := unhide HN; omega)⟩
      have HDr := hide (drop_consT (l := m.sets.map AsV.p) (k := k) (a := s.p) (by rw [List.getElem?_map, huk]; rfl))
      obtain ⟨b, off, hma, -, d0, d1, d2, d3, d4, hat⟩ := ((unhide HL).grown (fun _ _ _ _ _ => AsR.grown) (unhide HF).bel).at huk
      replace d2 : wr.cell? ⟨b, off + k * 5 + 2, none⟩ = _ := d2
      replace d3 : wr.cell? ⟨b, off + k * 5 + 3, none⟩ = _ := d3
      replace d4 : wr.cell? ⟨b, off + k * 5 + 4, none⟩ = _ := d4
      rw [hma]
      clear huk
      go_upto_region 5 with fail
      have hb4 : Below wr.heap.size wr (wr.alloc (.cells s.v 77)) := (Below.refl _ _).alloc (Nat.le_refl _) _
      have hx4 : ABx (wr.alloc (.cells s.v 77)) wr.heap.size s.nm s.e.x s.e.a s.e.c := heap_alloc_new _ _
      have HF4 := hide ((unhide HF).grown hb4)
      have HK := hide (Nd.grown hat hb4)
      obtain ⟨w4, hw4⟩ : ∃ w4, w4 = wr.alloc (.cells s.v 77) := ⟨_, rfl⟩
      rw [show wr.alloc (.cells #[Value.string ⟨s.nm.toArray⟩, .int .i64 s.e.x.kind, .int .i64 s.e.x.n, .string ⟨s.e.x.s.toArray⟩, .slice s.e.a s.e.x.args.length s.e.c] 77) = w4 from hw4.symm]
      rw [← hw4] at hx4 HF4 HK
      obtain ⟨p4, hp4⟩ : ∃ p4, p4 = wr.heap.size := ⟨_, rfl⟩
      rw [← hp4] at hx4 ⊢
      have HX4 := hide hx4
      obtain ⟨z0, z1, z2, z3, z4⟩ := hx4.cells
      obtain ⟨s0, s1, s2, s3⟩ := unhide HS2 w4 (unhide HF4).bel
      have HC4 := hide (unhide HC w4 s.e (unhide HF4).bel (unhide HK))
      clear hb4 hw4 hp4 d0 d1 d2 d3 d4 hx4 hat
      cases hT : ev s.e.x with
      | error n =>
        have HX := hide (show R = .error n by
          rw [unhide HR, unhide HA, unhide HDr, setsG_bad (a := s.p) hT])
        rw [hT] at HC4
        clear hT
        go_wp2_with (go_at_call 40; refine (unhide HC4).mono ?_; rintro e w5 ⟨rfl, b5⟩; have HB5 := hide ((unhide HF4).grown b5).bel; clear b5)
        exact ⟨rfl, by rw [unhide HX]; exact ⟨rfl, (unhide HB2).trans ((unhide HB5).mono (unhide HB2).size)⟩⟩
      | ok f =>
        obtain ⟨fn, ft, fi, fz⟩ := f
        have HA2 : Hid (setsG ev [] (m.sets.map AsV.p) = setsG ev (setF cur ⟨s.nm, ft, fi, fz⟩) ((m.sets.map AsV.p).drop (k + 1))) := hide (by
          rw [unhide HA, unhide HDr, setsG_ok (a := s.p) hT]; rfl)
        rw [hT] at HC4
        clear hT
        go_upto_region 6 with (go_at_call 40; refine (unhide HC4).mono ?_; rintro e w7 ⟨⟨rfl, -⟩, b7⟩; have HF7 := hide ((unhide HF4).grown b7); have HX7 := hide ((unhide HX4).below b7 (Nat.le_refl _)); clear b7)
        have hb8 : Below w7.heap.size w7 (w7.alloc (.cells (fv ⟨fn, ft, fi, fz⟩) 48)) := (Below.refl _ _).alloc (Nat.le_refl _) _
        have hf8 := FBox.new w7 ⟨fn, ft, fi, fz⟩
        have hx8 := (unhide HX7).below hb8 (Nat.le_refl _)
        obtain ⟨y0, -, -, -, -⟩ := hx8.cells
        obtain ⟨p8, hp8⟩ : ∃ p8, p8 = w7.heap.size := ⟨_, rfl⟩
        obtain ⟨w8, hw8⟩ : ∃ w8, w8 = w7.alloc (.cells (fv ⟨fn, ft, fi, fz⟩) 48) := ⟨_, rfl⟩
        rw [show w7.alloc (.cells #[Value.string ⟨fn.toArray⟩, .bool ft, .int .i64 fi, .string ⟨fz.toArray⟩] 48) = w8 from hw8.symm]
        rw [← hw8] at hb8 hf8 y0
        rw [← hp8] at hf8 ⊢
        obtain ⟨f0, f1, f2, f3, ff⟩ := hf8.cells
        have hf9 := hf8.put0 s.nm
        have hb9 : Below w7.heap.size w7 (w8.setCell ⟨p8, 0, none⟩ (sv s.nm)) := hb8.setCell (show w7.heap.size ≤ p8 by omega) _
        obtain ⟨w9, hw9⟩ : ∃ w9, w9 = w8.setCell ⟨p8, 0, none⟩ (sv s.nm) := ⟨_, rfl⟩
        rw [← hw9] at hf9 hb9
        have HF9 := hide ((unhide HF7).grown hb9)
        have HW9 := hide hw9
        have HY9 := hide hf9
        clear hb8 hf8 hx8 hw8 hp8 hb9 hf9 hw9 z0 z1 z2 z3 z4 s0 s1 s2 s3
        go_upto_region 7 with fail
        rw [show w8.setCell ⟨p8, 0, none⟩ (.string ⟨s.nm.toArray⟩) = w9 from (unhide HW9).symm]
        clear f0 f1 f2 f3 ff y0
        obtain ⟨f0, f1, f2, f3, ff⟩ := (unhide HY9).cells
        simp only at f0 f1 f2 f3
        obtain ⟨ca2, cc2, hcv, hfn⟩ := (unhide HF9).own.fdn
        cases hcv
        have HSt := hide (Set_any ca cc cur ⟨s.nm, ft, fi, fz⟩ w9 hfn (by have := (unhide HF9).len; omega))
        clear hfn
        go_upto_region 8 with (go_at_call 30; refine (unhide HSt).mono ?_; rintro e w10 ⟨v10, rfl, o10, b10⟩; have HF10 := hide ((unhide HF9).put b10 o10 (by have := setF_le cur ⟨s.nm, ft, fi, fz⟩; have := (unhide HF9).len; omega)); obtain ⟨ca3, cc3, rfl, -⟩ := o10.fdn; clear b10 o10)
        go_wp2_with fail
        go_roundw
        case rel => exact ⟨k + 1, _, by omega, by go_num, HA2, HF10⟩
        case measure => simp [intOf]; omega
    · have HX : Hid (R = .ok ⟨m.type, cur⟩) := hide (by
        rw [unhide HR, unhide HA, List.drop_eq_nil_of_le (by simp; have := unhide HN; omega)]; rfl)
      have m0 := unhide HM0 wr (unhide HF).bel
      have he := unhide HE2 wr (unhide HF).bel
      obtain ⟨e0, e1, e2, ef⟩ := cells3 he
      obtain ⟨CL, hCL⟩ : ∃ CL, CL = cur.length := ⟨_, rfl⟩
      have HP := hide (row_put3 he (sv m.type) (.int .i64 0) (.slice ca CL cc))
      have hBB : w2.heap.size = B + 3 := by rw [unhide HW', unhide HBe]; simp
      have HQ : Hid (FOwn (put3 wr (B + 2) (sv m.type) (.int .i64 0) (.slice ca CL cc)) w2.heap.size (.slice ca CL cc) cur ∧ Below w.heap.size w (put3 wr (B + 2) (sv m.type) (.int .i64 0) (.slice ca CL cc))) := hide (by
        rw [hCL]
        refine ⟨?_, below_put3 ((unhide HB2).trans ((unhide HF).bel.mono (unhide HB2).size)) (by have := unhide HBe; omega) _ _ _⟩
        obtain ⟨h1, h2⟩ := (unhide HF).own
        refine ⟨h1, ?_⟩
        rcases h2 with h | ⟨g, cap, cu, a1, b1, c1, r1⟩
        · exact .inl h
        · refine .inr ⟨g, cap, cu, a1, b1, ?_, r1⟩
          rw [heap_setCell_other _ ⟨B + 2, 2, none⟩ _ _ (show g ≠ B + 2 by omega), heap_setCell_other _ ⟨B + 2, 1, none⟩ _ _ (show g ≠ B + 2 by omega), heap_setCell_other _ ⟨B + 2, 0, none⟩ _ _ (show g ≠ B + 2 by omega)]
          exact c1)
      rw [← hCL]
      clear hCL he
      go_wp2_with fail
      refine bodyPost_ret (results_cell_row rfl _ _ (B + 2) 34 (emvV m.type (.slice ca CL cc)) (0, 0) _ rfl (unhide HP) Tryz.underlying34 rfl sizeEvent3) rfl ?_
      refine ⟨?_, (unhide HQ).2⟩
      rw [unhide HX]
      refine ⟨_, rfl, ?_⟩
      exact (unhide HQ).1.mono (unhide HB2).size
end Go.Proofs.YtingpmgpjmlioaaGreatDoor
