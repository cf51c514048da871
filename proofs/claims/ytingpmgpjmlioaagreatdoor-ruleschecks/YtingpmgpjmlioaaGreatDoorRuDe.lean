/-
  DERIVED. Events in a row of one's own; the walks of outcome and decide.
-/
import Derived.Test.YtingpmgpjmlioaaGreatDoorRuDc
import Derived.Laws.MakeOwn
import Derived.Deep.DeepAppendWide
namespace Go.Proofs.YtingpmgpjmlioaaGreatDoor
open Go.RowKit
set_option linter.unusedVariables false

/-- An event's cells. -/
structure ERow where
  type : List UInt8
  a : Option Addr
  n : Nat
  c : Nat
def ecs (R : List ERow) : List Value := R.flatMap (fun r => [sv r.type, .int .i64 0, .slice r.a r.n r.c])
theorem ecs_cons (f : ERow) (r : List ERow) : ecs (f :: r) = sv f.type :: .int .i64 0 :: .slice f.a f.n f.c :: ecs r := by simp [ecs]
theorem ecs_append (A B : List ERow) : ecs (A ++ B) = ecs A ++ ecs B := by simp [ecs]
theorem ecs_one (R : List ERow) : ∀ u ∈ ecs R, u.oneCell' = true := by
  induction R with
  | nil => intro u hu; simp [ecs] at hu
  | cons f r ih =>
    intro u hu
    rw [ecs_cons] at hu
    simp only [List.mem_cons] at hu
    rcases hu with rfl | rfl | rfl | hu
    · rfl
    · rfl
    · rfl
    · exact ih u hu
theorem ecs_get : ∀ (R : List ERow) (i : Nat) (r : ERow), R[i]? = some r → (ecs R)[i * 3]? = some (sv r.type) ∧ (ecs R)[i * 3 + 1]? = some (.int .i64 0) ∧ (ecs R)[i * 3 + 2]? = some (.slice r.a r.n r.c)
  | [], i, r, h => by simp at h
  | f :: q, 0, r, h => by simp at h; subst h; rw [ecs_cons]; simp
  | f :: q, i + 1, r, h => by
    have := ecs_get q i r (by simpa using h)
    rw [ecs_cons]
    have e : (i + 1) * 3 = i * 3 + 1 + 1 + 1 := by omega
    have e1 : (i + 1) * 3 + 1 = (i * 3 + 1) + 1 + 1 + 1 := by omega
    have e2 : (i + 1) * 3 + 2 = (i * 3 + 2) + 1 + 1 + 1 := by omega
    rw [e1, e2, e]
    simp only [List.getElem?_cons_succ]
    exact this

/-- Events in a row of one's own, their fields too. -/
def EvOwn (w : World) (base : Nat) (v : Value) (L : List EvM) : Prop :=
  ∃ R : List ERow, w.ownsRow base 34 3 v R.length (ecs R) ∧ R.length = L.length ∧ ∀ (i : Nat) (e : EvM) (r : ERow), L[i]? = some e → R[i]? = some r → r.type = e.type ∧ r.n = e.fields.length ∧ FOwn w base (.slice r.a r.n r.c) e.fields
theorem EvOwn.nil (w : World) (base : Nat) : EvOwn w base (.slice none 0 0) [] := ⟨[], World.ownsRow_nil _ _ _ _, rfl, fun i u r h => by simp at h⟩
theorem EvOwn.slice {w : World} {base : Nat} {v : Value} {L : List EvM} (h : EvOwn w base v L) : ∃ a c, v = .slice a L.length c := by
  obtain ⟨R, ⟨h1, h2⟩, h3, _⟩ := h
  rcases h2 with ⟨rfl, e⟩ | ⟨g, cap, cur, rfl, _⟩
  · exact ⟨none, 0, by rw [← h3, e]⟩
  · exact ⟨_, cap, by rw [← h3]⟩
theorem EvOwn.below {B base : Nat} {w w' : World} {v : Value} {l : List EvM} (h : EvOwn w base v l) (hb : Below B w w') (hB : w.heap.size ≤ B) : EvOwn w' base v l := by
  obtain ⟨R, ⟨h1, h2⟩, h3, h4⟩ := h
  refine ⟨R, ⟨h1, ?_⟩, h3, fun i e r hi hr => ?_⟩
  · rcases h2 with h | ⟨g, cap, cur, a, b, c, r⟩
    · exact .inl h
    · exact .inr ⟨g, cap, cur, a, b, (hb.block g (by have := lt_of_block c; omega)).trans c, r⟩
  · obtain ⟨a, b, c⟩ := h4 i e r hi hr
    exact ⟨a, b, c.below hb hB⟩
theorem ownsRow_mono {w : World} {base base' : Nat} {t : TypeId} {sz : Nat} {v : Value} {k : Nat} {xs : List Value} (h : w.ownsRow base t sz v k xs) (hb : base' ≤ base) : w.ownsRow base' t sz v k xs := by
  obtain ⟨h1, h2⟩ := h
  refine ⟨h1, ?_⟩
  rcases h2 with h | ⟨g, cap, cur, a, b, r⟩
  · exact .inl h
  · exact .inr ⟨g, cap, cur, a, by omega, r⟩
theorem EvOwn.mono {base base' : Nat} {w : World} {v : Value} {l : List EvM} (h : EvOwn w base v l) (hb : base' ≤ base) : EvOwn w base' v l := by
  obtain ⟨R, h1, h3, h4⟩ := h
  exact ⟨R, ownsRow_mono h1 hb, h3, fun i e r hi hr => ⟨(h4 i e r hi hr).1, (h4 i e r hi hr).2.1, (h4 i e r hi hr).2.2.mono hb⟩⟩
theorem Tryz.infoEvent : (Tryz.prog.info? 34).map (fun i => (i.zero, i.size, i.bytes)) = some (some (.agg ev00), 3, 48) := by kernel_rfl

theorem make_evs (w : World) (n : Nat) (hn : n ≤ 3600000000000) : ∃ w', (Instr.makeSlice 31 (.int .i64 0) (.int .i64 (n : Int))).run Tryz.prog w = .ok (.slice (some ⟨w.heap.size, 0, none⟩) 0 n) w' ∧ EvOwn w' w.heap.size (.slice (some ⟨w.heap.size, 0, none⟩) 0 n) [] ∧ Below w.heap.size w w' := by
  obtain ⟨i0, hi, hh⟩ := Option.map_eq_some_iff.1 Tryz.infoEvent
  simp only [Prod.mk.injEq] at hh
  obtain ⟨w', h1, h2, h3⟩ := run_make_own (P := Tryz.prog) w w.heap.size 31 34 i0 (.agg ev00) 3 Tryz.underlying31 hi hh.1 hh.2.1 .i64 .i64 n (by rw [hh.2.2]; omega) (by unfold maxLen; omega) (Nat.le_refl _)
  exact ⟨w', h1, ⟨[], h2, rfl, fun i u r h => by simp at h⟩, (Below.refl _ _).grown h3 (Nat.le_refl _) (fun k e => by cases e)⟩

/-- An append of an event. -/
theorem wpList_append_evm {w : World} {ops : Array Oper} {rest : List Oper} {o : Oper} {a : Act} {Q : Exit → Act → World → Prop} (hgd : o.guard = none) (s x : Operand)
    (ho : o.op = .call { callee := .builtin .append, args := #[s, x], argTypes := #[31, 31] })
    (base : Nat) (v : Value) (L : List EvM) (hs : a.eval s = v) (hown : EvOwn w base v L) (q : Nat) (e : EvM) (ca : Option Addr) (cn cc : Nat) (hx : a.eval x = .slice (some ⟨q, 0, none⟩) 1 1) (hq : w.heap[q]? = some (.cells (emvV e.type (.slice ca cn cc)) 34)) (hcn : cn = e.fields.length) (hf : FOwn w base (.slice ca cn cc) e.fields) (hlen : L.length ≤ 3600000000000) (hbase : base ≤ w.heap.size)
    (h : ∀ v' w', EvOwn w' base v' (L ++ [e]) → Below base w w' → wpList Tryz.prog ops Q rest (a.put o.dst v') w') : wpList Tryz.prog ops Q (o :: rest) a w := by
  obtain ⟨i0, hi, hh⟩ := Option.map_eq_some_iff.1 Tryz.infoEvent
  simp only [Prod.mk.injEq] at hh
  obtain ⟨R, hrow, hRl, hR⟩ := hown
  refine wpList_append_own_wide w hgd s x 31 ho base 34 i0 (.agg ev00) 3 48 Tryz.underlying31 hi hh.1 hh.2.1 hh.2.2 rfl (by decide) v R.length (ecs R) hs hrow ⟨q, 0, none⟩ 1 1 (ecs [⟨e.type, ca, cn, cc⟩]) hx (by simp [ecs]) (fun j y hj => by
    rw [addr_add, Nat.zero_add, cell_of_row _ _ _ _ _ _ hq]
    rw [← hj]; simp [ecs]) (ecs_one _) (by unfold maxLen; omega) (by omega) hbase ?_
  intro v' w' ho' hgr _
  have hkeep : ∀ (u : Value) (F : List Fld), FOwn w base u F → FOwn w' base u F := fun u F hu => by
    obtain ⟨h1, h2⟩ := hu
    refine ⟨h1, ?_⟩
    rcases h2 with h | ⟨g, cap, cur, a1, b1, c1, r1⟩
    · exact .inl h
    · refine .inr ⟨g, cap, cur, a1, b1, ?_, r1⟩
      refine (hgr.block g (lt_of_block c1) (fun he => ?_)).trans c1
      rcases hrow.2 with ⟨rfl, _⟩ | ⟨g', cap', cur', rfl, _, hg', _⟩
      · cases he
      · simp only [Value.ownBlock, Option.some.injEq] at he
        subst he
        rw [c1] at hg'
        exact absurd hg' (by simp)
  refine h v' w' ⟨R ++ [⟨e.type, ca, cn, cc⟩], by rw [ecs_append, List.length_append]; exact ho', by simp [hRl], fun i y r hy hr => ?_⟩ ((Below.refl _ _).grown hgr hbase ?_)
  · by_cases hil : i < L.length
    · rw [List.getElem?_append_left hil] at hy
      rw [List.getElem?_append_left (by omega)] at hr
      obtain ⟨a1, b1, c1⟩ := hR i y r hy hr
      exact ⟨a1, b1, hkeep _ _ c1⟩
    · have hi2 : i = L.length := by
        have := (List.getElem?_eq_some_iff.1 hy).1
        simp at this
        omega
      subst hi2
      rw [List.getElem?_append_right (Nat.le_refl _)] at hy
      rw [List.getElem?_append_right (by omega)] at hr
      simp at hy
      simp [hRl] at hr
      subst hy hr
      exact ⟨rfl, hcn, hkeep _ _ hf⟩
  · intro k hk
    rcases hrow.2 with ⟨rfl, _⟩ | ⟨g, cap', cur, rfl, hb, _⟩
    · cases hk
    · simp only [Value.ownBlock, Option.some.injEq] at hk; omega

def eventsG (ev : Em → Except Int EvM) : List Em → Except Int (List EvM)
  | [] => .ok []
  | m :: r => match ev m with
    | .error e => .error e
    | .ok v => match eventsG ev r with
      | .error e => .error e
      | .ok vs => .ok (v :: vs)
theorem eventsR_eq (S : Sc) : ∀ l, eventsR S l = eventsG (eventR S) l
  | [] => rfl
  | m :: r => by
    rw [eventsR, eventsG, eventsR_eq S r]
    generalize eventR S m = q
    cases q with
    | error e => rfl
    | ok v =>
      simp only
      generalize eventsG (eventR S) r = q2
      cases q2 <;> rfl
/-- Some came ahead. -/
def ahead (acc : List EvM) : Except Int (List EvM) → Except Int (List EvM)
  | .error e => .error e
  | .ok vs => .ok (acc ++ vs)
theorem eventsG_ok {ev : Em → Except Int EvM} {acc : List EvM} {l : List Em} {k : Nat} {m : Em} {v : EvM} (hk : l[k]? = some m) (hv : ev m = .ok v) : ahead acc (eventsG ev (l.drop k)) = ahead (acc ++ [v]) (eventsG ev (l.drop (k + 1))) := by
  rw [drop_consT hk, eventsG, hv]
  simp only
  cases eventsG ev (l.drop (k + 1)) <;> simp [ahead]
theorem eventsG_bad {ev : Em → Except Int EvM} {acc : List EvM} {l : List Em} {k : Nat} {m : Em} {n : Int} (hk : l[k]? = some m) (hv : ev m = .error n) : ahead acc (eventsG ev (l.drop k)) = .error n := by
  rw [drop_consT hk, eventsG, hv]; rfl
theorem eventsG_end {ev : Em → Except Int EvM} {acc : List EvM} {l : List Em} {k : Nat} (hk : l.length ≤ k) : ahead acc (eventsG ev (l.drop k)) = .ok acc := by
  rw [List.drop_eq_nil_of_le hk, eventsG]; simp [ahead]

abbrev dc0 : Array Value := #[.bool false, .string ⟨#[]⟩, .slice none 0 0]
abbrev dcV (d : Dc) (v : Value) : Array Value := #[.bool d.refused, sv d.reason, v]
theorem sizeDecision : (Tryz.prog.info? 37).map (·.size) = some 3 := by kernel_rfl
/-- What outcome, decide and Decide come to. -/
def EndsD (w : World) (r : Except Int Dc) (e : Ending) (w' : World) : Prop :=
  (match r with
    | .ok d => ∃ v, e = .returned (.agg (dcV d v)) ∧ EvOwn w' w.heap.size v d.events
    | .error n => e = pan n) ∧ Below w.heap.size w w'
/-- Where outcome stands. -/
structure OuSt (w wr : World) (v : Value) (L : List EvM) (k : Nat) : Prop where
  bel : Below w.heap.size w wr
  own : EvOwn wr w.heap.size v L
  len : L.length = k
theorem OuSt.grown {w wr wr' : World} {v : Value} {L : List EvM} {k : Nat} (h : OuSt w wr v L k) (hb : Below wr.heap.size wr wr') : OuSt w wr' v L k :=
  ⟨h.bel.trans (hb.mono h.bel.size), h.own.below hb (Nat.le_refl _), h.len⟩
theorem ou_next {w w6 w7 : World} {v : Value} {L : List EvM} {e : EvM} {k : Nat} (b6 : Below w.heap.size w w6) (b7 : Below w.heap.size w6 w7) (o7 : EvOwn w7 w.heap.size v (L ++ [e])) (hl : L.length = k) : ∃ a n c, v = .slice a n c ∧ OuSt w w7 (.slice a n c) (L ++ [e]) (k + 1) := by
  obtain ⟨a, c, rfl⟩ := o7.slice
  exact ⟨a, _, c, rfl, b6.trans b7, o7, by rw [List.length_append, hl]; rfl⟩
theorem evown_put3 {w : World} {base q : Nat} {v : Value} {L : List EvM} (h : EvOwn w base v L) (hq : q < base) (x0 x1 x2 : Value) : EvOwn (put3 w q x0 x1 x2) base v L := by
  have hk : ∀ g, base ≤ g → (put3 w q x0 x1 x2).heap[g]? = w.heap[g]? := fun g hg => by
    rw [heap_setCell_other _ ⟨q, 2, none⟩ _ _ (show g ≠ q by omega), heap_setCell_other _ ⟨q, 1, none⟩ _ _ (show g ≠ q by omega), heap_setCell_other _ ⟨q, 0, none⟩ _ _ (show g ≠ q by omega)]
  obtain ⟨R, ⟨h1, h2⟩, h3, h4⟩ := h
  refine ⟨R, ⟨h1, ?_⟩, h3, fun i e r hi hr => ?_⟩
  · rcases h2 with h | ⟨g, cap, cur, a, b, c, r⟩
    · exact .inl h
    · exact .inr ⟨g, cap, cur, a, b, (hk g b).trans c, r⟩
  · obtain ⟨a, b, c1, c2⟩ := h4 i e r hi hr
    refine ⟨a, b, c1, ?_⟩
    rcases c2 with h | ⟨g, cap, cur, a, b, c, r⟩
    · exact .inl h
    · exact .inr ⟨g, cap, cur, a, b, (hk g b).trans c, r⟩

set_option maxRecDepth 20000 in
set_option maxHeartbeats 8000000 in
theorem outcome_any (S : Sc) (x : CsV) (w : World) (hx : CsO w x) (hxl : x.emits.length ≤ 3600000000000) (hel : ∀ m ∈ x.emits, m.sets.length ≤ 2000000000000) (hS : S.at w) (hva : Vars w) :
    Calls Tryz.prog 80 #[.agg (scv S), .agg x.v] w (EndsD w (outcomeR S x.p)) := by
  obtain ⟨-, hl1, hl2⟩ := hx.2.len
  have hb2 := below3 w (.cells (scv S) 82) (.cells x.v 66) (.cells dc0 37)
  obtain ⟨hs2, hm2, he2⟩ := boxes3 w (.cells (scv S) 82) (.cells x.v 66) (.cells dc0 37)
  obtain ⟨w2, hw2⟩ : ∃ w2, w2 = ((w.alloc (.cells (scv S) 82)).alloc (.cells x.v 66)).alloc (.cells dc0 37) := ⟨_, rfl⟩
  rw [← hw2] at hb2 hs2 hm2 he2
  have HB2 := hide hb2
  have hs2' : SBox w2 w.heap.size S := hs2
  have HL := hide (SlOf.grown hx.2 (fun _ _ _ _ _ => EmR.grown) hb2)
  have HEl := hide hel
  have HC : Hid (∀ (W : World) (m : EmV), Below w2.heap.size w2 W → EmO W m → m.sets.length ≤ 2000000000000 → Calls Tryz.prog 102 #[.agg (scv S), .agg m.v] W (EndsE W (eventR S m.p))) := hide (fun W m hW hm hml =>
    have h0 := hb2.trans (hW.mono hb2.size)
    event_any S m W hm hml (hS.grown h0) (hva.below h0 (Nat.le_refl _)))
  have HS2 : Hid (∀ W, Below w2.heap.size w2 W → W.cell? ⟨w.heap.size, 0, none⟩ = some (sv S.stream) ∧ W.cell? ⟨w.heap.size, 1, none⟩ = some (.slice S.sa S.state.length S.sc) ∧ W.cell? ⟨w.heap.size, 2, none⟩ = some (.slice S.ga S.given.length S.gc) ∧ W.cell? ⟨w.heap.size, 3, none⟩ = some (.map (some S.mp))) := hide (fun W hW => by
    obtain ⟨s0, s1, s2, s3, -⟩ := (hs2'.below hW (Nat.le_refl _)).cells
    exact ⟨s0, s1, s2, s3⟩)
  obtain ⟨N, hN⟩ : ∃ N, N = x.emits.length := ⟨_, rfl⟩
  have HM : Hid (∀ W, Below w2.heap.size w2 W → W.cell? ⟨w.heap.size + 1, 1, none⟩ = some (sv x.refuse) ∧ W.cell? ⟨w.heap.size + 1, 2, none⟩ = some (.slice x.ea N x.ec)) := hide (fun W hW => ⟨kept hW ((cell_of_row _ _ _ _ _ _ hm2).trans rfl), kept hW ((cell_of_row _ _ _ _ _ _ hm2).trans (by rw [hN]; rfl))⟩)
  have HE2 : Hid (∀ W, Below w2.heap.size w2 W → W.heap[w.heap.size + 2]? = some (.cells dc0 37)) := hide (fun W hW => rowKept he2 hW (Nat.le_refl _))
  obtain ⟨ev, hev⟩ : ∃ ev : Em → Except Int EvM, ev = eventR S := ⟨_, rfl⟩
  obtain ⟨R, hR⟩ : ∃ R, R = outcomeR S x.p := ⟨_, rfl⟩
  rw [← hR]
  have HR : Hid (R = if x.emits.map EmV.p = [] then .ok ⟨true, x.refuse, []⟩ else match eventsG ev (x.emits.map EmV.p) with | .error e => .error e | .ok vs => .ok ⟨false, [], vs⟩) := hide (by
    rw [hR, hev, ← eventsR_eq]; rfl)
  rw [← hev] at HC
  have HN := hide hN
  have HW : Hid (w2 = ((w.alloc (.cells (scv S) 82)).alloc (.cells #[.slice x.wa x.whn.length x.wc, sv x.refuse, .slice x.ea N x.ec] 66)).alloc (.cells dc0 37)) := hide (by rw [hN]; exact hw2)
  have harg : x.v = #[.slice x.wa x.whn.length x.wc, sv x.refuse, .slice x.ea N x.ec] := by rw [hN]
  rw [harg]
  rw [← hN] at hl1 HL hxl
  obtain ⟨B, hB⟩ : ∃ B, B = w.heap.size := ⟨_, rfl⟩
  have HBe := hide hB
  rw [← hB] at HS2 HM HE2
  obtain ⟨st, sl, gl, sa, sc, ga, gc, mp⟩ := S
  simp only at HS2
  simp only [scv] at HW HC ⊢
  obtain ⟨SN, hSN⟩ : ∃ SN, SN = sl.length := ⟨_, rfl⟩
  obtain ⟨GN, hGN⟩ : ∃ GN, GN = gl.length := ⟨_, rfl⟩
  obtain ⟨WN, hWN⟩ : ∃ WN, WN = x.whn.length := ⟨_, rfl⟩
  rw [← hSN, ← hGN] at HW HS2 HC ⊢
  rw [← hWN] at HW ⊢
  have hBB : w2.heap.size = B + 3 := by rw [hw2, hB]; simp
  have hBw : w.heap.size ≤ B + 2 := by omega
  clear hx hS hva hw2 hb2 hs2 hm2 he2 hs2' hN hB hR hev hSN hGN hWN harg hel
  have hmk := make_evs w2 N hxl
  go_enter Tryz.func80, Tryz.ntmps80
  go_upto_region 1 with fail
  rw [show ((w.alloc (.cells #[Value.string ⟨st.toArray⟩, .slice sa SN sc, .slice ga GN gc, .map (some mp)] 82)).alloc (.cells #[Value.slice x.wa WN x.wc, .string ⟨x.refuse.toArray⟩, .slice x.ea N x.ec] 66)).alloc (.cells #[Value.bool false, .string ⟨#[]⟩, .slice none 0 0] 37) = w2 from (unhide HW).symm]
  rw [← unhide HBe]
  obtain ⟨m1, m2⟩ := unhide HM w2 (Below.refl _ _)
  by_cases hz : N = 0
  · subst hz
    have he := unhide HE2 w2 (Below.refl _ _)
    obtain ⟨e0, e1, e2, ef⟩ := cells3 he
    have HP := hide (row_put3 he (.bool true) (sv x.refuse) (.slice none 0 0))
    have HQ := hide (below_put3 (unhide HB2) hBw (.bool true) (sv x.refuse) (.slice none 0 0))
    have HX : Hid (R = .ok ⟨true, x.refuse, []⟩) := hide (by rw [unhide HR, if_pos (by have := unhide HN; simpa using this.symm)])
    clear he hmk
    go_wp2_with fail
    refine bodyPost_ret (results_cell_row rfl _ _ (B + 2) 37 (dcV ⟨true, x.refuse, []⟩ (.slice none 0 0)) (0, 0) _ rfl (unhide HP) Tryz.underlying37 rfl sizeDecision) rfl ?_
    refine ⟨?_, unhide HQ⟩
    rw [unhide HX]
    exact ⟨_, rfl, EvOwn.nil _ _⟩
  · have HR2 : Hid (R = match eventsG ev (x.emits.map EmV.p) with | .error e => .error e | .ok vs => .ok ⟨false, [], vs⟩) := hide (by rw [unhide HR, if_neg (by have := unhide HN; intro h; simp at h; rw [h] at this; simp at this; exact hz this)])
    have hz' : decide ((N : Int) = 0) = false := by simp; omega
    have hz2 : ((N : Int) == 0) = false := by simp; omega
    obtain ⟨w3, hmk1, hmk2, hmk3⟩ := hmk
    have HSt : Hid (OuSt w2 w3 (.slice (some ⟨w2.heap.size, 0, none⟩) 0 N) [] 0) := hide ⟨hmk3, hmk2, rfl⟩
    obtain ⟨m1', m2'⟩ := unhide HM w3 hmk3
    obtain ⟨g3, hg3⟩ : ∃ g3, g3 = w2.heap.size := ⟨_, rfl⟩
    rw [← hg3] at hmk1 HSt
    clear hz hmk2 hmk3 hg3
    go_wp2_with fail
    clear m1 m2 m1' m2' hmk1
    go_loopw [5, 7, 22] (fun v _ i wr => ∃ (k : Nat) (L : List EvM), k ≤ N ∧ i = .int .i64 k ∧ Hid (eventsG ev (x.emits.map EmV.p) = ahead L (eventsG ev ((x.emits.map EmV.p).drop k))) ∧ Hid (OuSt w2 wr v L k)) (fun _ _ i _ => N - (intOf i).toNat)
    case atStart => exact ⟨0, [], by omega, rfl, hide (by simp only [List.drop_zero]; cases eventsG ev (x.emits.map EmV.p) <;> simp [ahead]), HSt⟩
    case round =>
      obtain ⟨k, L, hk, rfl, HA, HF⟩ := hrel
      clear HSt
      obtain ⟨ca, cc, rfl⟩ := (unhide HF).own.slice
      by_cases hlt : k < N
      · obtain ⟨m, huk⟩ : ∃ u, x.emits[k]? = some u := ⟨_, List.getElem?_eq_getElem (by have := unhide HN; omega)⟩
        have HUk := hide (show (x.emits.map EmV.p)[k]? = some m.p by rw [List.getElem?_map, huk]; rfl)
        have hml := unhide HEl m (List.mem_of_getElem? huk)
        obtain ⟨b, off, hma, -, d0, d1, hat⟩ := ((unhide HL).grown (fun _ _ _ _ _ => EmR.grown) (unhide HF).bel).at huk
        rw [hma]
        clear huk
        go_upto_region 7 with fail
        have hb4 : Below wr.heap.size wr (wr.alloc (.cells m.v 94)) := (Below.refl _ _).alloc (Nat.le_refl _) _
        have hx4 : (wr.alloc (.cells m.v 94)).heap[wr.heap.size]? = some (.cells m.v 94) := heap_alloc_new _ _
        have HF4 := hide ((unhide HF).grown hb4)
        have HK := hide (hat.grown hb4)
        obtain ⟨w4, hw4⟩ : ∃ w4, w4 = wr.alloc (.cells m.v 94) := ⟨_, rfl⟩
        rw [show wr.alloc (.cells #[Value.string ⟨m.type.toArray⟩, .slice m.a m.sets.length m.c] 94) = w4 from hw4.symm]
        rw [← hw4] at hx4 HF4 HK
        obtain ⟨p4, hp4⟩ : ∃ p4, p4 = wr.heap.size := ⟨_, rfl⟩
        rw [← hp4] at hx4 ⊢
        have z0 : w4.cell? ⟨p4, 0, none⟩ = some (sv m.type) := (cell_of_row _ _ _ _ _ _ hx4).trans rfl
        have z1 : w4.cell? ⟨p4, 1, none⟩ = some (.slice m.a m.sets.length m.c) := (cell_of_row _ _ _ _ _ _ hx4).trans rfl
        obtain ⟨s0, s1, s2, s3⟩ := unhide HS2 w4 (unhide HF4).bel
        have HC4 := hide (unhide HC w4 m (unhide HF4).bel (unhide HK) hml)
        clear hb4 hw4 hp4 d0 d1 hx4 hat hml
        cases hT : ev m.p with
        | error n =>
          have HX := hide (show R = .error n by rw [unhide HR2, unhide HA, eventsG_bad (unhide HUk) hT])
          rw [hT] at HC4
          clear hT
          go_wp2_with (go_at_call 102; refine (unhide HC4).mono ?_; rintro e w5 ⟨rfl, b5⟩; have HB5 := hide ((unhide HF4).grown b5).bel; clear b5)
          exact ⟨rfl, by rw [unhide HX]; exact ⟨rfl, (unhide HB2).trans ((unhide HB5).mono (unhide HB2).size)⟩⟩
        | ok v =>
          have HA2 := hide ((unhide HA).trans (eventsG_ok (unhide HUk) hT))
          rw [hT] at HC4
          clear hT
          obtain ⟨vt, vf⟩ := v
          have HLk := hide (unhide HF4).len
          obtain ⟨LL, hLL⟩ : ∃ LL, LL = L.length := ⟨_, rfl⟩
          rw [← hLL]
          have HLL := hide hLL
          clear hLL
          go_wp2_with (first
            | (go_at_call 102; refine (unhide HC4).mono ?_; rintro e w5 ⟨⟨fv, rfl, o5⟩, b5⟩; obtain ⟨fa, fc, rfl, -⟩ := o5.fdn; have hb6 : Below w5.heap.size w5 (w5.alloc (.cells (emvV vt (.slice fa vf.length fc)) 34)) := (Below.refl _ _).alloc (Nat.le_refl _) _; have HF6 := hide (((unhide HF4).grown b5).grown hb6); have HO6 := hide ((o5.mono (unhide HF4).bel.size).below hb6 (Nat.le_refl _)); have HX6 : Hid ((w5.alloc (.cells (emvV vt (.slice fa vf.length fc)) 34)).heap[w5.heap.size]? = some (.cells (emvV vt (.slice fa vf.length fc)) 34)) := hide (heap_alloc_new _ _); clear b5 o5 hb6 z0 z1 s0 s1 s2 s3)
            | (at_builtin; refine wpList_append_evm rfl (.tmp 26) (.tmp 30) rfl w2.heap.size (.slice ca LL cc) L rfl (by rw [unhide HLL]; exact (unhide HF6).own) _ ⟨vt, vf⟩ _ _ _ rfl (unhide HX6) rfl (unhide HO6) (by rw [unhide HLk]; omega) (unhide HF6).bel.size ?_; intro v7 w7 o7 b7; obtain ⟨ca7, cn7, cc7, rfl, hf7⟩ := ou_next (unhide HF6).bel b7 o7 (unhide HLk); have HF7 := hide hf7; clear hf7; clear o7 b7))
          go_roundw
          case rel => exact ⟨k + 1, _, by omega, by go_num, HA2, HF7⟩
          case measure => simp [intOf]; omega
      · have HX : Hid (R = .ok ⟨false, [], L⟩) := hide (by
          rw [unhide HR2, unhide HA, eventsG_end (by simp; have := unhide HN; omega)])
        have he := unhide HE2 wr (unhide HF).bel
        obtain ⟨e0, e1, e2, ef⟩ := cells3 he
        obtain ⟨LL, hLL⟩ : ∃ LL, LL = L.length := ⟨_, rfl⟩
        have HP := hide (row_put3 he (.bool false) (sv []) (.slice ca LL cc))
        have HQ : Hid (EvOwn (put3 wr (B + 2) (.bool false) (sv []) (.slice ca LL cc)) w2.heap.size (.slice ca LL cc) L ∧ Below w.heap.size w (put3 wr (B + 2) (.bool false) (sv []) (.slice ca LL cc))) := hide (by
          rw [hLL]
          exact ⟨evown_put3 (unhide HF).own (by omega) _ _ _, below_put3 ((unhide HB2).trans ((unhide HF).bel.mono (unhide HB2).size)) hBw _ _ _⟩)
        rw [← hLL]
        clear hLL he
        go_wp2_with fail
        refine bodyPost_ret (results_cell_row rfl _ _ (B + 2) 37 (dcV ⟨false, [], L⟩ (.slice ca LL cc)) (0, 0) _ rfl (unhide HP) Tryz.underlying37 rfl sizeDecision) rfl ?_
        refine ⟨?_, (unhide HQ).2⟩
        rw [unhide HX]
        exact ⟨_, rfl, (unhide HQ).1.mono (unhide HB2).size⟩
end Go.Proofs.YtingpmgpjmlioaaGreatDoor

namespace Go.Proofs.YtingpmgpjmlioaaGreatDoor
open Go.RowKit
set_option linter.unusedVariables false

/-- A case's sizes. -/
def bigCs (x : CsV) : Prop := x.emits.length ≤ 3600000000000 ∧ ∀ m ∈ x.emits, m.sets.length ≤ 2000000000000

def decideG (al : List Cd → Except Int Bool) (out : Cs → Except Int Dc) : List Cs → Except Int Dc
  | [] => .ok ⟨true, noCaseT, []⟩
  | c :: r => match al c.whn with
    | .error e => .error e
    | .ok true => out c
    | .ok false => decideG al out r
theorem decideR_eq (S : Sc) : ∀ l, decideR S l = decideG (allR S) (outcomeR S) l
  | [] => rfl
  | c :: r => by
    rw [decideR, decideG, decideR_eq S r]
    generalize allR S c.whn = q
    cases q with
    | error e => rfl
    | ok b => cases b <;> rfl
theorem decideG_err {al : List Cd → Except Int Bool} {out : Cs → Except Int Dc} {l : List Cs} {k : Nat} {c : Cs} {n : Int} (hk : l[k]? = some c) (h : al c.whn = .error n) : decideG al out (l.drop k) = .error n := by
  rw [drop_consT hk, decideG, h]
theorem decideG_yes {al : List Cd → Except Int Bool} {out : Cs → Except Int Dc} {l : List Cs} {k : Nat} {c : Cs} (hk : l[k]? = some c) (h : al c.whn = .ok true) : decideG al out (l.drop k) = out c := by
  rw [drop_consT hk, decideG, h]
theorem decideG_no {al : List Cd → Except Int Bool} {out : Cs → Except Int Dc} {l : List Cs} {k : Nat} {c : Cs} (hk : l[k]? = some c) (h : al c.whn = .ok false) : decideG al out (l.drop k) = decideG al out (l.drop (k + 1)) := by
  rw [drop_consT hk, decideG, h]

set_option maxRecDepth 20000 in
set_option maxHeartbeats 8000000 in
theorem decide_any (S : Sc) (a : Option Addr) (c : Nat) (l : List CsV) (w : World) (hl : SlOf 3 CsR w (.slice a l.length c) l) (hbig : ∀ x ∈ l, bigCs x) (hS : S.at w) (hva : Vars w) :
    Calls Tryz.prog 37 #[.agg (scv S), .slice a l.length c] w (EndsD w (decideR S (l.map CsV.p))) := by
  obtain ⟨-, hl1, hl2⟩ := hl.len
  have hb2 := below2 w (.cells (scv S) 82) (.cells dc0 37)
  obtain ⟨hs2, he2⟩ := boxes2 w (.cells (scv S) 82) (.cells dc0 37)
  obtain ⟨w2, hw2⟩ : ∃ w2, w2 = (w.alloc (.cells (scv S) 82)).alloc (.cells dc0 37) := ⟨_, rfl⟩
  rw [← hw2] at hb2 hs2 he2
  have HB2 := hide hb2
  have hs2' : SBox w2 w.heap.size S := hs2
  have HL := hide (SlOf.grown hl (fun _ _ _ _ _ => CsR.grown) hb2)
  have HBig := hide hbig
  have HC : Hid (∀ (W : World) (x : CsV), Below w2.heap.size w2 W → CsO W x → Calls Tryz.prog 79 #[.agg (scv S), .slice x.wa x.whn.length x.wc] W (EndsB W (allR S (x.whn.map CdV.p)))) := hide (fun W x hW hx =>
    have h0 := hb2.trans (hW.mono hb2.size)
    allHold_any S x.wa x.wc x.whn W hx.1 (hS.grown h0) (hva.below h0 (Nat.le_refl _)))
  have HO : Hid (∀ (W : World) (x : CsV), Below w2.heap.size w2 W → CsO W x → bigCs x → Calls Tryz.prog 80 #[.agg (scv S), .agg x.v] W (EndsD W (outcomeR S x.p))) := hide (fun W x hW hx hb =>
    have h0 := hb2.trans (hW.mono hb2.size)
    outcome_any S x W hx hb.1 hb.2 (hS.grown h0) (hva.below h0 (Nat.le_refl _)))
  have HS2 : Hid (∀ W, Below w2.heap.size w2 W → W.cell? ⟨w.heap.size, 0, none⟩ = some (sv S.stream) ∧ W.cell? ⟨w.heap.size, 1, none⟩ = some (.slice S.sa S.state.length S.sc) ∧ W.cell? ⟨w.heap.size, 2, none⟩ = some (.slice S.ga S.given.length S.gc) ∧ W.cell? ⟨w.heap.size, 3, none⟩ = some (.map (some S.mp))) := hide (fun W hW => by
    obtain ⟨s0, s1, s2, s3, -⟩ := (hs2'.below hW (Nat.le_refl _)).cells
    exact ⟨s0, s1, s2, s3⟩)
  have HE2 : Hid (∀ W, Below w2.heap.size w2 W → W.heap[w.heap.size + 1]? = some (.cells dc0 37)) := hide (fun W hW => rowKept he2 hW (Nat.le_refl _))
  obtain ⟨al, hal⟩ : ∃ al : List Cd → Except Int Bool, al = allR S := ⟨_, rfl⟩
  obtain ⟨out, hout⟩ : ∃ out : Cs → Except Int Dc, out = outcomeR S := ⟨_, rfl⟩
  obtain ⟨R, hR⟩ : ∃ R, R = decideR S (l.map CsV.p) := ⟨_, rfl⟩
  rw [← hR]
  have HR : Hid (R = decideG al out (l.map CsV.p)) := hide (by rw [hR, hal, hout, decideR_eq])
  rw [← hal] at HC
  rw [← hout] at HO
  obtain ⟨N, hN⟩ : ∃ N, N = l.length := ⟨_, rfl⟩
  have HN := hide hN
  rw [← hN] at hl1 HL ⊢
  have HW := hide hw2
  obtain ⟨B, hB⟩ : ∃ B, B = w.heap.size := ⟨_, rfl⟩
  have HBe := hide hB
  rw [← hB] at HS2 HE2
  obtain ⟨st, sl, gl, sa, sc, ga, gc, mp⟩ := S
  simp only at HS2
  simp only [scv] at HW HC HO ⊢
  obtain ⟨SN, hSN⟩ : ∃ SN, SN = sl.length := ⟨_, rfl⟩
  obtain ⟨GN, hGN⟩ : ∃ GN, GN = gl.length := ⟨_, rfl⟩
  rw [← hSN, ← hGN] at HW HS2 HC HO ⊢
  have hBB : w2.heap.size = B + 2 := by rw [hw2, hB]; simp
  have hBw : w.heap.size ≤ B + 1 := by omega
  clear hl hS hva hw2 hb2 hs2 he2 hs2' hN hB hR hal hout hSN hGN hbig
  go_enter Tryz.func37, Tryz.ntmps37
  go_upto_region 1 with fail
  rw [show (w.alloc (.cells #[Value.string ⟨st.toArray⟩, .slice sa SN sc, .slice ga GN gc, .map (some mp)] 82)).alloc (.cells #[Value.bool false, .string ⟨#[]⟩, .slice none 0 0] 37) = w2 from (unhide HW).symm]
  rw [← unhide HBe]
  go_wp2_with fail
  go_loopw [6, 9] (fun _ i wr => ∃ (k : Nat), k ≤ N ∧ i = .int .i64 k ∧ Hid (R = decideG al out ((l.map CsV.p).drop k)) ∧ Hid (Below w2.heap.size w2 wr)) (fun _ i _ => N - (intOf i).toNat)
  case atStart => exact ⟨0, by omega, rfl, hide (by simp only [List.drop_zero]; exact unhide HR), hide (Below.refl _ _)⟩
  case round =>
    obtain ⟨k, hk, rfl, HA, HB⟩ := hrel
    by_cases hlt : k < N
    · obtain ⟨x, huk⟩ : ∃ u, l[k]? = some u := ⟨_, List.getElem?_eq_getElem (by have := unhide HN; omega)⟩
      have HUk := hide (show (l.map CsV.p)[k]? = some x.p by rw [List.getElem?_map, huk]; rfl)
      have HBx := hide (unhide HBig x (List.mem_of_getElem? huk))
      obtain ⟨b, off, hma, -, d0, d1, d2, hat⟩ := ((unhide HL).grown (fun _ _ _ _ _ => CsR.grown) (unhide HB)).at huk
      rw [hma]
      clear huk
      go_upto_region 4 with fail
      have hb4 : Below wr.heap.size wr (wr.alloc (.cells x.v 66)) := (Below.refl _ _).alloc (Nat.le_refl _) _
      have hx4 : (wr.alloc (.cells x.v 66)).heap[wr.heap.size]? = some (.cells x.v 66) := heap_alloc_new _ _
      have HB4 := hide ((unhide HB).trans (hb4.mono (unhide HB).size))
      have HK := hide (hat.grown hb4)
      obtain ⟨w4, hw4⟩ : ∃ w4, w4 = wr.alloc (.cells x.v 66) := ⟨_, rfl⟩
      rw [show wr.alloc (.cells #[Value.slice x.wa x.whn.length x.wc, .string ⟨x.refuse.toArray⟩, .slice x.ea x.emits.length x.ec] 66) = w4 from hw4.symm]
      rw [← hw4] at hx4 HB4 HK
      obtain ⟨p4, hp4⟩ : ∃ p4, p4 = wr.heap.size := ⟨_, rfl⟩
      rw [← hp4] at hx4 ⊢
      have HX4 := hide hx4
      obtain ⟨z0, z1, z2, -⟩ := cells3 hx4
      obtain ⟨s0, s1, s2, s3⟩ := unhide HS2 w4 (unhide HB4)
      have HC4 := hide (unhide HC w4 x (unhide HB4) (unhide HK))
      clear hb4 hw4 hp4 d0 d1 d2 hx4 hat
      cases hT : al (x.whn.map CdV.p) with
      | error n =>
        have HX := hide ((unhide HA).trans (decideG_err (unhide HUk) hT))
        rw [hT] at HC4
        clear hT
        go_wp2_with (go_at_call 79; refine (unhide HC4).mono ?_; rintro e w5 ⟨rfl, b5⟩; have HB5 := hide ((unhide HB4).trans (b5.mono (unhide HB4).size)); clear b5)
        exact ⟨rfl, by rw [unhide HX]; exact ⟨rfl, (unhide HB2).trans ((unhide HB5).mono (unhide HB2).size)⟩⟩
      | ok t =>
        cases t with
        | false =>
          have HX := hide ((unhide HA).trans (decideG_no (unhide HUk) hT))
          rw [hT] at HC4
          clear hT
          go_wp2_with (go_at_call 79; refine (unhide HC4).mono ?_; rintro e w5 ⟨rfl, b5⟩; have HB5 := hide ((unhide HB4).trans (b5.mono (unhide HB4).size)); clear b5)
          go_roundw
          case rel => exact ⟨k + 1, by omega, by go_num, HX, HB5⟩
          case measure => simp [intOf]; omega
        | true =>
          have HX := hide ((unhide HA).trans (decideG_yes (unhide HUk) hT))
          rw [hT] at HC4
          clear hT
          go_upto_region 5 with (go_at_call 79; refine (unhide HC4).mono ?_; rintro e w5 ⟨rfl, b5⟩; have HB5 := hide ((unhide HB4).trans (b5.mono (unhide HB4).size)); have HX5 := hide (rowKept (unhide HX4) b5 (Nat.le_refl _)); have HK5 := hide ((unhide HK).grown b5); clear b5)
          clear z0 z1 z2 s0 s1 s2 s3
          obtain ⟨z0, z1, z2, -⟩ := cells3 (unhide HX5)
          obtain ⟨s0, s1, s2, s3⟩ := unhide HS2 w5 (unhide HB5)
          have HO5 := hide (unhide HO w5 x (unhide HB5) (unhide HK5) (unhide HBx))
          rw [← unhide HX] at HO5
          cases R with
          | error n =>
            go_wp2_with (go_at_call 80; refine (unhide HO5).mono ?_; rintro e w6 ⟨rfl, b6⟩; have HB6 := hide ((unhide HB5).trans (b6.mono (unhide HB5).size)); clear b6)
            exact ⟨rfl, rfl, (unhide HB2).trans ((unhide HB6).mono (unhide HB2).size)⟩
          | ok d =>
            obtain ⟨dr, ds, de⟩ := d
            go_wp2_with (go_at_call 80; refine (unhide HO5).mono ?_; rintro e w6 ⟨⟨v, rfl, o6⟩, b6⟩; have HB6 := hide ((unhide HB5).trans (b6.mono (unhide HB5).size)); have he := unhide HE2 w6 (unhide HB6); obtain ⟨va, vc, hv⟩ := o6.slice; obtain ⟨vn, hvn⟩ : ∃ vn, vn = de.length := ⟨_, rfl⟩; rw [← hvn] at hv; subst hv; obtain ⟨e0, e1, e2, ef⟩ := cells3 he; have HP := hide (row_put3 he (.bool dr) (sv ds) (.slice va vn vc)); have HQ := hide (And.intro (evown_put3 (o6.mono (base' := w2.heap.size) (unhide HB5).size) (show B + 1 < w2.heap.size by omega) (.bool dr) (sv ds) (.slice va vn vc)) (below_put3 ((unhide HB2).trans ((unhide HB6).mono (unhide HB2).size)) hBw (.bool dr) (sv ds) (.slice va vn vc))); clear b6 o6 he hvn z0 z1 z2 s0 s1 s2 s3)
            refine bodyPost_ret (results_cell_row rfl _ _ (B + 1) 37 (dcV ⟨dr, ds, de⟩ (.slice va vn vc)) (0, 0) _ rfl (unhide HP) Tryz.underlying37 rfl sizeDecision) rfl ?_
            exact ⟨⟨_, rfl, (unhide HQ).1.mono (unhide HB2).size⟩, (unhide HQ).2⟩
    · have HX : Hid (R = .ok ⟨true, noCaseT, []⟩) := hide (by rw [unhide HA, List.drop_eq_nil_of_le (by simp; have := unhide HN; omega)]; rfl)
      have he := unhide HE2 wr (unhide HB)
      obtain ⟨e0, e1, e2, ef⟩ := cells3 he
      have HP := hide (row_put3 he (.bool true) (sv noCaseT) (.slice none 0 0))
      have HQ := hide (below_put3 ((unhide HB2).trans ((unhide HB).mono (unhide HB2).size)) hBw (.bool true) (sv noCaseT) (.slice none 0 0))
      clear he
      go_wp2_with fail
      refine bodyPost_ret (results_cell_row rfl _ _ (B + 1) 37 (dcV ⟨true, noCaseT, []⟩ (.slice none 0 0)) (0, 0) _ rfl (unhide HP) Tryz.underlying37 rfl sizeDecision) rfl ?_
      refine ⟨?_, unhide HQ⟩
      rw [unhide HX]
      exact ⟨_, rfl, EvOwn.nil _ _⟩
end Go.Proofs.YtingpmgpjmlioaaGreatDoor
