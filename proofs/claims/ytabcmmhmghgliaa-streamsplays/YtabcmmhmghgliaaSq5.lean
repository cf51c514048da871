/-
  DERIVED. The law's own: events in memory of their own, with a mark behind each one's fields.
-/
import Derived.Test.YtabcmmhmghgliaaSp13
import Derived.Laws.OwnMore
namespace Go.Proofs.Ytabcmmhmghgliaa
open Go.RowKit
set_option linter.unusedVariables false

theorem run_append_nil {w : World} {base : Nat} (t ty e : TypeId) (i : TypeInfo) (size : Nat) (ht : Try.prog.underlying t = some (.slice e)) (hi : Try.prog.info? e = some i)
    (v : Value) (n c : Nat) (xs : List Value) (hown : w.ownsRow base e size v n xs) :
    (Builtin.append_ #[t, t] ty #[v, .slice none 0 c]).run Try.prog w = .ok v w := by
  rcases hown.2 with ⟨rfl, rfl⟩ | ⟨g, cap, cur, rfl, _, _, hnc, _⟩
  · simp [Builtin.append_, run_underlying ht, sizeOf, typeInfo, hi, Builtin.lenOf, Builtin.firstCells]
  · simp [Builtin.append_, run_underlying ht, sizeOf, typeInfo, hi, Builtin.lenOf, Builtin.firstCells, hnc, storeCells]
/-- A field that marks; one that is spoilt. -/
def mineF : Fld := ⟨[109, 105, 110, 101], false, 0, []⟩
def spF : Fld := ⟨[115, 112, 111, 105, 108, 116], false, 0, []⟩
theorem fcells_app (a b : List Fld) : fcells (a ++ b) = fcells a ++ fcells b := by simp [fcells]
def FRow (w : World) (base : Nat) (v : Value) (fs : List Fld) : Prop := w.ownsRow base 73 4 v fs.length (fcells fs)
theorem FRow.sl {w : World} {base : Nat} {v : Value} {fs : List Fld} (h : FRow w base v fs) : ∃ a c, v = .slice a fs.length c := by
  rcases h.2 with ⟨e, h0⟩ | ⟨g, cap, cur, e, _⟩
  · exact ⟨none, 0, by rw [e, h0]⟩
  · exact ⟨_, _, e⟩
theorem FRow.below {B base : Nat} {w w' : World} {v : Value} {fs : List Fld} (h : FRow w base v fs) (hb : Below B w w') (hB : w.heap.size ≤ B) : FRow w' base v fs := by
  obtain ⟨h1, h2⟩ := h
  refine ⟨h1, ?_⟩
  rcases h2 with h | ⟨g, cap, cur, a, b, c, r⟩
  · exact .inl h
  · exact .inr ⟨g, cap, cur, a, b, (hb.block g (by have := lt_of_block c; omega)).trans c, r⟩
/-- An append of fields. -/
theorem wpList_append_fds {w : World} {ops : Array Oper} {rest : List Oper} {o : Oper} {a : Act} {Q : Exit → Act → World → Prop} (hgd : o.guard = none) (s x : Operand)
    (ho : o.op = .call { callee := .builtin .append, args := #[s, x], argTypes := #[47, 47] })
    (base : Nat) (v : Value) (R : List Fld) (hs : a.eval s = v) (hown : FRow w base v R) (xa : Option Addr) (xn xc : Nat) (m : List Fld) (hx : a.eval x = .slice xa xn xc) (hy : FdL w (.slice xa xn xc) m) (hlen : (R.length + m.length) * 48 ≤ 140737488355328) (hbase : base ≤ w.heap.size)
    (h : ∀ v' w', FRow w' base v' (R ++ m) → Below base w w' → wpList Try.prog ops Q rest (a.put o.dst v') w') : wpList Try.prog ops Q (o :: rest) a w := by
  obtain ⟨i0, hi, hh⟩ := Option.map_eq_some_iff.1 infoField
  simp only [Prod.mk.injEq] at hh
  obtain ⟨ao, cap, e, h1, h2, h4⟩ := hy
  cases e
  by_cases hz : xa = none
  · subst hz
    have hm : m.length = 0 := Classical.byContradiction fun q => by obtain ⟨b, off, e, _⟩ := h4 q; cases e
    obtain rfl : m = [] := List.eq_nil_of_length_eq_zero hm
    refine wpList_plain hgd fun K hK => ?_
    have hrun := run_append_nil (w := w) (base := base) 47 o.type 73 i0 4 Try.underlying47 hi v R.length xc _ hown
    unfold Oper.wp
    simp [execOp, ho, resolve, invoke, builtin, hs, hx, hrun, Result.andThen]
    exact hK _ _ (h v w (by rw [List.append_nil]; exact hown) (Below.refl _ _))
  · obtain ⟨ad, rfl⟩ := Option.ne_none_iff_exists'.1 hz
    have hnews : ∀ j u, (fcells m)[j]? = some u → w.cell? (ad.add j) = some u := by
      by_cases hm : m.length = 0
      · obtain rfl : m = [] := List.eq_nil_of_length_eq_zero hm
        intro j u hj; simp [fcells] at hj
      · obtain ⟨b, off, e, hb, hc⟩ := h4 hm
        cases e
        exact FdL.src (n := 0) (c := 0) hc
    refine wpList_append_own w hgd s x 47 ho base 73 i0 _ 4 48 Try.underlying47 hi hh.1 hh.2.1 hh.2.2 rfl (by decide) v R.length (fcells R) hs hown ad m.length xc (fcells m) hx (fcells_len m) hnews (fcells_one m) (by unfold maxLen; omega) hlen hbase ?_
    intro v' w' ho' hgr _
    refine h v' w' (by unfold FRow; rw [fcells_app, List.length_append]; exact ho') ((Below.refl _ _).grown hgr hbase ?_)
    intro k hk
    rcases hown.2 with ⟨rfl, _⟩ | ⟨g, cap', cur, rfl, hb, _⟩
    · cases hk
    · simp only [Value.ownBlock, Option.some.injEq] at hk; omega
/-- An append of one event. -/
theorem wpList_append_ev1 {w : World} {ops : Array Oper} {rest : List Oper} {o : Oper} {a : Act} {Q : Exit → Act → World → Prop} (hgd : o.guard = none) (s x : Operand)
    (ho : o.op = .call { callee := .builtin .append, args := #[s, x], argTypes := #[31, 31] })
    (base : Nat) (v : Value) (rs : List EvR) (hs : a.eval s = v) (hown : w.ownsRow base 49 3 v rs.length (ev3 rs)) (q : Nat) (r : EvR) (hx : a.eval x = .slice (some ⟨q, 0, none⟩) 1 1) (hq : w.heap[q]? = some (.cells (ev r.e.type r.e.ver r.a r.n r.c) 49 (0, 0))) (hlen : (rs.length + 1) * 48 ≤ 140737488355328) (hbase : base ≤ w.heap.size)
    (h : ∀ v' w', w'.ownsRow base 49 3 v' (rs ++ [r]).length (ev3 (rs ++ [r])) → w.grownBy w' v.ownBlock → Below base w w' → wpList Try.prog ops Q rest (a.put o.dst v') w') : wpList Try.prog ops Q (o :: rest) a w := by
  obtain ⟨i0, hi, hh⟩ := Option.map_eq_some_iff.1 infoEvent3
  simp only [Prod.mk.injEq] at hh
  refine wpList_append_own w hgd s x 31 ho base 49 i0 _ 3 48 Try.underlying31 hi hh.1 hh.2.1 hh.2.2 rfl (by decide) v rs.length (ev3 rs) hs hown ⟨q, 0, none⟩ 1 1 (ev3 [r]) hx (by simp [ev3]) (fun j u hj => by
    rw [addr_add, Nat.zero_add, cell_of_row _ _ _ _ _ _ hq, ← hj]; simp [ev3]) (ev3_one _) (by unfold maxLen; omega) hlen hbase ?_
  intro v' w' ho' hgr _
  refine h v' w' (by rw [ev3_append, List.length_append]; exact ho') hgr ((Below.refl _ _).grown hgr hbase ?_)
  intro k hk
  rcases hown.2 with ⟨rfl, _⟩ | ⟨g, cap', cur, rfl, hb, _⟩
  · cases hk
  · simp only [Value.ownBlock, Option.some.injEq] at hk; omega
theorem EvL.get {w : World} {a : Option Addr} {n c : Nat} {es : List Evn} (h : EvL w (.slice a n c) es) {i : Nat} {x : Evn} (hi : es[i]? = some x) : ∃ b off, a = some ⟨b, off, none⟩ ∧ b < w.heap.size ∧ w.cell? ⟨b, off + i * 3, none⟩ = some (sv x.type) ∧ w.cell? ⟨b, off + i * 3 + 1, none⟩ = some (.int .i64 x.ver) ∧ ∃ fa fn fc, w.cell? ⟨b, off + i * 3 + 2, none⟩ = some (.slice fa fn fc) ∧ FdL w (.slice fa fn fc) x.fields := by
  obtain ⟨ao, cap, e, h1, h2, h4⟩ := h
  cases e
  obtain ⟨hl, rfl⟩ := List.getElem?_eq_some_iff.1 hi
  obtain ⟨b, off, e, hb, hc⟩ := h4 (by omega)
  exact ⟨b, off, e, hb, hc i hl⟩
/-- An event's fields in a row of one's own, a mark behind them. -/
def OwnE (w : World) (base : Nat) (r : EvR) : Prop := ∃ g, r.a = some ⟨g, 0, none⟩ ∧ r.n = r.e.fields.length ∧ FRow w base (.slice (some ⟨g, 0, none⟩) (r.n + 1) r.c) (r.e.fields ++ [mineF])
/-- Events so, in a row of one's own. -/
def OwnL (w : World) (base : Nat) (v : Value) (es : List Evn) : Prop := ∃ rs : List EvR, w.ownsRow base 49 3 v rs.length (ev3 rs) ∧ rs.map (·.e) = es ∧ ∀ r ∈ rs, OwnE w base r
theorem OwnL.nil (w : World) (base : Nat) : OwnL w base (.slice none 0 0) [] := ⟨[], World.ownsRow_nil _ _ _ _, rfl, fun d hd => by cases hd⟩
theorem OwnL.sl {w : World} {base : Nat} {v : Value} {es : List Evn} (h : OwnL w base v es) : ∃ a c, v = .slice a es.length c := by
  obtain ⟨rs, h1, rfl, _⟩ := h
  rw [List.length_map]
  rcases h1.2 with ⟨e, h0⟩ | ⟨g, cap, cur, e, _⟩
  · exact ⟨none, 0, by rw [e, h0]⟩
  · exact ⟨_, _, e⟩
theorem OwnE.on {w w' : World} {base : Nat} {r : EvR} (h : OwnE w base r) (hk : ∀ q, base ≤ q → q < w.heap.size → w'.heap[q]? = w.heap[q]?) : OwnE w' base r := by
  obtain ⟨g, h1, h2, h3, h4⟩ := h
  refine ⟨g, h1, h2, h3, ?_⟩
  rcases h4 with h | ⟨g, cap, cur, a, b, c, r⟩
  · exact .inl h
  · exact .inr ⟨g, cap, cur, a, b, (hk g b (lt_of_block c)).trans c, r⟩
theorem OwnL.below {B base : Nat} {w w' : World} {v : Value} {es : List Evn} (h : OwnL w base v es) (hb : Below B w w') (hB : w.heap.size ≤ B) : OwnL w' base v es := by
  obtain ⟨rs, ⟨h1, h2⟩, h3, h4⟩ := h
  refine ⟨rs, ⟨h1, ?_⟩, h3, fun r hr => (h4 r hr).on fun q _ hl => hb.block q (by omega)⟩
  rcases h2 with h | ⟨g, cap, cur, a, b, c, r⟩
  · exact .inl h
  · exact .inr ⟨g, cap, cur, a, b, (hb.block g (by have := lt_of_block c; omega)).trans c, r⟩
theorem OwnE.fdl {w : World} {base : Nat} {r : EvR} (h : OwnE w base r) : FdL w (.slice r.a r.n r.c) r.e.fields ∧ ∃ g, r.a = some ⟨g, 0, none⟩ ∧ w.cell? ⟨g, r.n * 4, none⟩ = some (sv mineF.name) ∧ r.n + 1 ≤ r.c ∧ r.c ≤ 9223372036854775807 := by
  obtain ⟨g, h1, h2, h3⟩ := h
  have h0 : w.ownsRow base 73 4 (.slice (some ⟨g, 0, none⟩) (r.n + 1) r.c) (r.e.fields ++ [mineF]).length (fcells (r.e.fields ++ [mineF])) := h3
  have hl : (r.e.fields ++ [mineF]).length = r.n + 1 := by rw [List.length_append, ← h2]; rfl
  rw [hl] at h0
  have hlt : g < w.heap.size ∧ r.n + 1 ≤ r.c ∧ r.c ≤ maxLen := by
    rcases h0.2 with ⟨e, _⟩ | ⟨g', cap, cur, e, _, hg, hn, hm, _⟩
    · cases e
    · cases e; exact ⟨lt_of_block hg, hn, hm⟩
  have hc : ∀ i, (hi : i < (r.e.fields ++ [mineF]).length) → w.cell? ⟨g, i * 4, none⟩ = some (sv (r.e.fields ++ [mineF])[i].name) ∧ w.cell? ⟨g, i * 4 + 1, none⟩ = some (.bool (r.e.fields ++ [mineF])[i].text) ∧ w.cell? ⟨g, i * 4 + 2, none⟩ = some (.int .i64 (r.e.fields ++ [mineF])[i].n) ∧ w.cell? ⟨g, i * 4 + 3, none⟩ = some (sv (r.e.fields ++ [mineF])[i].s) := fun i hi => by
    obtain ⟨d0, d1, d2, d3⟩ := fcells_at (r.e.fields ++ [mineF]) i hi
    rw [hl] at hi
    exact ⟨(h0.cellAt _ (by omega)).trans d0, (h0.cellAt _ (by omega)).trans d1, (h0.cellAt _ (by omega)).trans d2, (h0.cellAt _ (by omega)).trans d3⟩
  have h9 : r.c ≤ 9223372036854775807 := by have := hlt.2.2; unfold maxLen at this; omega
  refine ⟨⟨r.a, r.c, by rw [h2], by omega, h9, fun _ => ⟨g, 0, h1, hlt.1, fun i hi => ?_⟩⟩, g, h1, ?_, hlt.2.1, h9⟩
  · have := hc i (by rw [hl]; omega)
    rw [Nat.zero_add]
    rw [List.getElem_append_left hi] at this
    exact this
  · have := (hc r.n (by rw [hl]; omega)).1
    rw [List.getElem_append_right (by omega)] at this
    simpa [h2] using this
theorem OwnL.get {w : World} {base : Nat} {a : Option Addr} {n c : Nat} {es : List Evn} (h : OwnL w base (.slice a n c) es) {i : Nat} {x : Evn} (hi : es[i]? = some x) : ∃ b g fc, a = some ⟨b, 0, none⟩ ∧ b < w.heap.size ∧ w.cell? ⟨b, i * 3, none⟩ = some (sv x.type) ∧ w.cell? ⟨b, i * 3 + 1, none⟩ = some (.int .i64 x.ver) ∧ w.cell? ⟨b, i * 3 + 2, none⟩ = some (.slice (some ⟨g, 0, none⟩) x.fields.length fc) ∧ FdL w (.slice (some ⟨g, 0, none⟩) x.fields.length fc) x.fields ∧ w.cell? ⟨g, x.fields.length * 4, none⟩ = some (sv mineF.name) ∧ x.fields.length + 1 ≤ fc ∧ fc ≤ 9223372036854775807 ∧ g < w.heap.size := by
  obtain ⟨rs, h1, rfl, h4⟩ := h
  rw [List.getElem?_map] at hi
  obtain ⟨r, hr, rfl⟩ := Option.map_eq_some_iff.1 hi
  obtain ⟨p1, g, p2, p3, p4, p5⟩ := (h4 r (List.mem_of_getElem? hr)).fdl
  obtain ⟨g', e', p6, _⟩ := h4 r (List.mem_of_getElem? hr)
  obtain ⟨q0, q1, q2⟩ := ev3_get rs i r hr
  have hid := (List.getElem?_eq_some_iff.1 hr).1
  rcases h1.2 with ⟨e, h0⟩ | ⟨gb, cap, cur, e, _, hg, _⟩
  · omega
  · rw [e] at h1
    cases e
    rw [p2, p6] at q2 p1
    rw [p6] at p3 p4
    exact ⟨gb, g, r.c, rfl, lt_of_block hg, (h1.cellAt _ (by omega)).trans q0, (h1.cellAt _ (by omega)).trans q1, (h1.cellAt _ (by omega)).trans q2, p1, p3, p4, p5, World.block_lt_of_cell? w ⟨g, _, none⟩ p3⟩
theorem OwnL.evl {w : World} {base : Nat} {a : Option Addr} {n c : Nat} {es : List Evn} (h : OwnL w base (.slice a n c) es) : EvL w (.slice a n c) es := by
  obtain ⟨a', c', e⟩ := h.sl
  cases e
  have hcap : es.length ≤ c ∧ c ≤ 9223372036854775807 := by
    obtain ⟨rs, h1, he, _⟩ := h
    have hl : rs.length = es.length := by rw [← he, List.length_map]
    rcases h1.2 with ⟨e, h0⟩ | ⟨gb, cap, cur, e, _, hg, hn, hm, _⟩
    · injection e with q1 q2 q3
      omega
    · injection e with q1 q2 q3
      unfold maxLen at hm
      omega
  refine ⟨a, c, rfl, hcap.1, hcap.2, fun hz => ?_⟩
  obtain ⟨b, _, _, e, hb, _⟩ := h.get (i := 0) (x := es[0]) (List.getElem?_eq_getElem (by omega))
  refine ⟨b, 0, e, hb, fun i hi => ?_⟩
  obtain ⟨b', g, fc, e', _, q0, q1, q2, q3, _⟩ := h.get (i := i) (x := es[i]) (List.getElem?_eq_getElem hi)
  rw [e] at e'
  cases e'
  rw [Nat.zero_add]
  exact ⟨q0, q1, _, _, _, q2, q3⟩

theorem FRow.mono {w : World} {base base' : Nat} {v : Value} {fs : List Fld} (h : FRow w base v fs) (hb : base' ≤ base) : FRow w base' v fs := by
  obtain ⟨h1, h2⟩ := h
  refine ⟨h1, ?_⟩
  rcases h2 with h | ⟨g, cap, cur, a, b, r⟩
  · exact .inl h
  · exact .inr ⟨g, cap, cur, a, by omega, r⟩
theorem FRow.sm {w : World} {base : Nat} {v : Value} {fs : List Fld} (h : FRow w base v fs) (hn : fs.length ≠ 0) : ∃ g c, v = .slice (some ⟨g, 0, none⟩) fs.length c ∧ fs.length ≤ c ∧ c ≤ 9223372036854775807 := by
  rcases h.2 with ⟨e, h0⟩ | ⟨g, cap, cur, e, _, _, h1, h2, _⟩
  · exact absurd h0 hn
  · exact ⟨g, cap, e, h1, by unfold maxLen at h2; omega⟩
theorem FRow.empty (w : World) : FRow (w.alloc (.cells #[] 73)) w.heap.size (.slice (some ⟨w.heap.size, 0, none⟩) 0 0) [] :=
  by
    unfold FRow
    exact ⟨by simp [fcells], .inr ⟨w.heap.size, 0, #[], rfl, Nat.le_refl _, heap_alloc_self _ _, by simp, by unfold maxLen; omega, by simp, by simp [fcells]⟩⟩
theorem FdL.one (w : World) (f : Fld) : FdL (w.alloc (.cells (fv f) 73)) (.slice (some ⟨w.heap.size, 0, none⟩) 1 1) [f] :=
  ⟨_, 1, rfl, by simp, by omega, fun _ => ⟨w.heap.size, 0, rfl, by simp, fun i hi => by
    obtain rfl : i = 0 := by simpa using hi
    have h := heap_alloc_self w (.cells (fv f) 73)
    exact ⟨(cell_of_row _ _ _ _ _ _ h).trans rfl, (cell_of_row _ _ _ _ _ _ h).trans rfl, (cell_of_row _ _ _ _ _ _ h).trans rfl, (cell_of_row _ _ _ _ _ _ h).trans rfl⟩⟩⟩
theorem FRow.on {w w' : World} {base : Nat} {v : Value} {fs : List Fld} (h : FRow w base v fs) (hk : ∀ q, base ≤ q → q < w.heap.size → w'.heap[q]? = w.heap[q]?) : FRow w' base v fs := by
  obtain ⟨h1, h2⟩ := h
  refine ⟨h1, ?_⟩
  rcases h2 with h | ⟨g, cap, cur, a, b, c, r⟩
  · exact .inl h
  · exact .inr ⟨g, cap, cur, a, b, (hk g b (lt_of_block c)).trans c, r⟩
theorem ownsRow_on {w w' : World} {e : TypeId} {B s n : Nat} {v : Value} {cs : List Value} (h : w.ownsRow B e s v n cs) (hk : ∀ q, q < w.heap.size → w'.heap[q]? = w.heap[q]?) : w'.ownsRow B e s v n cs := by
  obtain ⟨h1, h2⟩ := h
  refine ⟨h1, ?_⟩
  rcases h2 with h2 | ⟨q, cap, cur, rfl, hb, hg, r⟩
  · exact .inl h2
  · exact .inr ⟨q, cap, cur, rfl, hb, (hk q (lt_of_block hg)).trans hg, r⟩
/-- An event more in the row. -/
theorem OwnL.snoc {w w3 w4 : World} {B g c2 M : Nat} {v v4 : Value} {es : List Evn} {xt : List UInt8} {xv : Int} {xf : List Fld} {rs : List EvR} (hr : w.ownsRow B 49 3 v rs.length (ev3 rs)) (he : rs.map (·.e) = es) (ho : ∀ r ∈ rs, OwnE w B r) (hM : M = xf.length) (hf : FRow w3 B (.slice (some ⟨g, 0, none⟩) (M + 1) c2) (xf ++ [mineF])) (b3 : ∀ q, q < w.heap.size → w3.heap[q]? = w.heap[q]?) (hz : w.heap.size ≤ w3.heap.size) (hg : w.heap.size ≤ g) (hg4 : w3.grownBy w4 v.ownBlock)
    (r4 : w4.ownsRow B 49 3 v4 (rs ++ [(⟨⟨xt, xv, xf⟩, some ⟨g, 0, none⟩, M, c2⟩ : EvR)]).length (ev3 (rs ++ [⟨⟨xt, xv, xf⟩, some ⟨g, 0, none⟩, M, c2⟩]))) : OwnL w4 B v4 (es ++ [⟨xt, xv, xf⟩]) := by
  have hvn : ∀ q, v.ownBlock = some q → q < w.heap.size ∧ ∃ cur, w.heap[q]? = some (.cells cur 49 (0, 0)) := fun q hq => by
    rcases hr.2 with ⟨rfl, _⟩ | ⟨g', cap, cur, rfl, hb, hg', _⟩
    · cases hq
    · simp only [Value.ownBlock, Option.some.injEq] at hq
      subst hq
      exact ⟨lt_of_block hg', cur, hg'⟩
  have keep : ∀ r, OwnE w B r → OwnE w4 B r := fun r h => by
    obtain ⟨g', h1, h2, h3, h4⟩ := h
    refine ⟨g', h1, h2, h3, ?_⟩
    rcases h4 with h | ⟨g2, cap, cur, a, b, c, r⟩
    · exact .inl h
    · have hl := lt_of_block c
      refine .inr ⟨g2, cap, cur, a, b, ?_, r⟩
      refine (hg4.block g2 (by omega) (fun e => ?_)).trans ((b3 g2 hl).trans c)
      obtain ⟨_, cur', hc'⟩ := hvn g2 e.symm
      rw [c] at hc'
      exact absurd hc' (by simp)
  refine ⟨rs ++ [⟨⟨xt, xv, xf⟩, some ⟨g, 0, none⟩, M, c2⟩], r4, by rw [List.map_append, he, List.map_cons, List.map_nil], fun r hr' => ?_⟩
  rcases List.mem_append.1 hr' with h | h
  · exact keep r (ho r h)
  · rw [List.mem_singleton.1 h]
    refine ⟨g, rfl, hM, ?_⟩
    obtain ⟨f1, f2⟩ := hf
    refine ⟨f1, ?_⟩
    rcases f2 with h | ⟨g2, cap, cur, a, b, c, r⟩
    · exact .inl h
    · have e2 : g2 = g := by
        injection a with q1 q2 q3
        injection q1 with q1
        injection q1 with q1 q2
        exact q1.symm
      refine .inr ⟨g2, cap, cur, a, b, ?_, r⟩
      refine (hg4.block g2 (lt_of_block c) (fun e => ?_)).trans c
      have := (hvn g2 e.symm).1
      omega

set_option maxRecDepth 20000 in
set_option maxHeartbeats 8000000 in
theorem own_go (a : Option Addr) (n c : Nat) (es : List Evn) (w : World) (hv : EvL w (.slice a n c) es) (hb : es.length * 48 ≤ 140737488351232) (hbf : ∀ e ∈ es, e.fields.length * 48 ≤ 140737488351232) :
    Calls Try.prog 17 #[.slice a n c] w fun e w' => ∃ v, e = .returned v ∧ OwnL w' w.heap.size v es ∧ Below w.heap.size w w' := by
  have hn : n = es.length := by obtain ⟨_, _, e, _⟩ := hv; cases e; rfl
  have HV := hide hv
  have HN := hide hn
  have HBF := hide hbf
  have hnm : n * 48 ≤ 140737488351232 := by omega
  have HO0 : Hid (OwnL w w.heap.size (.slice none 0 0) (es.take 0)) := hide (OwnL.nil _ _)
  have HB0 := hide (Below.refl w.heap.size w)
  clear hv hn hb hbf
  go_enter Try.func17, Try.ntmps17
  go_wp2_with fail
  go_loopw [3, 4, 5, 6] (fun v i _ _ W => ∃ (j : Nat) (oa : Option Addr) (on oc : Nat), j ≤ n ∧ v = .slice oa on oc ∧ i = .int .i64 (j : Int) ∧ Hid (OwnL W w.heap.size (.slice oa on oc) (es.take j)) ∧ Hid (Below w.heap.size w W)) (fun _ i _ _ _ => n - (intOf i).toNat)
  case atStart => exact ⟨0, none, 0, 0, by omega, rfl, rfl, HO0, HB0⟩
  case round =>
    clear HO0 HB0
    obtain ⟨j, oa, on, oc, hj, rfl, rfl, HO, HB⟩ := hrel
    by_cases hlt : j < n
    · obtain ⟨x, hx⟩ : ∃ x, es[j]? = some x := ⟨_, List.getElem?_eq_getElem (by have := unhide HN; omega)⟩
      have HTk : Hid (es.take (j + 1) = es.take j ++ [x]) := hide (by rw [List.take_add_one, hx]; rfl)
      have hfb := unhide HBF x (List.mem_of_getElem? hx)
      obtain ⟨b, off, rfl, hb, c0, c1, fa, fn, fc, c2, c3⟩ := (unhide HV).get hx
      obtain ⟨xt, xv, xf⟩ := x
      simp only at c0 c1 c3 hfb
      have hfn : fn = xf.length := by obtain ⟨_, _, e, _⟩ := c3; cases e; rfl
      subst hfn
      have SV : Hid (∀ W, Below w.heap.size w W → W.cell? ⟨b, off + j * 3, none⟩ = some (sv xt) ∧ W.cell? ⟨b, off + j * 3 + 1, none⟩ = some (.int .i64 xv) ∧ W.cell? ⟨b, off + j * 3 + 2, none⟩ = some (.slice fa xf.length fc)) := hide (fun W hW => ⟨keptQ hW c0, keptQ hW c1, keptQ hW c2⟩)
      have HF : Hid (∀ W, Below w.heap.size w W → FdL W (.slice fa xf.length fc) xf) := hide (fun W hW => c3.below hW (Nat.le_refl _))
      obtain ⟨z0, z1, z2⟩ := unhide SV wr (unhide HB)
      have ik : (j : Int) < (n : Int) := by omega
      have ik0 : ¬ (j : Int) < 0 := by omega
      obtain ⟨M, hM⟩ : ∃ M, M = xf.length := ⟨_, rfl⟩
      have HM := hide hM
      rw [← hM] at SV HF z2 hfb
      clear c0 c1 c2 c3 hx hM
      go_upto_region 6 with fail
      obtain ⟨wa, hwa⟩ : ∃ wa, wa = wr.alloc (.cells (ev xt xv fa M fc) 49) := ⟨_, rfl⟩
      rw [show wr.alloc (.cells #[Value.string ⟨xt.toArray⟩, .int .i64 xv, .slice fa M fc] 49) = wa from hwa.symm]
      have za : wa.heap.size = wr.heap.size + 1 := by rw [hwa]; simp
      have ba : Below wr.heap.size wr wa := by rw [hwa]; exact (Below.refl _ _).alloc (Nat.le_refl _) _
      have ea : EBox wa wr.heap.size xt xv (.slice fa M fc) := by rw [hwa]; exact heap_alloc_self _ _
      obtain ⟨eb, heb⟩ : ∃ eb, eb = wr.heap.size := ⟨_, rfl⟩
      have HEb := hide heb
      rw [← heb] at ea ⊢
      have HZa := hide za
      have HBA := hide ba
      have HBw : Hid (Below w.heap.size w wa) := hide ((unhide HB).trans (ba.mono (unhide HB).size))
      have HEa := hide ea
      have bE : Below wa.heap.size wa (wa.alloc (.cells #[] 73)) := (Below.refl _ _).alloc (Nat.le_refl _) _
      have HBE := hide bE
      have HBwE : Hid (Below w.heap.size w (wa.alloc (.cells #[] 73))) := hide ((unhide HBw).trans (bE.mono (unhide HBw).size))
      have y2 := (unhide SV wa (unhide HBw)).2.2
      have y3 := (unhide SV _ (unhide HBwE)).2.2
      clear hwa za ba ea heb bE z0 z1 z2
      go_upto_region 7 with (first
        | (at_builtin; refine wpList_append_fds rfl (.tmp 17) (.tmp 22) rfl wa.heap.size _ [] rfl (FRow.empty wa) fa M fc xf rfl (unhide HF _ (unhide HBwE)) (by have := unhide HM; simp only [List.length_nil]; omega) (by have := (unhide HBE).size; omega) ?_; intro v1 w1 r1 b1; rw [List.nil_append] at r1; have HR1 := hide r1; have HB1 : Hid (Below wa.heap.size wa w1) := hide ((unhide HBE).trans b1); clear r1 b1)
        | (at_builtin; refine wpList_append_fds rfl (.tmp 23) (.tmp 25) rfl wa.heap.size _ xf rfl ((unhide HR1).below ((Below.refl w1.heap.size w1).alloc (Nat.le_refl _) _) (Nat.le_refl _)) (some ⟨w1.heap.size, 0, none⟩) 1 1 [mineF] rfl (FdL.one w1 mineF) (by have := unhide HM; simp only [List.length_singleton]; omega) (by have := (unhide HB1).size; simp; omega) ?_; intro v2 w2 r2 b2; have HR2 := hide r2; have HB2 : Hid (Below wa.heap.size wa w2) := hide ((((unhide HB1).alloc (unhide HB1).size _)).trans b2); clear r2 b2))
      obtain ⟨g, c2, he2, hc1, hc9⟩ := (unhide HR2).sm (by simp)
      have hl1 : (xf ++ [mineF]).length = M + 1 := by rw [List.length_append, ← unhide HM]; rfl
      rw [hl1] at he2 hc1
      subst he2
      have y4 := (unhide SV w2 ((unhide HBw).trans ((unhide HB2).mono (unhide HBw).size))).2.2
      have hebz : eb < wa.heap.size := by have := unhide HEb; have := unhide HZa; omega
      have e2 : EBox w2 eb xt xv (.slice fa M fc) := (unhide HEa).same ((unhide HB2).block eb hebz)
      obtain ⟨t0, t1, t2, t3⟩ := e2.cells
      have hM2 : M ≤ c2 := by omega
      have hMn : ¬ (M : Int) < 0 := by omega
      have HE2 := hide e2
      have HL := hide (And.intro hc1 (And.intro hl1 hebz))
      clear e2 hl1 hebz y2 y3
      go_upto_region 8 with fail
      have e3 := (unhide HE2).set2 (.slice (some ⟨g, 0, none⟩) M c2)
      obtain ⟨w3, hw3⟩ : ∃ w3, w3 = w2.setCell ⟨eb, 2, none⟩ (.slice (some ⟨g, 0, none⟩) M c2) := ⟨_, rfl⟩
      rw [← hw3] at e3 ⊢
      clear t0 t1 t2 t3 y4
      obtain ⟨t0, t1, t2, t3⟩ := e3.cells
      have z3 : w3.heap.size = w2.heap.size := by rw [hw3, World.size_setCell]
      have k3 : ∀ q, q ≠ eb → w3.heap[q]? = w2.heap[q]? := fun q hq => by rw [hw3]; exact heap_setCell_other _ ⟨eb, 2, none⟩ _ _ hq
      have HK3 := hide (And.intro z3 k3)
      have B3 : Hid (Below w.heap.size w w3) := hide (by
        have h2 := (unhide HBw).trans ((unhide HB2).mono (unhide HBw).size)
        have hz := (unhide HB).size
        have he := unhide HEb
        rw [hw3]
        exact h2.setCell (p := ⟨eb, 2, none⟩) (by show w.heap.size ≤ eb; omega) _)
      have KR : Hid (∀ q, q < wr.heap.size → w3.heap[q]? = wr.heap[q]?) := hide (fun q hq => by
        have he := unhide HEb
        have hza := unhide HZa
        exact (k3 q (by omega)).trans (((unhide HB2).block q (by omega)).trans ((unhide HBA).block q hq)))
      obtain ⟨rs, hr, hes, hos⟩ := unhide HO
      have HRow := hide hr
      have HEs := hide hes
      have HOs := hide hos
      have hrl : rs.length ≤ n := by have := congrArg List.length hes; rw [List.length_map, List.length_take] at this; omega
      have hA : Below w3.heap.size w3 (w3.alloc (.cells (ev xt xv (some ⟨g, 0, none⟩) M c2) 49)) := (Below.refl _ _).alloc (Nat.le_refl _) _
      have HA3 := hide hA
      clear hr hes hos z3 k3 hw3 e3 hA
      have A1 := hide (ownsRow_on (ownsRow_on (unhide HRow) (unhide KR)) (fun q hq => (unhide HA3).block q hq))
      have A2 : Hid ((rs.length + 1) * 48 ≤ 140737488355328) := hide (by omega)
      have A3 : Hid (w.heap.size ≤ (w3.alloc (.cells (ev xt xv (some ⟨g, 0, none⟩) M c2) 49)).heap.size) := hide (Nat.le_trans (unhide B3).size (unhide HA3).size)
      have F1 : Hid (FRow (w3.alloc (.cells (ev xt xv (some ⟨g, 0, none⟩) M c2) 49)) w.heap.size (.slice (some ⟨g, 0, none⟩) (M + 1) c2) (xf ++ [mineF])) := hide (((unhide HR2).on (fun q hq hl => ((unhide HA3).block q (by have := (unhide HK3).1; omega)).trans ((unhide HK3).2 q (by have := (unhide HL).2.2; omega)))).mono (by have := (unhide HBw).size; omega))
      have K1 : Hid (∀ q, q < wr.heap.size → (w3.alloc (.cells (ev xt xv (some ⟨g, 0, none⟩) M c2) 49)).heap[q]? = wr.heap[q]?) := hide (fun q hq => ((unhide HA3).block q (by have h1 := (unhide HBA).size; have h2 := (unhide HB2).size; have h3 := (unhide HK3).1; omega)).trans (unhide KR q hq))
      have K2 : Hid (wr.heap.size ≤ (w3.alloc (.cells (ev xt xv (some ⟨g, 0, none⟩) M c2) 49)).heap.size ∧ wr.heap.size ≤ g) := hide (by
        have h1 := (unhide HBA).size
        have h2 := (unhide HB2).size
        have h3 := (unhide HK3).1
        have h4 := (unhide HA3).size
        refine ⟨by omega, ?_⟩
        rcases (unhide HR2).2 with ⟨h, _⟩ | ⟨g', _, _, h, hb', _⟩
        · cases h
        · injection h with q1 q2 q3
          injection q1 with q1
          injection q1 with q1 q2
          omega)
      have HBB : Hid (∀ w4, Below w.heap.size (w3.alloc (.cells (ev xt xv (some ⟨g, 0, none⟩) M c2) 49)) w4 → Below w.heap.size w w4) := hide (fun w4 b4 => (((unhide B3).trans ((unhide HA3).mono (unhide B3).size))).trans b4)
      go_wp2_with (at_builtin; refine wpList_append_ev1 rfl (.tmp 36) (.tmp 38) rfl w.heap.size _ rs rfl (unhide A1) w3.heap.size ⟨⟨xt, xv, xf⟩, some ⟨g, 0, none⟩, M, c2⟩ rfl (heap_alloc_self _ _) (unhide A2) (unhide A3) ?_; intro v4 w4 r4 g4 b4; have HO4 : Hid (OwnL w4 w.heap.size v4 (es.take j ++ [⟨xt, xv, xf⟩])) := hide (OwnL.snoc (unhide HRow) (unhide HEs) (unhide HOs) (unhide HM) (unhide F1) (unhide K1) (unhide K2).1 (unhide K2).2 g4 r4); have HB4 : Hid (Below w.heap.size w w4) := hide (unhide HBB w4 b4); obtain ⟨oa4, oc4, he4⟩ := (unhide HO4).sl; subst he4; clear r4 g4 b4)
      go_roundw
      case rel => exact ⟨j + 1, oa4, (es.take j ++ [(⟨xt, xv, xf⟩ : Evn)]).length, oc4, by omega, by simp, by go_num, hide (by rw [unhide HTk]; exact unhide HO4), HB4⟩
      case measure => simp [intOf]; omega
    · have ik : ¬ (j : Int) < (n : Int) := by omega
      have hjn : j = n := by omega
      subst hjn
      have HO5 : Hid (OwnL wr w.heap.size (.slice oa on oc) es) := hide (by have := unhide HO; rwa [unhide HN, List.take_length] at this)
      go_wp2
      go_ret
      exact ⟨_, rfl, unhide HO5, unhide HB⟩
end Go.Proofs.Ytabcmmhmghgliaa
