/-
  DERIVED. Entries in a row of one's own; the walk of the document's Entries.
-/
import Derived.Test.YtabcmmhmghgliaaSp2
import Derived.Test.YtabcmmhmghgliaaXsame2
import Derived.Deep.RegionHeld3
namespace Go.Proofs.Ytabcmmhmghgliaa
open Go.RowKit
set_option linter.unusedVariables false

/-- An entry's cells, and where its fields lie. -/
structure EnR where
  pos : Nat
  e : Ent
  a : Option Addr
  n : Nat
  c : Nat
abbrev enV (r : EnR) : Array Value := #[.int .i64 (r.pos : Int), sv r.e.s, .int .i64 (r.e.num : Int), sv r.e.e.type, .int .i64 r.e.e.ver, .slice r.a r.n r.c]
def encs (l : List EnR) : List Value := l.flatMap fun r => (enV r).toList
theorem encs_len (l : List EnR) : (encs l).length = l.length * 6 := by
  induction l with
  | nil => rfl
  | cons d r ih => rw [show encs (d :: r) = (enV d).toList ++ encs r from rfl, List.length_append, ih]; simp; omega
theorem encs_append (a b : List EnR) : encs (a ++ b) = encs a ++ encs b := by simp [encs]
theorem encs_one (l : List EnR) : ∀ u ∈ encs l, u.oneCell' = true := by
  intro u hu
  obtain ⟨d, _, hd⟩ := List.mem_flatMap.1 hu
  simp only [List.mem_cons, List.not_mem_nil, or_false] at hd
  rcases hd with rfl | rfl | rfl | rfl | rfl | rfl <;> rfl
theorem encs_get : ∀ (l : List EnR) (i : Nat) (r : EnR), l[i]? = some r → (encs l)[i * 6]? = some (.int .i64 (r.pos : Int)) ∧ (encs l)[i * 6 + 1]? = some (sv r.e.s) ∧ (encs l)[i * 6 + 2]? = some (.int .i64 (r.e.num : Int)) ∧ (encs l)[i * 6 + 3]? = some (sv r.e.e.type) ∧ (encs l)[i * 6 + 4]? = some (.int .i64 r.e.e.ver) ∧ (encs l)[i * 6 + 5]? = some (.slice r.a r.n r.c)
  | [], _, _, h => by simp at h
  | d :: t, 0, r, h => by simp at h; subst h; simp [encs]
  | d :: t, i + 1, r, h => by
    have ih := encs_get t i r (by simpa using h)
    have e : ∀ j, (encs (d :: t))[(i + 1) * 6 + j]? = (encs t)[i * 6 + j]? := fun j => by
      rw [show encs (d :: t) = (enV d).toList ++ encs t from rfl, List.getElem?_append_right (by simp; omega)]
      congr 1
      simp; omega
    exact ⟨(e 0).trans ih.1, (e 1).trans ih.2.1, (e 2).trans ih.2.2.1, (e 3).trans ih.2.2.2.1, (e 4).trans ih.2.2.2.2.1, (e 5).trans ih.2.2.2.2.2⟩
/-- Entries in a row of one's own; their fields lie in the elder world. -/
def ENOwn (w0 w : World) (base : Nat) (v : Value) (L : List (Nat × Ent)) : Prop := ∃ rs : List EnR, w.ownsRow base 64 6 v rs.length (encs rs) ∧ rs.map (fun r => (r.pos, r.e)) = L ∧ ∀ r ∈ rs, FdL w0 (.slice r.a r.n r.c) r.e.e.fields
theorem ENOwn.nil (w0 w : World) (base : Nat) : ENOwn w0 w base (.slice none 0 0) [] := ⟨[], World.ownsRow_nil _ _ _ _, rfl, fun d hd => by cases hd⟩
theorem ENOwn.below {w0 : World} {B base : Nat} {w w' : World} {v : Value} {l : List (Nat × Ent)} (h : ENOwn w0 w base v l) (hb : Below B w w') (hB : w.heap.size ≤ B) : ENOwn w0 w' base v l := by
  obtain ⟨ds, ⟨h1, h2⟩, h3⟩ := h
  refine ⟨ds, ⟨h1, ?_⟩, h3⟩
  rcases h2 with h | ⟨g, cap, cur, a, b, c, r⟩
  · exact .inl h
  · exact .inr ⟨g, cap, cur, a, b, (hb.block g (by have := lt_of_block c; omega)).trans c, r⟩
theorem ENOwn.sl {w0 w : World} {base : Nat} {v : Value} {L : List (Nat × Ent)} (h : ENOwn w0 w base v L) : ∃ a c, v = .slice a L.length c := by
  obtain ⟨ds, ⟨_, h2⟩, e, _⟩ := h
  have hl : ds.length = L.length := by rw [← e]; simp
  rcases h2 with ⟨e, h0⟩ | ⟨g, cap, cur, e, _⟩
  · exact ⟨none, 0, by rw [e, ← hl, h0]⟩
  · exact ⟨_, _, by rw [e, ← hl]⟩
theorem ENOwn.mono {w0 w : World} {base base' : Nat} {v : Value} {L : List (Nat × Ent)} (h : ENOwn w0 w base v L) (hb : base' ≤ base) : ENOwn w0 w base' v L := by
  obtain ⟨ds, ⟨h1, h2⟩, h3⟩ := h
  refine ⟨ds, ⟨h1, ?_⟩, h3⟩
  rcases h2 with h | ⟨g, cap, cur, a, b, c, r⟩
  · exact .inl h
  · exact .inr ⟨g, cap, cur, a, by omega, c, r⟩
theorem ENOwn.up {w0 w1 w : World} {base : Nat} {v : Value} {L : List (Nat × Ent)} (h : ENOwn w0 w base v L) (hb : Below w0.heap.size w0 w1) : ENOwn w1 w base v L := by
  obtain ⟨ds, h1, h2, h3⟩ := h
  exact ⟨ds, h1, h2, fun r hr => (h3 r hr).below hb (Nat.le_refl _)⟩
/-- They read as entries. -/
theorem ENOwn.enl {w0 w : World} {base n c : Nat} {a : Option Addr} {L : List (Nat × Ent)} (h : ENOwn w0 w base (.slice a n c) L) (hb : Below w0.heap.size w0 w) : EnL w (.slice a n c) L := by
  obtain ⟨ds, hr, e, h3⟩ := h
  have hl : ds.length = L.length := by rw [← e]; simp
  have hr0 := hr
  obtain ⟨g1, g2⟩ := hr
  rcases g2 with ⟨e1, h0⟩ | ⟨g, cap, cur, e1, hbb, hg, hn, hm, _⟩
  · cases e1
    exact ⟨none, 0, by rw [← hl, h0], by omega, by omega, fun h => absurd (by omega) h⟩
  · cases e1
    refine ⟨some ⟨g, 0, none⟩, c, by rw [← hl], by omega, by unfold maxLen at hm; omega, fun _ => ⟨g, 0, rfl, lt_of_block hg, fun i hi => ?_⟩⟩
    obtain ⟨r, hri⟩ : ∃ r, ds[i]? = some r := ⟨_, List.getElem?_eq_getElem (by omega)⟩
    obtain ⟨q0, q1, q2, q3, q4, q5⟩ := encs_get ds i r hri
    have hLi : L[i] = (r.pos, r.e) := by
      have : L[i]? = some (r.pos, r.e) := by rw [← e, List.getElem?_map, hri]; rfl
      rw [List.getElem?_eq_getElem hi] at this
      exact Option.some.inj this
    have at' : ∀ j, j < ds.length * 6 → w.cell? ⟨g, j, none⟩ = (encs ds)[j]? := fun j hj => hr0.cellAt j hj
    have hid := (List.getElem?_eq_some_iff.1 hri).1
    rw [hLi, Nat.zero_add]
    exact ⟨(at' _ (by omega)).trans q0, (at' _ (by omega)).trans q1, (at' _ (by omega)).trans q2, (at' _ (by omega)).trans q3, (at' _ (by omega)).trans q4, r.a, r.n, r.c, (at' _ (by omega)).trans q5, (h3 r (List.mem_of_getElem? hri)).below hb (Nat.le_refl _)⟩
/-- An append of an entry, as a step. -/
theorem step_append_en {w0 : World} {ops : Array Oper} {o : Oper} {a : Act} {w : World} {K : Act → World → Prop} {Q : Exit → Act → World → Prop} {E : Prop}
    (hg : o.guard = none) (s x : Operand) (ho : o.op = .call { callee := .builtin .append, args := #[s, x], argTypes := #[36, 36] })
    (base : Nat) (v : Value) (R : List (Nat × Ent)) (hs : a.eval s = v) (hown : ENOwn w0 w base v R) (q : Nat) (r : EnR) (hx : a.eval x = .slice (some ⟨q, 0, none⟩) 1 1) (hq : w.heap[q]? = some (.cells (enV r) 64 (0, 0))) (hf : FdL w0 (.slice r.a r.n r.c) r.e.e.fields) (hlen : R.length ≤ 1000000) (hbase : base ≤ w.heap.size)
    (hK : ∀ v' w', ENOwn w0 w' base v' (R ++ [(r.pos, r.e)]) → Below base w w' → K (a.put o.dst v') w') :
    if Region.wanted o (yielded ops a.tmps) = true then Oper.wp Try.prog o a w K Q else E := by
  have hw : Region.wanted o (yielded ops a.tmps) = true := by simp [Region.wanted, hg]
  rw [if_pos hw]
  obtain ⟨i0, hi, hh⟩ := Option.map_eq_some_iff.1 infoEntry3
  simp only [Prod.mk.injEq] at hh
  obtain ⟨rs, hrow, rfl, hrs⟩ := hown
  rw [List.length_map] at hlen
  obtain ⟨v', w', hrun, r1, r2, _⟩ := run_append_own (P := Try.prog) w base 36 o.type 64 i0 _ 6 80 Try.underlying36 hi hh.1 hh.2.1 hh.2.2 rfl (by decide) v rs.length (encs rs) hrow ⟨q, 0, none⟩ 1 1 (encs [r]) (by simp [encs]) (fun j u hj => by
    rw [addr_add, Nat.zero_add, cell_of_row _ _ _ _ _ _ hq, ← hj]; simp [encs]) (encs_one _) (by unfold maxLen; omega) (by omega) hbase
  unfold Oper.wp
  simp [execOp, ho, resolve, invoke, builtin, hs, hx, hrun, Result.andThen]
  refine hK v' w' ⟨rs ++ [r], by rw [encs_append, List.length_append]; exact r1, by simp, fun d hd => ?_⟩ ((Below.refl _ _).grown r2 hbase ?_)
  · rcases List.mem_append.1 hd with hd | hd
    · exact hrs d hd
    · rw [List.mem_singleton.1 hd]; exact hf
  · intro k hk
    rcases hrow.2 with ⟨rfl, _⟩ | ⟨g, cap', cur, rfl, hb, _⟩
    · cases hk
    · simp only [Value.ownBlock, Option.some.injEq] at hk; omega
/-- An append of an entry. -/
theorem wpList_append_en {w0 w : World} {ops : Array Oper} {rest : List Oper} {o : Oper} {a : Act} {Q : Exit → Act → World → Prop} (hgd : o.guard = none) (s x : Operand)
    (ho : o.op = .call { callee := .builtin .append, args := #[s, x], argTypes := #[36, 36] })
    (base : Nat) (v : Value) (R : List (Nat × Ent)) (hs : a.eval s = v) (hown : ENOwn w0 w base v R) (q : Nat) (r : EnR) (hx : a.eval x = .slice (some ⟨q, 0, none⟩) 1 1) (hq : w.heap[q]? = some (.cells (enV r) 64 (0, 0))) (hf : FdL w0 (.slice r.a r.n r.c) r.e.e.fields) (hlen : R.length ≤ 1000000) (hbase : base ≤ w.heap.size)
    (h : ∀ v' w', ENOwn w0 w' base v' (R ++ [(r.pos, r.e)]) → Below base w w' → wpList Try.prog ops Q rest (a.put o.dst v') w') : wpList Try.prog ops Q (o :: rest) a w := by
  obtain ⟨i0, hi, hh⟩ := Option.map_eq_some_iff.1 infoEntry3
  simp only [Prod.mk.injEq] at hh
  obtain ⟨rs, hrow, rfl, hrs⟩ := hown
  rw [List.length_map] at hlen
  refine wpList_append_own w hgd s x 36 ho base 64 i0 _ 6 80 Try.underlying36 hi hh.1 hh.2.1 hh.2.2 rfl (by decide) v rs.length (encs rs) hs hrow ⟨q, 0, none⟩ 1 1 (encs [r]) hx (by simp [encs]) (fun j u hj => by
    rw [addr_add, Nat.zero_add, cell_of_row _ _ _ _ _ _ hq, ← hj]; simp [encs]) (encs_one _) (by unfold maxLen; omega) (by omega) hbase ?_
  intro v' w' ho' hgr _
  refine h v' w' ⟨rs ++ [r], by rw [encs_append, List.length_append]; exact ho', by simp, fun d hd => ?_⟩ ((Below.refl _ _).grown hgr hbase ?_)
  · rcases List.mem_append.1 hd with hd | hd
    · exact hrs d hd
    · rw [List.mem_singleton.1 hd]; exact hf
  · intro k hk
    rcases hrow.2 with ⟨rfl, _⟩ | ⟨g, cap', cur, rfl, hb, _⟩
    · cases hk
    · simp only [Value.ownBlock, Option.some.injEq] at hk; omega

/-- Entries with their places. -/
def numL (l : List Ent) : List (Nat × Ent) := l.zipIdx.map fun p => (p.2, p.1)
theorem numL_snoc (l : List Ent) (x : Ent) : numL (l ++ [x]) = numL l ++ [(l.length, x)] := by simp [numL, List.zipIdx_append]
theorem numL_len (l : List Ent) : (numL l).length = l.length := by simp [numL]
theorem ents_snoc (s : List UInt8) : ∀ (f : Nat) (l : List Evn) (e : Evn), ents s f (l ++ [e]) = ents s f l ++ [⟨s, f + l.length, e⟩]
  | f, [], e => by simp [ents]
  | f, x :: r, e => by
    simp only [List.cons_append, ents, ents_snoc s (f + 1) r e, List.length_cons]
    rw [show f + 1 + r.length = f + (r.length + 1) by omega]

set_option maxRecDepth 20000 in
set_option maxHeartbeats 8000000 in
theorem rEntries_go (rb : Nat) (Bs : List Bat) (w : World) (h : RRd w rb Bs) (hok : BsOk Bs) :
    Calls Try.prog 9 #[.pointer (some ⟨rb, 0, none⟩)] w fun e w' => ∃ v, e = .returned v ∧ ENOwn w w' w.heap.size v (numL (entD Bs)) ∧ Below w.heap.size w w' := by
  obtain ⟨v, hv, hsl⟩ := h
  obtain ⟨a, c, hvs⟩ : ∃ a c, v = .slice a Bs.length c := by obtain ⟨a, c, e, _⟩ := hsl; exact ⟨a, c, e⟩
  subst hvs
  obtain ⟨n, hn⟩ : ∃ n, n = Bs.length := ⟨_, rfl⟩
  have HN := hide hn
  rw [← hn] at hv hsl
  have HV : Hid (∀ W, Below w.heap.size w W → W.cell? ⟨rb, 0, none⟩ = some (.slice a n c)) := hide (fun W hW => keptQ hW hv)
  have HSl := hide hsl
  have hnm : n ≤ 9223372036854775807 := by have := hsl.len; omega
  have HOk := hide hok
  have HO0 : Hid (ENOwn w w w.heap.size (.slice none 0 0) (numL (entD (Bs.take 0)))) := hide (ENOwn.nil _ _ _)
  have HB0 : Hid (Below w.heap.size w w) := hide (Below.refl _ _)
  clear hok hv hsl hn
  go_enter Try.func9, Try.ntmps9
  go_wp2_with fail
  go_loopw [3, 4, 5] (fun v i _ W => ∃ (j : Nat) (ra : Option Addr) (rn rc : Nat), j ≤ n ∧ v = .slice ra rn rc ∧ i = .int .i64 (j : Int) ∧ Hid (ENOwn w W w.heap.size (.slice ra rn rc) (numL (entD (Bs.take j)))) ∧ Hid (Below w.heap.size w W)) (fun _ i _ _ => n - (intOf i).toNat)
  case atStart => exact ⟨0, none, 0, 0, by omega, rfl, rfl, HO0, HB0⟩
  case round =>
    clear HO0 HB0
    obtain ⟨j, ra, rn, rc, hj, rfl, rfl, HO, HB⟩ := hrel
    have v0 := unhide HV wr (unhide HB)
    by_cases hlt : j < n
    · obtain ⟨b, hb⟩ : ∃ b, Bs[j]? = some b := ⟨_, List.getElem?_eq_getElem (by have := unhide HN; omega)⟩
      have hbm := List.mem_of_getElem? hb
      obtain ⟨g, off, rfl, _, c0, c1, c2, ea, ec, c3, hev⟩ := (unhide HSl).at hb
      obtain ⟨m, hm⟩ : ∃ m, m = b.es.length := ⟨_, rfl⟩
      rw [← hm] at c3 hev
      have hm16 : m ≤ 16 := by rw [hm]; exact ((unhide HOk).b b hbm).1
      have hf := ((unhide HOk).b b hbm).2.1
      have HM := hide hm
      have HEv := hide hev
      have HC : Hid (∀ W, Below w.heap.size w W → W.cell? ⟨rb, 0, none⟩ = some (.slice (some ⟨g, off, none⟩) n c) ∧ W.cell? ⟨g, off + j * 4, none⟩ = some (sv b.s) ∧ W.cell? ⟨g, off + j * 4 + 2, none⟩ = some (.int .i64 (b.f : Int)) ∧ W.cell? ⟨g, off + j * 4 + 3, none⟩ = some (.slice ea m ec)) := hide (fun W hW => ⟨unhide HV W hW, keptQ hW c0, keptQ hW c2, keptQ hW c3⟩)
      have HTk : Hid (entD (Bs.take (j + 1)) = entD (Bs.take j) ++ ents b.s b.f b.es) := hide (by rw [List.take_add_one, hb, Option.toList_some, entD_snoc])
      have HPl : Hid ((entD (Bs.take j)).length ≤ 16000) := hide (by rw [entD_len]; exact totB_take_le (unhide HOk) j)
      obtain ⟨P, hP⟩ : ∃ P, P = entD (Bs.take j) := ⟨_, rfl⟩
      rw [← hP] at HO HTk HPl
      have HO1 : Hid (ENOwn w wr w.heap.size (.slice ra rn rc) (numL (P ++ ents b.s b.f (b.es.take 0)))) := hide (by simpa [ents] using unhide HO)
      have hji : (j : Int) < (n : Int) := by omega
      have hj0 : ¬ (j : Int) < 0 := by omega
      clear hb hbm c0 c1 c2 c3 hev hm hP HO v0
      have v0 := (unhide HC wr (unhide HB)).1
      have v3 := (unhide HC wr (unhide HB)).2.2.2
      go_wp2_with fail
      go_loopw [3, 5] (fun v i W => ∃ (k : Nat) (ra : Option Addr) (rn rc : Nat), k ≤ m ∧ v = .slice ra rn rc ∧ i = .int .i64 (k : Int) ∧ Hid (ENOwn w W w.heap.size (.slice ra rn rc) (numL (P ++ ents b.s b.f (b.es.take k)))) ∧ Hid (Below w.heap.size w W)) (fun _ i _ => m - (intOf i).toNat)
      case atStart => exact ⟨0, ra, rn, rc, by omega, rfl, rfl, HO1, HB⟩
      case round =>
        clear HO1 HB v0 v3
        obtain ⟨k, ra, rn, rc, hk, rfl, rfl, HO, HB⟩ := hrel
        rename World => W1
        by_cases hkt : k < m
        · obtain ⟨ev, hev⟩ : ∃ ev, b.es[k]? = some ev := ⟨_, List.getElem?_eq_getElem (by have := unhide HM; omega)⟩
          obtain ⟨eb, eo, hea, helt, hcs⟩ : ∃ eb eo, ea = some ⟨eb, eo, none⟩ ∧ eb < w.heap.size ∧ (w.cell? ⟨eb, eo + k * 3, none⟩ = some (sv ev.type) ∧ w.cell? ⟨eb, eo + k * 3 + 1, none⟩ = some (.int .i64 ev.ver) ∧ ∃ a n c, w.cell? ⟨eb, eo + k * 3 + 2, none⟩ = some (.slice a n c) ∧ FdL w (.slice a n c) ev.fields) := by
            obtain ⟨ao, cap, e, h1, h2, h4⟩ := unhide HEv
            cases e
            obtain ⟨hl, he⟩ := List.getElem?_eq_some_iff.1 hev
            obtain ⟨eb, eo, e1, e2, e3⟩ := h4 (by omega)
            refine ⟨eb, eo, e1, e2, ?_⟩
            have := e3 k hl
            rw [he] at this
            exact this
          subst hea
          obtain ⟨x0, x1, fa, fn, fc, x2, hfd⟩ := hcs
          have HFd := hide hfd
          have HX : Hid (P ++ ents b.s b.f (b.es.take (k + 1)) = (P ++ ents b.s b.f (b.es.take k)) ++ [⟨b.s, b.f + k, ev⟩]) := hide (by
            have hl : (b.es.take k).length = k := by rw [List.length_take]; have := unhide HM; omega
            rw [List.take_add_one, hev, Option.toList_some, ents_snoc, List.append_assoc, hl])
          have HLn : Hid ((P ++ ents b.s b.f (b.es.take k)).length ≤ 16016) := hide (by rw [List.length_append, ents_len, List.length_take]; have := unhide HPl; omega)
          obtain ⟨Q, hQ⟩ : ∃ Q, Q = P ++ ents b.s b.f (b.es.take k) := ⟨_, rfl⟩
          rw [← hQ] at HO HX HLn
          have hrn : rn = Q.length := by obtain ⟨_, _, e⟩ := (unhide HO).sl; cases e; rw [numL_len]
          have HRn := hide hrn
          have HSV : Hid (∀ V, Below w.heap.size w V → V.cell? ⟨rb, 0, none⟩ = some (.slice (some ⟨g, off, none⟩) n c) ∧ V.cell? ⟨g, off + j * 4, none⟩ = some (sv b.s) ∧ V.cell? ⟨g, off + j * 4 + 2, none⟩ = some (.int .i64 (b.f : Int)) ∧ V.cell? ⟨g, off + j * 4 + 3, none⟩ = some (.slice (some ⟨eb, eo, none⟩) m ec) ∧ V.cell? ⟨eb, eo + k * 3, none⟩ = some (sv ev.type) ∧ V.cell? ⟨eb, eo + k * 3 + 1, none⟩ = some (.int .i64 ev.ver) ∧ V.cell? ⟨eb, eo + k * 3 + 2, none⟩ = some (.slice fa fn fc)) := hide (fun V hb => by
            obtain ⟨q0, q1, q2, q3⟩ := unhide HC V hb
            exact ⟨q0, q1, q2, q3, keptQ hb x0, keptQ hb x1, keptQ hb x2⟩)
          obtain ⟨num, hnum⟩ : ∃ num, num = b.f + k := ⟨_, rfl⟩
          have HNum := hide hnum
          have hwr : IntKind.i64.wrap ((b.f : Int) + (k : Int)) = (num : Int) := by rw [IntKind.wrap_i64, hnum]; omega
          have hki : (k : Int) < (m : Int) := by omega
          have hk0 : ¬ (k : Int) < 0 := by omega
          have bD : Below W1.heap.size W1 W1.drew := (Below.refl _ _).drew
          have bA : Below W1.heap.size W1 (W1.alloc (.cells #[.int .i64 (rn : Int), sv b.s, .int .i64 (num : Int), sv ev.type, .int .i64 ev.ver, .slice fa fn fc] 64)).drew := ((Below.refl _ _).alloc (Nat.le_refl _) _).drew
          have S0 := hide (unhide HSV _ (unhide HB))
          have SD := hide (unhide HSV _ ((unhide HB).trans (bD.mono (unhide HB).size)))
          have SA := hide (unhide HSV _ ((unhide HB).trans (bA.mono (unhide HB).size)))
          have HBA := hide bA
          have HOA : Hid (ENOwn w (W1.alloc (.cells #[.int .i64 (rn : Int), sv b.s, .int .i64 (num : Int), sv ev.type, .int .i64 ev.ver, .slice fa fn fc] 64)).drew w.heap.size (.slice ra rn rc) (numL Q)) := hide ((unhide HO).below bA (Nat.le_refl _))
          have HXA : Hid ((W1.alloc (.cells #[.int .i64 (rn : Int), sv b.s, .int .i64 (num : Int), sv ev.type, .int .i64 ev.ver, .slice fa fn fc] 64)).drew.heap[W1.heap.size]? = some (.cells (enV ⟨rn, ⟨b.s, num, ev⟩, fa, fn, fc⟩) 64 (0, 0))) := hide (heap_alloc_self _ _)
          obtain ⟨s0, s1, s2, s3, s4, s5, s6⟩ := unhide S0
          clear x0 x1 x2 hfd hev hrn hQ bD bA helt hnum
          go_upto_region 8 with fail
          go_region_held3 (fun V => V.cell? ⟨rb, 0, none⟩ = some (.slice (some ⟨g, off, none⟩) n c) ∧ V.cell? ⟨g, off + j * 4, none⟩ = some (sv b.s) ∧ V.cell? ⟨g, off + j * 4 + 2, none⟩ = some (.int .i64 (b.f : Int)) ∧ V.cell? ⟨g, off + j * 4 + 3, none⟩ = some (.slice (some ⟨eb, eo, none⟩) m ec) ∧ V.cell? ⟨eb, eo + k * 3, none⟩ = some (sv ev.type) ∧ V.cell? ⟨eb, eo + k * 3 + 1, none⟩ = some (.int .i64 ev.ver) ∧ V.cell? ⟨eb, eo + k * 3 + 2, none⟩ = some (.slice fa fn fc))
            (first | with_reducible exact unhide S0 | with_reducible exact unhide SD | with_reducible exact unhide SA | with_reducible exact unhide S8)
            ((refine step_append_en (w0 := w) rfl (.tmp 28) (.tmp 61) rfl w.heap.size _ (numL Q) rfl (unhide HOA) W1.heap.size ⟨rn, ⟨b.s, num, ev⟩, fa, fn, fc⟩ rfl (unhide HXA) (unhide HFd) (by rw [numL_len]; have := unhide HLn; omega) (by have := (unhide HB).size; have := (unhide HBA).size; omega) ?_; intro v5 w5 o5 b5; obtain ⟨ra5, rc5, he5⟩ := o5.sl; obtain ⟨rn5, hrn5⟩ : ∃ z, z = (numL Q ++ [(rn, (⟨b.s, num, ev⟩ : Ent))]).length := ⟨_, rfl⟩; rw [← hrn5] at he5; subst he5; have HO5 := hide o5; have hb5 : Below w.heap.size w w5 := ((unhide HB).trans ((unhide HBA).mono (unhide HB).size)).trans b5; have HB5 := hide hb5; have S8 := hide (unhide HSV _ hb5); clear o5 b5 hrn5 hb5))
          have HO6 : Hid (ENOwn w w5 w.heap.size (.slice ra5 rn5 rc5) (numL (P ++ ents b.s b.f (b.es.take (k + 1))))) := hide (by
            rw [unhide HX, numL_snoc, ← unhide HRn, ← unhide HNum]
            exact unhide HO5)
          clear S0 SD SA S8 s0 s1 s2 s3 s4 s5 s6
          go_wp2
          go_roundw
          case rel => exact ⟨k + 1, _, _, _, by omega, rfl, by go_num, HO6, HB5⟩
          case measure => simp [intOf]; omega
        · have hki : ¬ (k : Int) < (m : Int) := by omega
          have v0 := (unhide HC W1 (unhide HB)).1
          have v3 := (unhide HC W1 (unhide HB)).2.2.2
          have HO2 : Hid (ENOwn w W1 w.heap.size (.slice ra rn rc) (numL (entD (Bs.take (j + 1))))) := hide (by
            have := unhide HO
            rw [List.take_of_length_le (by have := unhide HM; omega)] at this
            rw [unhide HTk]
            exact this)
          go_wp2_with fail
          go_roundw
          case rel => exact ⟨j + 1, _, _, _, by omega, rfl, by go_num, HO2, HB⟩
          case measure => simp [intOf]; omega
    · have hji : ¬ (j : Int) < (n : Int) := by omega
      have HX : Hid (ENOwn w wr w.heap.size (.slice ra rn rc) (numL (entD Bs))) := hide (by have := unhide HO; rwa [List.take_of_length_le (by have := unhide HN; omega)] at this)
      go_wp2_with fail
      go_ret
      exact ⟨_, rfl, unhide HX, unhide HB⟩
end Go.Proofs.Ytabcmmhmghgliaa
