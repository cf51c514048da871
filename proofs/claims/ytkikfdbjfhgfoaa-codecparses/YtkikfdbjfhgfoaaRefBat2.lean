/-
  DERIVED. The document's Batch: fields and events, appended one by one; where its loops stand.
-/
import Derived.Test.YtkikfdbjfhgfoaaRefBat1
import Derived.Test.YtkikfdbjfhgfoaaRdr5
import Derived.Maps.AppendAt
namespace Go.Proofs.Ytkikfdbjfhgfoaa
open Go.RowKit
set_option linter.unusedVariables false

def fdC (fs : List Fld) : List Value := fs.flatMap fun f => (fv f).toList
def evC (xs : List (Evn × Value)) : List Value := xs.flatMap fun x => [sv x.1.type, .int .i64 x.1.ver, x.2]
theorem fdC_len : ∀ fs : List Fld, (fdC fs).length = fs.length * 4
  | [] => rfl
  | f :: fs => by show ((fv f).toList ++ fdC fs).length = _; rw [List.length_append, fdC_len fs]; show 4 + fs.length * 4 = (fs.length + 1) * 4; omega
theorem fdC_snoc (fs : List Fld) (f : Fld) : fdC (fs ++ [f]) = fdC fs ++ (fv f).toList := by unfold fdC; rw [List.flatMap_append]; simp
theorem fdC_at : ∀ (fs : List Fld) (i : Nat) (hi : i < fs.length) (j : Nat), j < 4 → (fdC fs)[i * 4 + j]? = (fv fs[i]).toList[j]?
  | [], i, hi, _, _ => by simp at hi
  | f :: fs, 0, _, j, hj => by
    show ((fv f).toList ++ fdC fs)[0 * 4 + j]? = _
    rw [Nat.zero_mul, Nat.zero_add, List.getElem?_append_left (by show j < 4; exact hj)]; rfl
  | f :: fs, i + 1, hi, j, hj => by
    show ((fv f).toList ++ fdC fs)[(i + 1) * 4 + j]? = _
    rw [List.getElem?_append_right (by show 4 ≤ _; omega)]
    show (fdC fs)[(i + 1) * 4 + j - 4]? = _
    rw [show (i + 1) * 4 + j - 4 = i * 4 + j by omega, fdC_at fs i (by simpa using hi) j hj]
    rfl
theorem evC_len : ∀ xs : List (Evn × Value), (evC xs).length = xs.length * 3
  | [] => rfl
  | x :: xs => by show ([sv x.1.type, .int .i64 x.1.ver, x.2] ++ evC xs).length = _; rw [List.length_append, evC_len xs]; show 3 + xs.length * 3 = (xs.length + 1) * 3; omega
theorem evC_snoc (xs : List (Evn × Value)) (x : Evn × Value) : evC (xs ++ [x]) = evC xs ++ [sv x.1.type, .int .i64 x.1.ver, x.2] := by unfold evC; rw [List.flatMap_append]; simp
theorem evC_at : ∀ (xs : List (Evn × Value)) (i : Nat) (hi : i < xs.length) (j : Nat), j < 3 → (evC xs)[i * 3 + j]? = ([sv xs[i].1.type, .int .i64 xs[i].1.ver, xs[i].2] : List Value)[j]?
  | [], i, hi, _, _ => by simp at hi
  | x :: xs, 0, _, j, hj => by
    show ([sv x.1.type, .int .i64 x.1.ver, x.2] ++ evC xs)[0 * 3 + j]? = _
    rw [Nat.zero_mul, Nat.zero_add, List.getElem?_append_left (by show j < 3; exact hj)]; rfl
  | x :: xs, i + 1, hi, j, hj => by
    show ([sv x.1.type, .int .i64 x.1.ver, x.2] ++ evC xs)[(i + 1) * 3 + j]? = _
    rw [List.getElem?_append_right (by show 3 ≤ _; omega)]
    show (evC xs)[(i + 1) * 3 + j - 3]? = _
    rw [show (i + 1) * 3 + j - 3 = i * 3 + j by omega, evC_at xs i (by simpa using hi) j hj]
    rfl
theorem rowF {w w' : World} {e : TypeId} {base size : Nat} {v : Value} {n : Nat} {xs : List Value} (h : w.ownsRow base e size v n xs) (hk : ∀ q, v.ownBlock = some q → q < w.heap.size → w'.heap[q]? = w.heap[q]?) : w'.ownsRow base e size v n xs := by
  obtain ⟨h1, h2⟩ := h
  refine ⟨h1, ?_⟩
  rcases h2 with h2 | ⟨q, cap, cur, rfl, hb, hg, r⟩
  · exact .inl h2
  · exact .inr ⟨q, cap, cur, rfl, hb, (hk q rfl (lt_of_block hg)).trans hg, r⟩
theorem rowL {w : World} {e : TypeId} {base size : Nat} {v : Value} {n : Nat} {xs : List Value} (h : w.ownsRow base e size v n xs) {q : Nat} (hq : v.ownBlock = some q) : q < w.heap.size ∧ base ≤ q ∧ ∃ cur, w.heap[q]? = some (.cells cur e (0, 0)) := by
  rcases h.2 with ⟨rfl, _⟩ | ⟨g, cap, cur, rfl, hb, hg, r⟩
  · cases hq
  · cases hq; exact ⟨lt_of_block hg, hb, cur, hg⟩
theorem rowNe {w : World} {e : TypeId} {base size : Nat} {v : Value} {n : Nat} {xs : List Value} {b : Nat} {cs : Array Value} {t : TypeId} {fr : Nat × Nat} (h : w.ownsRow base e size v n xs) (hb : w.heap[b]? = some (.cells cs t fr)) (ht : t ≠ e) : v.ownBlock ≠ some b := fun hq => by
  obtain ⟨_, _, cur, hc⟩ := rowL h hq
  rw [hc] at hb
  simp only [Option.some.injEq, Obj.cells.injEq] at hb
  exact ht hb.2.1.symm
/-- Fields in a row of one's own. -/
def FdRow (w : World) (base : Nat) (v : Value) (fs : List Fld) : Prop := w.ownsRow base 62 4 v fs.length (fdC fs)
theorem FdRow.fdl {w : World} {base : Nat} {v : Value} {fs : List Fld} (h : FdRow w base v fs) (hm : fs.length ≤ 1000) : ∃ a n c, v = .slice a n c ∧ n = fs.length ∧ FdL w v fs := by
  obtain ⟨h1, h2⟩ := h
  rcases h2 with ⟨rfl, h0⟩ | ⟨g, cap, cur, rfl, hb, hg, hn, hm2, hs, ht⟩
  · exact ⟨_, _, _, rfl, h0.symm, none, 0, by rw [h0], by omega, by omega, fun h => absurd h0 h⟩
  · unfold maxLen at hm2
    refine ⟨_, _, _, rfl, rfl, _, cap, rfl, hn, by omega, fun _ => ⟨g, 0, rfl, lt_of_block hg, fun i hi => ?_⟩⟩
    have key : ∀ j, j < 4 → w.cell? ⟨g, i * 4 + j, none⟩ = (fv fs[i]).toList[j]? := fun j hj => by
      have e := fdC_at fs i hi j hj
      rw [← ht, List.getElem?_take_of_lt (by omega)] at e
      rw [cell_of_row _ _ _ _ _ _ hg, ← e]
      simp
    rw [Nat.zero_add]
    exact ⟨key 0 (by decide), key 1 (by decide), key 2 (by decide), key 3 (by decide)⟩
/-- Events in a row of one's own, each with its fields' row. -/
structure EvRow (w : World) (base : Nat) (v : Value) (xs : List (Evn × Value)) : Prop where
  row : w.ownsRow base 59 3 v xs.length (evC xs)
  fld : ∀ x ∈ xs, FdRow w base x.2 x.1.fields ∧ x.1.fields.length ≤ 16
theorem EvRow.same {w w' : World} {base : Nat} {v : Value} {xs : List (Evn × Value)} (h : EvRow w base v xs) (h1 : ∀ q, v.ownBlock = some q → q < w.heap.size → w'.heap[q]? = w.heap[q]?) (h2 : ∀ x ∈ xs, ∀ q, x.2.ownBlock = some q → q < w.heap.size → w'.heap[q]? = w.heap[q]?) : EvRow w' base v xs :=
  ⟨rowF h.row h1, fun x hx => ⟨rowF (h.fld x hx).1 (h2 x hx), (h.fld x hx).2⟩⟩
theorem EvRow.evl {w : World} {base : Nat} {v : Value} {xs : List (Evn × Value)} (h : EvRow w base v xs) (hm : xs.length ≤ 16) : ∃ a n c, v = .slice a n c ∧ n = xs.length ∧ EvL w v (xs.map (·.1)) := by
  obtain ⟨⟨h1, h2⟩, h3⟩ := h
  have hlen : (xs.map (·.1)).length = xs.length := List.length_map _
  rcases h2 with ⟨rfl, h0⟩ | ⟨g, cap, cur, rfl, hb, hg, hn, hm2, hs, ht⟩
  · exact ⟨_, _, _, rfl, h0.symm, none, 0, by rw [hlen, h0], by omega, by omega, fun h => absurd (by rw [hlen]; exact h0) h⟩
  · unfold maxLen at hm2
    refine ⟨_, _, _, rfl, rfl, _, cap, by rw [hlen], by omega, by omega, fun _ => ⟨g, 0, rfl, lt_of_block hg, fun i hi => ?_⟩⟩
    have hi' : i < xs.length := by rw [hlen] at hi; exact hi
    have key : ∀ j, j < 3 → w.cell? ⟨g, i * 3 + j, none⟩ = ([sv xs[i].1.type, .int .i64 xs[i].1.ver, xs[i].2] : List Value)[j]? := fun j hj => by
      have e := evC_at xs i hi' j hj
      rw [← ht, List.getElem?_take_of_lt (by omega)] at e
      rw [cell_of_row _ _ _ _ _ _ hg, ← e]
      simp
    have he : (xs.map (·.1))[i] = xs[i].1 := by simp
    rw [Nat.zero_add, he]
    obtain ⟨q1, q2⟩ := h3 xs[i] (List.getElem_mem hi')
    obtain ⟨a', n', c', e1, e2, e3⟩ := q1.fdl (by omega)
    have k2 := key 2 (by decide)
    refine ⟨key 0 (by decide), key 1 (by decide), a', n', c', ?_, ?_⟩
    · rw [← e1]; exact k2
    · rw [← e1]; exact e3

theorem fld_cells (w : World) (f : Fld) : ∀ j u, ((fv f).toList)[j]? = some u → (w.alloc (.cells (fv f) 62)).cell? ((⟨w.heap.size, 0, none⟩ : Addr).add j) = some u := by
  intro j u hj
  rw [addr_add, Nat.zero_add, cell_of_row _ _ _ _ _ _ (heap_alloc_self _ _)]
  rw [← hj]; simp
theorem evn_cells (w : World) (t : List UInt8) (ver : Int) (v : Value) : ∀ j u, ([sv t, .int .i64 ver, v] : List Value)[j]? = some u → (w.alloc (.cells #[sv t, .int .i64 ver, v] 59)).cell? ((⟨w.heap.size, 0, none⟩ : Addr).add j) = some u := by
  intro j u hj
  rw [addr_add, Nat.zero_add, cell_of_row _ _ _ _ _ _ (heap_alloc_self _ _)]
  rw [← hj]; simp
theorem fv_one (f : Fld) : ∀ u ∈ (fv f).toList, u.oneCell' = true := by
  intro u hu
  simp at hu
  rcases hu with rfl | rfl | rfl | rfl <;> rfl
/-- A field is appended. -/
theorem wpList_append_fld {w : World} {ops : Array Oper} {rest : List Oper} {o : Oper} {a : Act} {Q : Exit → Act → World → Prop} (hgd : o.guard = none) (s x : Operand)
    (ho : o.op = .call { callee := .builtin .append, args := #[s, x], argTypes := #[57, 57] })
    (base : Nat) (v : Value) (fs : List Fld) (f0 : Fld) (hs : a.eval s = v) (hown : FdRow (w.alloc (.cells (fv f0) 62)) base v fs) (hl : fs.length ≤ 1000) (hbase : base ≤ w.heap.size)
    (hx : a.eval x = .slice (some ⟨w.heap.size, 0, none⟩) 1 1)
    (h : ∀ v' w', FdRow w' base v' (fs ++ [f0]) → (w.alloc (.cells (fv f0) 62)).grownBy w' v.ownBlock → (v'.ownBlock = v.ownBlock ∨ v'.ownBlock = some (w.heap.size + 1)) → wpList Try.prog ops Q rest (a.put o.dst v') w') : wpList Try.prog ops Q (o :: rest) a (w.alloc (.cells (fv f0) 62)) := by
  obtain ⟨i0, hi, hz0, hz1, hz2⟩ := info_parts infoField
  refine wpList_append_own_at (w.alloc (.cells (fv f0) 62)) hgd s x 57 ho base 62 i0 _ 4 48 Try.underlying57 hi hz0 hz1 hz2 rfl (by decide) v fs.length (fdC fs) hs hown ⟨w.heap.size, 0, none⟩ 1 1 (fv f0).toList hx rfl (fld_cells w f0) (fv_one f0) (by unfold maxLen; omega) (by omega) (by simp; omega) ?_
  intro v' w' ho' hgr _ hloc
  refine h v' w' ?_ hgr (by simpa using hloc)
  unfold FdRow
  rw [List.length_append, fdC_snoc]
  exact ho'
/-- An event is appended. -/
theorem wpList_append_evn {w : World} {ops : Array Oper} {rest : List Oper} {o : Oper} {a : Act} {Q : Exit → Act → World → Prop} (hgd : o.guard = none) (s x : Operand)
    (ho : o.op = .call { callee := .builtin .append, args := #[s, x], argTypes := #[23, 23] })
    (base : Nat) (v : Value) (xs : List (Evn × Value)) (t : List UInt8) (ver : Int) (vf : Value) (hs : a.eval s = v) (hown : (w.alloc (.cells #[sv t, .int .i64 ver, vf] 59)).ownsRow base 59 3 v xs.length (evC xs)) (hl : xs.length ≤ 1000) (hbase : base ≤ w.heap.size) (hvf : vf.oneCell' = true)
    (hx : a.eval x = .slice (some ⟨w.heap.size, 0, none⟩) 1 1)
    (h : ∀ v' w', w'.ownsRow base 59 3 v' (xs.length + 1) (evC xs ++ [sv t, .int .i64 ver, vf]) → (w.alloc (.cells #[sv t, .int .i64 ver, vf] 59)).grownBy w' v.ownBlock → (v'.ownBlock = v.ownBlock ∨ v'.ownBlock = some (w.heap.size + 1)) → wpList Try.prog ops Q rest (a.put o.dst v') w') : wpList Try.prog ops Q (o :: rest) a (w.alloc (.cells #[sv t, .int .i64 ver, vf] 59)) := by
  obtain ⟨i0, hi, hz0, hz1, hz2⟩ := info_parts infoEvent
  refine wpList_append_own_at (w.alloc (.cells #[sv t, .int .i64 ver, vf] 59)) hgd s x 23 ho base 59 i0 _ 3 48 Try.underlying23 hi hz0 hz1 hz2 rfl (by decide) v xs.length (evC xs) hs hown ⟨w.heap.size, 0, none⟩ 1 1 [sv t, .int .i64 ver, vf] hx rfl (evn_cells w t ver vf) (fun u hu => by simp at hu; rcases hu with rfl | rfl | rfl; rfl; rfl; exact hvf) (by unfold maxLen; omega) (by omega) (by simp; omega) ?_
  intro v' w' ho' hgr _ hloc
  exact h v' w' ho' hgr (by simpa using hloc)
end Go.Proofs.Ytkikfdbjfhgfoaa
