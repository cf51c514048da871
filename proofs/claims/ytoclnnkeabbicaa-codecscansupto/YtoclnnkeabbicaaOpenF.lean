/-
  DERIVED. How an argument []api.Frame is opened; appends that tell which block has grown.
-/
import Derived.Test.YtoclnnkeabbicaaOpen
import Derived.Test.YtoclnnkeabbicaaFown
import Derived.Test.YtoclnnkeabbicaaLent
import Derived.Test.YtoclnnkeabbicaaMath6
import Derived.Deep.SlicePairs
namespace Go.Proofs.Ytoclnnkeabbicaa
open Go.ChangeShapes Go.WideShapes Go.ChangeAt Go.RowKit
set_option linter.unusedVariables false

theorem Try.cells22 : Try.prog.cellsOf 22 = 1 := by kernel_rfl
theorem Try.underF : ∃ f0 f1, Try.prog.underlying 37 = some (.struct #[f0, f1]) ∧ f0.offset = 0 ∧ f1.offset = 1 ∧ f0.type = 5 ∧ f1.type = 22 := ⟨_, _, Try.underlying37, rfl, rfl, rfl, rfl⟩

theorem open_frames {H : Type} {enc : TypeId × Value → H} {W : World} {a : Option Addr} {n c : Nat} {d : DataW H} {p : List MemPlace}
    (h : DataW.Trod enc Try.prog W 0 (fun _ => true) true 41 (.slice a n c) d p) : ∃ fs, Fl W (.slice a n c) fs := by
  obtain ⟨fuel, hf⟩ := h
  obtain ⟨f0, f1, hu, o0, o1, t0, t1⟩ := Try.underF
  rcases Go.Deep.open_slice_pairs Try.underlying41 hu Try.cellsFrame o0 o1 (by rw [t0]; exact Try.cells5) (by rw [t1]; exact Try.cells22) hf with ⟨hcs, hx⟩ | ⟨x, len, cap, m, k, V0, V1, D0, D1, P0, P1, hcs, _, hl, hm, hz, hx, hcell⟩
  · simp [Value.cells] at hcs
    obtain ⟨rfl, rfl, rfl⟩ := hcs
    exact ⟨[], none, 0, rfl, by simp, by omega, fun h => by simp at h⟩
  · simp [Value.cells] at hcs
    obtain ⟨rfl, rfl, rfl⟩ := hcs
    rw [if_pos rfl] at hz
    subst hz
    unfold maxLen at hm
    have hel : ∀ i, i < n → ∃ f : UInt8 × List UInt8, W.cell? (x.add (i * 2)) = some (bv f.1) ∧ ∃ a' n' c', W.cell? (x.add (i * 2 + 1)) = some (.slice a' n' c') ∧ Sl W (.slice a' n' c') f.2 := by
      intro i hi
      obtain ⟨c0, c1, e0, e1⟩ := hcell i (by omega)
      rw [t0] at e0
      rw [t1] at e1
      obtain ⟨z, hz, _, hw⟩ := DataW.trod_int Try.underlying5 e0
      simp only [List.cons.injEq, and_true] at hz
      have hV1 : ∃ a' n' c', V1 i = .slice a' n' c' := by
        rcases Go.Deep.open_slice1 Try.underlying22 Try.cells5 e1 with ⟨h, _⟩ | ⟨a', n', c', _, _, _, _, _, h, _⟩
        · simp only [List.cons.injEq, and_true] at h; exact ⟨_, _, _, h⟩
        · simp only [List.cons.injEq, and_true] at h; exact ⟨_, _, _, h⟩
      obtain ⟨a', n', c', hV⟩ := hV1
      rw [hV] at e1 c1
      obtain ⟨l, hl, _⟩ := open_bytes (p := P1 i) (d := D1 i) ⟨k, e1⟩
      refine ⟨(UInt8.ofNat z.toNat, l), ?_, a', n', c', c1, hl⟩
      rw [c0, hz]
      show some (Value.int .u8 z) = some (Value.int .u8 _)
      rw [← byte_wf hw]
    obtain ⟨F, hF⟩ := Go.Deep.choose_lt hel
    have hlen : ((List.range n).map F).length = n := by simp
    refine ⟨(List.range n).map F, some x, m, by rw [hlen], by rw [hlen]; exact hl, by omega, fun hz => ?_⟩
    rw [hlen] at hz
    have h0 := (hF 0 (by omega)).1
    have hsp := World.cell?_spot h0
    obtain ⟨b, off, sp⟩ := x
    have hsp' : sp = none := by
      cases sp with
      | none => rfl
      | some k => simp [Addr.add] at hsp
    subst hsp'
    refine ⟨b, off, rfl, ?_, fun i hi => ?_⟩
    · rw [addr_add] at h0
      exact World.block_lt_of_cell? W ⟨b, off + 0 * 2, none⟩ h0
    · have hi' : i < n := by rw [hlen] at hi; exact hi
      obtain ⟨q1, a', n', c', q2, q3⟩ := hF i hi'
      rw [addr_add] at q1 q2
      have e : ((List.range n).map F)[i] = F i := by simp
      rw [e]
      exact ⟨q1, a', n', c', by rw [Nat.add_assoc]; exact q2, q3⟩

/-- An append to bytes of one's own, of bytes at an address: which block has grown. -/
theorem wpList_append_grow {w : World} {ops : Array Oper} {rest : List Oper} {o : Oper} {a : Act} {Q : Exit → Act → World → Prop} (hgd : o.guard = none) (s x : Operand)
    (ho : o.op = .call { callee := .builtin .append, args := #[s, x], argTypes := #[22, 22] })
    (base : Nat) (v : Value) (l : List UInt8) (hs : a.eval s = v) (hown : Own w base v l)
    (ad : Addr) (n c : Nat) (m : List UInt8) (hx : a.eval x = .slice (some ad) n c) (hy : Sl w (.slice (some ad) n c) m) (hlen : l.length + m.length ≤ 140737488355328) (hbase : base ≤ w.heap.size)
    (h : ∀ v' w', Own w' base v' (l ++ m) → Below base w w' → w.grownBy w' v.ownBlock → wpList Try.prog ops Q rest (a.put o.dst v') w') : wpList Try.prog ops Q (o :: rest) a w := by
  obtain ⟨i0, hi, hz0, hz1, hz2⟩ := info_parts Try.info5
  obtain ⟨ao, cap, e, h1, h2, h4⟩ := hy
  cases e
  have hnews : ∀ j u, (m.map bv)[j]? = some u → w.cell? (ad.add j) = some u := by
    intro j u hj
    rw [List.getElem?_map] at hj
    by_cases hjl : j < m.length
    · rw [List.getElem?_eq_getElem hjl] at hj
      simp only [Option.map_some, Option.some.injEq] at hj
      subst hj
      obtain ⟨b, off, e, _, hc⟩ := h4 (by omega)
      cases e
      rw [addr_add]; exact hc j hjl
    · rw [List.getElem?_eq_none (by omega)] at hj; cases hj
  refine wpList_append_own w hgd s x 22 ho base 5 i0 (.int .u8 0) 1 1 Try.underlying22 hi hz0 hz1 hz2 rfl (by decide) v l.length (l.map bv) hs hown ad m.length c (m.map bv) hx (by simp) hnews (bv_one m) (by unfold maxLen; omega) (by omega) hbase ?_
  intro v' w' ho' hgr _
  exact h v' w' (by simpa [Own] using ho') ((Below.refl _ _).grown hgr hbase (fun j hj => (ownBlock_tag hown j hj).1)) hgr

theorem ownsRow_below {w w' : World} {base B : Nat} {e : TypeId} {size : Nat} {v : Value} {n : Nat} {xs : List Value} (h : w.ownsRow base e size v n xs) (hb : Below B w w') (hB : w.heap.size ≤ B) : w'.ownsRow base e size v n xs := by
  obtain ⟨q1, q2⟩ := h
  refine ⟨q1, ?_⟩
  rcases q2 with h | ⟨g, cap, cur, a, b, c, r⟩
  · exact .inl h
  · exact .inr ⟨g, cap, cur, a, b, (hb.block g (by have := lt_of_block c; omega)).trans c, r⟩

end Go.Proofs.Ytoclnnkeabbicaa
