/-
  DERIVED. A row of entries of one's own, and append(a, l...) to it.
-/
import Derived.Test.YtgpijeaehkabdaaXsame2
namespace Go.Proofs.Ytgpijeaehkabdaa
open Go.RowKit Go.Maps
set_option linter.unusedVariables false

def zc (z : Eno) : List Value := [natV z.pos, sv z.e.s, natV z.e.num, sv z.e.e.type, .int .i64 z.e.e.ver, .slice (some ⟨z.fb, 0, none⟩) z.e.e.fields.length z.e.e.fields.length]
def zcells (zs : List Eno) : List Value := zs.flatMap zc
theorem zcells_len : ∀ zs : List Eno, (zcells zs).length = zs.length * 6
  | [] => rfl
  | z :: r => by
    show (zc z ++ zcells r).length = _
    rw [List.length_append, zcells_len r]
    show 6 + r.length * 6 = (r.length + 1) * 6
    omega
theorem zcells_app (a b : List Eno) : zcells (a ++ b) = zcells a ++ zcells b := by unfold zcells; rw [List.flatMap_append]
theorem zcells_at : ∀ (zs : List Eno) (i j : Nat) (h : i < zs.length), j < 6 → (zcells zs)[i * 6 + j]? = (zc zs[i])[j]?
  | [], _, _, h, _ => by simp at h
  | z :: r, 0, j, h, hj => by
    show (zc z ++ zcells r)[0 * 6 + j]? = _
    rw [List.getElem?_append_left (by show 0 * 6 + j < 6; omega)]
    simp
  | z :: r, i + 1, j, h, hj => by
    show (zc z ++ zcells r)[(i + 1) * 6 + j]? = _
    rw [List.getElem?_append_right (by show 6 ≤ _; omega), show (zc z).length = 6 from rfl, show (i + 1) * 6 + j - 6 = i * 6 + j by omega, zcells_at r i j (by simpa using h) hj]
    rfl
theorem zcells_one (zs : List Eno) : ∀ u ∈ zcells zs, u.oneCell' = true := by
  intro u hu
  unfold zcells at hu
  obtain ⟨z, _, hz⟩ := List.mem_flatMap.1 hu
  simp only [zc, List.mem_cons, List.not_mem_nil, or_false] at hz
  rcases hz with rfl | rfl | rfl | rfl | rfl | rfl <;> rfl
theorem EnBlk.cells {w : World} {q n : Nat} {zs : List Eno} (h : EnBlk w q n zs) : ∀ j u, (zcells zs)[j]? = some u → w.cell? ((⟨q, 0, none⟩ : Addr).add j) = some u := by
  intro j u hu
  obtain ⟨⟨cs, h1, h2, h3, h4⟩, _⟩ := h
  have hj : j < zs.length * 6 := by
    rw [← zcells_len]
    rcases Nat.lt_or_ge j (zcells zs).length with h' | h'
    · exact h'
    · rw [List.getElem?_eq_none h'] at hu; cases hu
  have hadd : (⟨q, 0, none⟩ : Addr).add j = ⟨q, j, none⟩ := by unfold Addr.add; split <;> simp_all
  rw [hadd, cell_of_row w q j cs _ _ h1]
  have hi : j / 6 < zs.length := by omega
  have e : j = j / 6 * 6 + j % 6 := by omega
  rw [e, zcells_at zs (j / 6) (j % 6) hi (by omega)] at hu
  rw [e]
  obtain ⟨a0, a1, a2, a3, a4, a5⟩ := h4 (j / 6) hi
  have hm : j % 6 < 6 := by omega
  generalize j % 6 = m at hu hm
  match m, hm with
  | 0, _ => rw [Nat.add_zero, a0]; exact hu
  | 1, _ => rw [a1]; exact hu
  | 2, _ => rw [a2]; exact hu
  | 3, _ => rw [a3]; exact hu
  | 4, _ => rw [a4]; exact hu
  | 5, _ => rw [a5]; exact hu

/-- A slice of entries of one's own. -/
structure EnOwn (w : World) (v : Value) (zs : List Eno) : Prop where
  row : w.ownsRow 0 45 6 v zs.length (zcells zs)
  fds : ∀ z ∈ zs, FdBlk w z.fb z.e.e.fields.length z.e.e.fields ∧ z.e.e.fields.length ≤ 16
theorem EnOwn.nil (w : World) : EnOwn w (.slice none 0 0) [] := ⟨World.ownsRow_nil _ _ _ _, fun z hz => by simp at hz⟩
theorem EnOwn.frame {w w' : World} {v : Value} {zs : List Eno} (h : EnOwn w v zs) (hk : ∀ q, q < w.heap.size → (v.ownBlock = some q ∨ ∃ z ∈ zs, q = z.fb) → w'.heap[q]? = w.heap[q]?) : EnOwn w' v zs :=
  ⟨ownsRow_frame h.row fun q hq hl => hk q hl (.inl hq), fun z hz => ⟨(h.fds z hz).1.same (hk _ (h.fds z hz).1.lt (.inr ⟨z, hz, rfl⟩)), (h.fds z hz).2⟩⟩
theorem EnOwn.grown {w w' : World} {v : Value} {zs : List Eno} (h : EnOwn w v zs) (hb : Below w.heap.size w w') : EnOwn w' v zs := h.frame fun q hl _ => hb.block q hl
theorem EnOwn.enl {w : World} {v : Value} {zs : List Eno} (h : EnOwn w v zs) : EnL w v (zs.map fun z => (z.pos, z.e)) := by
  have hlen : (zs.map fun z => (z.pos, z.e)).length = zs.length := List.length_map ..
  rcases h.row.2 with ⟨e, h0⟩ | ⟨g, cap, cur, e, _, hg, h1, h2, _⟩
  · exact ⟨none, 0, by rw [e, hlen, h0], by rw [hlen]; omega, by omega, fun hz => absurd (hlen.trans h0) hz⟩
  · refine ⟨_, cap, by rw [e, hlen], by rw [hlen]; exact h1, by unfold maxLen at h2; omega, fun _ => ⟨g, 0, rfl, lt_of_block hg, fun i hi => ?_⟩⟩
    have hi' : i < zs.length := by rw [hlen] at hi; exact hi
    have he : (zs.map fun z => (z.pos, z.e))[i] = (zs[i].pos, zs[i].e) := by simp
    rw [Nat.zero_add, he]
    have hr := h.row
    rw [e] at hr
    have c : ∀ j, j < 6 → w.cell? ⟨g, i * 6 + j, none⟩ = (zc zs[i])[j]? := fun j hj => by rw [hr.cellAt (i * 6 + j) (by omega), zcells_at zs i j hi' hj]
    obtain ⟨q1, q2⟩ := h.fds zs[i] (List.getElem_mem hi')
    exact ⟨c 0 (by omega), c 1 (by omega), c 2 (by omega), c 3 (by omega), c 4 (by omega), _, _, _, c 5 (by omega), q1.fdl rfl (by omega)⟩

theorem wpList_append_ents {w : World} {ops : Array Oper} {rest : List Oper} {o : Oper} {a : Act} {Q : Exit → Act → World → Prop} (hgd : o.guard = none) (s x : Operand)
    (ho : o.op = .call { callee := .builtin .append, args := #[s, x], argTypes := #[37, 37] })
    (v : Value) (zs : List Eno) (hs : a.eval s = v) (hown : EnOwn w v zs) (q n : Nat) (zs' : List Eno) (hx : a.eval x = .slice (some ⟨q, 0, none⟩) n n) (hy : EnBlk w q n zs') (hn : zs'.length = n) (hlen : zs.length + n ≤ 1000000)
    (h : ∀ v' w', EnOwn w' v' (zs ++ zs') → w.grownBy w' v.ownBlock → (v'.ownBlock = v.ownBlock ∨ v'.ownBlock = some w.heap.size) → wpList Try.prog ops Q rest (a.put o.dst v') w') : wpList Try.prog ops Q (o :: rest) a w := by
  obtain ⟨i0, hi, hz0, hz1, hz2⟩ := info_parts infoEntry3
  subst hn
  refine wpList_append_own_at w hgd s x 37 ho 0 45 i0 _ 6 80 Try.underlying37 hi hz0 hz1 hz2 rfl (by decide) v zs.length (zcells zs) hs hown.row ⟨q, 0, none⟩ zs'.length zs'.length (zcells zs') hx (zcells_len zs') hy.cells (zcells_one zs') (by unfold maxLen; omega) (by omega) (Nat.zero_le _) ?_
  intro v' w' h1 h2 _ hat
  refine h v' w' ⟨by rw [List.length_append, zcells_app]; exact h1, fun z hz => ?_⟩ h2 hat
  have hfar : ∀ z' : Eno, FdBlk w z'.fb z'.e.e.fields.length z'.e.e.fields → w'.heap[z'.fb]? = w.heap[z'.fb]? := fun z' hf => h2.block _ hf.lt fun e => by
    obtain ⟨cur, hc⟩ := ownsRow_mark hown.row e.symm
    exact hf.kind hc (by decide) rfl
  rcases List.mem_append.1 hz with h' | h'
  · exact ⟨(hown.fds z h').1.same (hfar z (hown.fds z h').1), (hown.fds z h').2⟩
  · exact ⟨(hy.2 z h').1.same (hfar z (hy.2 z h').1), (hy.2 z h').2⟩

/-- Two rows of entries that grow beside each other. -/
structure PcSt (w3 W : World) (va vb : Value) (A B : List Eno) : Prop where
  oa : EnOwn W va A
  ob : EnOwn W vb B
  na : ∀ g, va.ownBlock = some g → w3.heap.size ≤ g ∧ vb.ownBlock ≠ some g
  nb : ∀ g, vb.ownBlock = some g → w3.heap.size ≤ g
  bel : Below w3.heap.size w3 W
theorem PcSt.grown {w3 W W' : World} {va vb : Value} {A B : List Eno} (h : PcSt w3 W va vb A B) (hb : Below W.heap.size W W') : PcSt w3 W' va vb A B :=
  ⟨h.oa.grown hb, h.ob.grown hb, h.na, h.nb, h.bel.trans (hb.mono h.bel.size)⟩
theorem EnOwn.other {W W' : World} {v u : Value} {A B : List Eno} (ho : EnOwn W u B) (hv : EnOwn W v A) (hg : W.grownBy W' v.ownBlock) (hne : ∀ g, v.ownBlock = some g → u.ownBlock ≠ some g) : EnOwn W' u B :=
  ho.frame fun q hl hq => hg.block q hl fun e => by
    rcases hq with hq | ⟨z, hz, rfl⟩
    · exact hne q e.symm hq
    · obtain ⟨cur, hc⟩ := ownsRow_mark hv.row e.symm
      exact (ho.fds z hz).1.kind hc (by decide) rfl
theorem PcSt.addA {w3 W W' : World} {va vb v' : Value} {A B Z : List Eno} (h : PcSt w3 W va vb A B) (h1 : EnOwn W' v' (A ++ Z)) (hg : W.grownBy W' va.ownBlock) (hat : v'.ownBlock = va.ownBlock ∨ v'.ownBlock = some W.heap.size) : PcSt w3 W' v' vb (A ++ Z) B := by
  refine ⟨h1, h.ob.other h.oa hg (fun g hg' => (h.na g hg').2), fun g hg' => ?_, h.nb, h.bel.trans ⟨hg.os, hg.tape, hg.output, hg.size, fun k hk => hg.block k (Nat.lt_of_lt_of_le hk h.bel.size) fun e => by have := (h.na k e.symm).1; omega⟩⟩
  rcases hat with hat | hat
  · exact h.na g (hat ▸ hg')
  · rw [hat] at hg'
    cases hg'
    exact ⟨h.bel.size, fun e => by have := (h.ob.row.lt _ e).2; omega⟩
theorem PcSt.addB {w3 W W' : World} {va vb v' : Value} {A B Z : List Eno} (h : PcSt w3 W va vb A B) (h1 : EnOwn W' v' (B ++ Z)) (hg : W.grownBy W' vb.ownBlock) (hat : v'.ownBlock = vb.ownBlock ∨ v'.ownBlock = some W.heap.size) : PcSt w3 W' va v' A (B ++ Z) := by
  refine ⟨h.oa.other h.ob hg (fun g hg' e => (h.na g e).2 hg'), h1, fun g hg' => ⟨(h.na g hg').1, fun e => ?_⟩, fun g hg' => ?_, h.bel.trans ⟨hg.os, hg.tape, hg.output, hg.size, fun k hk => hg.block k (Nat.lt_of_lt_of_le hk h.bel.size) fun e => by have := h.nb k e.symm; omega⟩⟩
  · rcases hat with hat | hat
    · exact (h.na g hg').2 (hat ▸ e)
    · rw [hat] at e
      cases e
      have := (h.oa.row.lt _ hg').2
      omega
  · rcases hat with hat | hat
    · exact h.nb g (hat ▸ hg')
    · rw [hat] at hg'
      cases hg'
      exact h.bel.size
theorem EnOwn.form {w : World} {v : Value} {zs : List Eno} (h : EnOwn w v zs) : ∃ a c, v = .slice a zs.length c := by
  rcases h.row.2 with ⟨e, h0⟩ | ⟨g, cap, cur, e, _⟩
  · exact ⟨none, 0, by rw [e, h0]⟩
  · exact ⟨_, _, e⟩
end Go.Proofs.Ytgpijeaehkabdaa
