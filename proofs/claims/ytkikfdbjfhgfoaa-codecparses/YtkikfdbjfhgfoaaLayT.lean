/-
  DERIVED. Texts that are laid: the walk of layText.
-/
import Derived.Test.YtkikfdbjfhgfoaaAwake
import Derived.Lib.AppendStr
namespace Go.Proofs.Ytkikfdbjfhgfoaa
open Go.RowKit

theorem strCells_eq (m : List UInt8) : Lib.strCells ⟨m.toArray⟩ = m.map bv := by
  simp [Lib.strCells]

/-- append(b, s...), b one's own. -/
theorem wpList_append_text {w : World} {ops : Array Oper} {rest : List Oper} {o : Oper} {a : Act} {Q : Exit → Act → World → Prop} (hgd : o.guard = none) (s x : Operand)
    (ho : o.op = .call { callee := .builtin .append, args := #[s, x], argTypes := #[22, 9] })
    (base : Nat) (v : Value) (l : List UInt8) (hs : a.eval s = v) (hown : Own w base v l)
    (m : List UInt8) (hx : a.eval x = .string ⟨m.toArray⟩) (hlen : l.length + m.length ≤ 140737488355328) (hbase : base ≤ w.heap.size)
    (h : ∀ v' w', Own w' base v' (l ++ m) → Below base w w' → wpList Try.prog ops Q rest (a.put o.dst v') w') : wpList Try.prog ops Q (o :: rest) a w := by
  obtain ⟨i0, hi, hz0, hz1, hz2⟩ := info_parts Try.info5
  have hsz : (⟨m.toArray⟩ : ByteArray).size = m.length := by simp [ByteArray.size]
  refine Lib.wpList_append_own_string w hgd s x 22 9 ho base 5 i0 Try.underlying22 Try.underlying9 hi hz0 hz1 hz2 v l.length (l.map bv) hs hown ⟨m.toArray⟩ hx (by rw [hsz]; unfold maxLen; omega) (by rw [hsz]; omega) hbase ?_
  intro v' w' ho' hgr _
  rw [hsz, strCells_eq] at ho'
  refine h v' w' (by simpa [Own] using ho') ((Below.refl _ _).grown hgr hbase ?_)
  intro k hk
  rcases hown.2 with ⟨rfl, _⟩ | ⟨g, cap', cur, rfl, hb, _⟩
  · cases hk
  · simp only [Value.ownBlock, Option.some.injEq] at hk; omega

/-- A text's bytes: P1.3. -/
def layT (s : List UInt8) : List UInt8 := lay s.length ++ s

set_option maxHeartbeats 1000000 in
theorem layText_any (base : Nat) (v : Value) (l s : List UInt8) (w : World) (hb : base ≤ w.heap.size) (hv : Room w base v l) (hl : l.length + 10 + s.length ≤ 140737488355328) :
    Calls Try.prog 43 #[v, .string ⟨s.toArray⟩] w fun e w' => ∃ v', e = .returned v' ∧ Own w' base v' (l ++ layT s) ∧ Below base w w' := by
  go_enter Try.func43, Try.ntmps43
  go_wp2_with fail
  refine (layUint_at base v l _ s.length _ hb hv (by omega) (by omega) (by simp)).mono ?_
  rintro e w1 ⟨v1, rfl, own1, b1⟩
  have s1 := b1.size
  have hll := lay_len s.length
  have HO := hide own1
  have HB := hide b1
  clear own1 b1
  go_wp2_with (at_builtin; refine wpList_append_text rfl (.tmp 9) (.tmp 10) rfl base _ (l ++ lay s.length) rfl (unhide HO) s rfl ?hlen ?hbase ?_)
  case hlen => simp; omega
  case hbase => omega
  intro v2 w2 own2 b2
  have HO2 : Hid (Own w2 base v2 (l ++ layT s)) := hide (by simpa [layT] using own2)
  have HB2 := hide ((unhide HB).trans b2)
  clear own2 b2
  go_wp2
  go_ret
  exact ⟨_, rfl, unhide HO2, unhide HB2⟩
end Go.Proofs.Ytkikfdbjfhgfoaa
