/-
  DERIVED. Appends that touch the slice's own block alone: the walks of layUint, layInt, layText once more, so told.
-/
import Derived.Test.YtkikfdbjfhgfoaaLayT
import Derived.Test.YtkikfdbjfhgfoaaNew
import Derived.Maps.AppendAt
import Derived.Deep.RegionLaw
namespace Go.Proofs.Ytkikfdbjfhgfoaa
open Go.RowKit
set_option linter.unusedVariables false

/-- From (w, v) to (w', v'): of what was there the slice's own block alone has turned; the slice lies there still, or in a new block. -/
def Ext (w w' : World) (v v' : Value) : Prop := w.grownBy w' v.ownBlock ∧ (v'.ownBlock = v.ownBlock ∨ ∀ j, v'.ownBlock = some j → w.heap.size ≤ j)

theorem Ext.refl (w : World) (v : Value) : Ext w w v v := ⟨⟨rfl, rfl, rfl, Nat.le_refl _, fun _ _ _ => rfl⟩, .inl rfl⟩
theorem Ext.trans {w w1 w2 : World} {v v1 v2 : Value} (h : Ext w w1 v v1) (h2 : Ext w1 w2 v1 v2) : Ext w w2 v v2 := by
  obtain ⟨g1, l1⟩ := h
  obtain ⟨g2, l2⟩ := h2
  refine ⟨⟨g2.os.trans g1.os, g2.tape.trans g1.tape, g2.output.trans g1.output, Nat.le_trans g1.size g2.size, fun k hk hne => ?_⟩, ?_⟩
  · refine (g2.block k (Nat.lt_of_lt_of_le hk g1.size) ?_).trans (g1.block k hk hne)
    intro e
    rcases l1 with l1 | l1
    · rw [l1] at e; exact hne e
    · have := l1 k e.symm; omega
  · rcases l2 with l2 | l2
    · rw [l2]; exact l1
    · exact .inr (fun j hj => Nat.le_trans g1.size (l2 j hj))
theorem Ext.alloc {w w1 : World} {v v1 : Value} (h : Ext w w1 v v1) (o : Obj) : Ext w (w1.alloc o) v v1 :=
  h.trans ⟨World.grownBy_alloc w1 o _, .inl rfl⟩
theorem Ext.drew {w w1 : World} {v v1 : Value} (h : Ext w w1 v v1) : Ext w w1.drew v v1 := ⟨⟨h.1.os, h.1.tape, h.1.output, h.1.size, h.1.block⟩, h.2⟩
theorem Ext.of_drew {w w1 : World} {v v1 : Value} (h : Ext w.drew w1 v v1) : Ext w w1 v v1 := ⟨⟨h.1.os, h.1.tape, h.1.output, h.1.size, h.1.block⟩, h.2⟩
theorem Ext.below {w w1 : World} {v v1 : Value} {base : Nat} {l : List UInt8} (h : Ext w w1 v v1) (ho : Own w base v l) (hb : base ≤ w.heap.size) : Below base w w1 :=
  (Below.refl _ _).grown h.1 hb (fun j hj => by
    rcases ho.2 with ⟨rfl, _⟩ | ⟨g, cap, cur, rfl, hg, _⟩
    · cases hj
    · simp only [Value.ownBlock, Option.some.injEq] at hj; omega)
/-- A cell of another block stays. -/
theorem Ext.cell {w w1 : World} {v v1 : Value} (h : Ext w w1 v v1) {p : Addr} (hp : p.block < w.heap.size) (hne : some p.block ≠ v.ownBlock) : w1.cell? p = w.cell? p := World.cell?_of_block (h.1.block p.block hp hne)

theorem wpList_append_ext {w : World} {ops : Array Oper} {rest : List Oper} {o : Oper} {a : Act} {Q : Exit → Act → World → Prop} (hgd : o.guard = none) (s x : Operand)
    (ho : o.op = .call { callee := .builtin .append, args := #[s, x], argTypes := #[22, 22] })
    (base : Nat) (v : Value) (l : List UInt8) (hs : a.eval s = v) (hown : Own w base v l)
    (ad : Addr) (n c : Nat) (m : List UInt8) (hx : a.eval x = .slice (some ad) n c) (hy : Sl w (.slice (some ad) n c) m) (hlen : l.length + m.length ≤ 140737488355328) (hbase : base ≤ w.heap.size)
    (h : ∀ v' w', Own w' base v' (l ++ m) → Ext w w' v v' → wpList Try.prog ops Q rest (a.put o.dst v') w') : wpList Try.prog ops Q (o :: rest) a w := by
  obtain ⟨i0, hi, hz0, hz1, hz2⟩ := info_parts Try.info5
  obtain ⟨ao, cap, e, h1, h2, h4⟩ := hy
  cases e
  have hnews : ∀ j u, (m.map bv)[j]? = some u → w.cell? (ad.add j) = some u := by
    intro j u hj
    rw [List.getElem?_map] at hj
    by_cases hjl : j < m.length
    · rw [List.getElem?_eq_getElem hjl] at hj
      simp only [Option.map_some, Option.some.injEq] at hj
      subst hj
      obtain ⟨b, off, e, _, hc⟩ := h4 (by omega)
      cases e
      rw [addr_add]; exact hc j hjl
    · rw [List.getElem?_eq_none (by omega)] at hj; cases hj
  refine wpList_append_own_at w hgd s x 22 ho base 5 i0 (.int .u8 0) 1 1 Try.underlying22 hi hz0 hz1 hz2 rfl (by decide) v l.length (l.map bv) hs hown ad m.length c (m.map bv) hx (by simp) hnews (bv_one m) (by unfold maxLen; omega) (by omega) hbase ?_
  intro v' w' ho' hgr _ hloc
  exact h v' w' (by simpa [Own] using ho') ⟨hgr, hloc.imp id (fun e j hj => by rw [e] at hj; cases hj; exact Nat.le_refl _)⟩

theorem step_append_ext {ops : Array Oper} {o : Oper} {a : Act} {w : World} {K : Act → World → Prop} {Q : Exit → Act → World → Prop} {E : Prop}
    (hg : o.guard = none) (s x : Operand) (ho : o.op = .call { callee := .builtin .append, args := #[s, x], argTypes := #[22, 22] })
    (base : Nat) (v : Value) (l : List UInt8) (hs : a.eval s = v) (hown : Own w base v l)
    (ad : Addr) (n c : Nat) (m : List UInt8) (hx : a.eval x = .slice (some ad) n c) (hy : Sl w (.slice (some ad) n c) m) (hlen : l.length + m.length ≤ 140737488355328) (hbase : base ≤ w.heap.size)
    (hK : ∀ v' w', Own w' base v' (l ++ m) → Ext w w' v v' → K (a.put o.dst v') w') :
    if Region.wanted o (yielded ops a.tmps) = true then Oper.wp Try.prog o a w K Q else E := by
  have hw : Region.wanted o (yielded ops a.tmps) = true := by simp [Region.wanted, hg]
  rw [if_pos hw]
  obtain ⟨i0, hi, hz0, hz1, hz2⟩ := info_parts Try.info5
  obtain ⟨ao, cap, e, h1, h2, h4⟩ := hy
  cases e
  have hnews : ∀ j u, (m.map bv)[j]? = some u → w.cell? (ad.add j) = some u := by
    intro j u hj
    rw [List.getElem?_map] at hj
    by_cases hjl : j < m.length
    · rw [List.getElem?_eq_getElem hjl] at hj
      simp only [Option.map_some, Option.some.injEq] at hj
      subst hj
      obtain ⟨b, off, e, _, hc⟩ := h4 (by omega)
      cases e
      rw [addr_add]; exact hc j hjl
    · rw [List.getElem?_eq_none (by omega)] at hj; cases hj
  obtain ⟨v', w', hrun, r1, r2, _, r3⟩ := run_append_own_at (P := Try.prog) w base 22 o.type 5 i0 (.int .u8 0) 1 1 Try.underlying22 hi hz0 hz1 hz2 rfl (by decide) v l.length (l.map bv) hown ad m.length c (m.map bv) (by simp) hnews (bv_one m) (by unfold maxLen; omega) (by omega) hbase
  unfold Oper.wp
  simp [execOp, ho, resolve, invoke, builtin, hs, hx, hrun, Result.andThen]
  exact hK v' w' (by simpa [Own] using r1) ⟨r2, r3.imp id (fun e j hj => by rw [e] at hj; cases hj; exact Nat.le_refl _)⟩

set_option maxHeartbeats 400000 in
theorem layUint_ext (base : Nat) (v : Value) (l : List UInt8) (n : Int) (w : World) (hb : base ≤ w.heap.size) (hv : Own w base v l) (hn0 : 0 ≤ n) (hn1 : n ≤ 18446744073709551615) (hl : l.length + 10 ≤ 140737488355328) :
    Calls Try.prog 35 #[v, .int .u64 n] w fun e w' => ∃ v', e = .returned v' ∧ Own w' base v' (l ++ lay n.toNat) ∧ Ext w w' v v' := by
  go_enter Try.func35, Try.ntmps35
  go_wp2
  go_loopw [0, 1] (fun u k wr => ∃ (m : Int) (l' : List UInt8), k = .int .u64 m ∧ 0 ≤ m ∧ m ≤ 18446744073709551615 ∧ Hid (lay n.toNat = l' ++ lay m.toNat) ∧ Own wr base u (l ++ l') ∧ Ext w wr v u) (fun _ k _ => (intOf k).toNat)
  case atStart => exact ⟨n, [], rfl, hn0, hn1, hide (by simp), by simpa using hv, Ext.refl _ _⟩
  case round =>
    obtain ⟨m, l', rfl, hm0, hm1, HL, hown, hext⟩ := hrel
    have hsz : l'.length + 1 ≤ 10 := by
      have := congrArg List.length (unhide HL)
      have h1 := lay_len n.toNat
      have h2 := lay_len m.toNat
      simp at this
      omega
    have hbs := hext.1.size
    by_cases hlt : 128 ≤ m
    · obtain ⟨c, hc⟩ : ∃ c, c = UInt8.ofNat (128 + m.toNat % 128) := ⟨_, rfl⟩
      have Hc : Hid (bits BinOp.or IntKind.u8 (m % 256) 128 = (c.toNat : Int)) := hide (by rw [hc]; exact or128 m hm0)
      have HL2 : Hid (lay n.toNat = (l' ++ [c]) ++ lay (m / 128).toNat) := hide (by
        rw [unhide HL, lay_big (by omega) (by omega), hc]
        have : m.toNat / 128 = (m / 128).toNat := by omega
        simp [this])
      clear hc HL
      go_wp2_with (at_builtin; refine wpList_append_ext rfl (.tmp 7) (.tmp 11) rfl base _ (l ++ l') rfl ?hroom _ _ _ [c] rfl ?hy ?hlen ?hbase ?_)
      case hroom => exact hown.alloc _
      case hy => rw [unhide Hc]; exact Sl.new wr [c] (by simp [maxLen]) (0, 0)
      case hlen => simp; omega
      case hbase => simp; omega
      intro v' w1 hown1 he1
      have R : Own w1 base v' (l ++ (l' ++ [c])) := by simpa using hown1
      have hb2 : Ext w w1 v v' := (hext.alloc _).trans he1
      clear hown hown1 he1 hext
      go_wp2
      go_roundw
      case rel => exact ⟨m / 128, l' ++ [c], rfl, by omega, by omega, HL2, R, hb2⟩
      case measure => simp [intOf]; omega
    · obtain ⟨c, hc⟩ : ∃ c, c = UInt8.ofNat m.toNat := ⟨_, rfl⟩
      have Hc : Hid (m = (c.toNat : Int)) := hide (by have := byte_of m hm0 (by omega); rw [hc, ← this]; omega)
      have HL2 : Hid (lay n.toNat = l' ++ [c]) := hide (by
        rw [unhide HL, lay_small (by omega), hc])
      clear hc HL
      go_wp2_with (at_builtin; refine wpList_append_ext rfl (.tmp 15) (.tmp 18) rfl base _ (l ++ l') rfl ?hroom2 _ _ _ [c] rfl ?hy2 ?hlen2 ?hbase2 ?_)
      case hroom2 => exact hown.alloc _
      case hy2 => rw [unhide Hc]; exact Sl.new wr [c] (by simp [maxLen]) (0, 0)
      case hlen2 => (try simp); omega
      case hbase2 => (try simp); omega
      intro v' w1 hown1 he1
      have R : Own w1 base v' (l ++ lay n.toNat) := by rw [unhide HL2]; simpa using hown1
      have hb2 : Ext w w1 v v' := (hext.alloc _).trans he1
      clear hown hown1 he1 hext
      go_wp2
      go_ret
      exact ⟨_, rfl, R, hb2⟩
theorem layUint_exs (base : Nat) (v : Value) (l : List UInt8) (x : Int) (n : Nat) (w : World) (hb : base ≤ w.heap.size) (hv : Own w base v l) (hl : l.length + 10 ≤ 140737488355328) (hn : n ≤ 18446744073709551615) (hx : x = n) :
    Calls Try.prog 35 #[v, .int .u64 x] w fun e w' => ∃ v', e = .returned v' ∧ Own w' base v' (l ++ lay n) ∧ Ext w w' v v' := by
  subst hx
  exact layUint_ext base v l n w hb hv (by omega) (by omega) hl

set_option maxHeartbeats 400000 in
theorem layInt_ext (base : Nat) (v : Value) (l : List UInt8) (n : Int) (w : World) (hb : base ≤ w.heap.size) (hv : Own w base v l) (hn0 : -9223372036854775808 ≤ n) (hn1 : n ≤ 9223372036854775807) (hl : l.length + 10 ≤ 140737488355328) :
    Calls Try.prog 39 #[v, .int .i64 n] w fun e w' => ∃ v', e = .returned v' ∧ Own w' base v' (l ++ lay (zig n)) ∧ Ext w w' v v' := by
  have hx := not_i64 n hn0 hn1
  by_cases hlt : n < 0
  · go_enter Try.func39, Try.ntmps39
    go_wp2_with fail
    refine (layUint_exs base v l _ (zig n) _ hb hv hl (zig_le n hn0 hn1) (zig_neg n hlt hn0)).mono ?_
    rintro e w' ⟨v', rfl, hown, hbel⟩
    clear hx
    go_wp2
    go_ret
    exact ⟨_, rfl, hown, hbel⟩
  · go_enter Try.func39, Try.ntmps39
    go_wp2_with fail
    refine (layUint_exs base v l _ (zig n) _ hb hv hl (zig_le n hn0 hn1) (zig_pos n (by omega) hn1)).mono ?_
    rintro e w' ⟨v', rfl, hown, hbel⟩
    clear hx
    go_wp2
    go_ret
    exact ⟨_, rfl, hown, hbel⟩
theorem append_string_loc {w : World} {base : Nat} {ty : TypeId} {i : TypeInfo} (hi : Try.prog.info? 5 = some i) (hz : i.zero = some (.int .u8 0)) (hsize : i.size = 1) (hby : i.bytes = 1)
    {v : Value} {l : List UInt8} (hown : Own w base v l) (s : ByteArray) (hb : l.length + s.size ≤ 140737488355328) {v' : Value} {w' : World} (hr : (Builtin.append_ #[22, 9] ty #[v, .string s]).run Try.prog w = .ok v' w')
    (hn : v' = .slice none 0 0 ↔ v = .slice none 0 0 ∧ s.size = 0) : v'.ownBlock = v.ownBlock ∨ ∀ j, v'.ownBlock = some j → w.heap.size ≤ j := by
  rcases hown.2 with ⟨rfl, hz0⟩ | ⟨g, cap, cur, rfl, hbg, hg, hnc, hcm, hcs, htake⟩
  · by_cases hm : s.size = 0
    · rw [hn.2 ⟨rfl, hm⟩]; exact .inl rfl
    · have hr2 := run_append_nil_string (P := Try.prog) w 22 9 ty 5 i (.int .u8 0) Try.underlying22 Try.underlying9 hi hz s (by omega) (by omega) (by rw [hby]; omega)
      rw [hr] at hr2
      simp only [Result.ok.injEq] at hr2
      rw [hr2.1]
      exact .inr (fun j hj => by simp only [Value.ownBlock, Option.some.injEq] at hj; omega)
  · by_cases hroom : l.length + s.size ≤ cap
    · have hcs' : cur.size = cap := by simpa using hcs
      have hr2 := Lib.run_append_room_string (P := Try.prog) w 22 9 ty 5 i Try.underlying22 Try.underlying9 hi hsize g l.length cap cur hg s hroom (by omega)
      rw [hr] at hr2
      simp only [Result.ok.injEq] at hr2
      rw [hr2.1]
      exact .inl rfl
    · have holds : ∀ j u, (l.map bv)[j]? = some u → w.cell? ((⟨g, 0, none⟩ : Addr).add j) = some u := World.ownsRow.cells hown (g := g) rfl
      have hr2 := Lib.run_append_grow_string (P := Try.prog) w 22 9 ty 5 i (.int .u8 0) Try.underlying22 Try.underlying9 hi hz ⟨g, 0, none⟩ l.length cap (l.map bv) (by rw [hsize]; simp) holds s (by omega) (by omega) (by rw [hby]; exact growslice_fits (by omega) (by omega))
      rw [hr] at hr2
      simp only [Result.ok.injEq] at hr2
      rw [hr2.1]
      exact .inr (fun j hj => by simp only [Value.ownBlock, Option.some.injEq] at hj; omega)

/-- append(b, s...), b one's own. -/
theorem wpList_append_text_ext {w : World} {ops : Array Oper} {rest : List Oper} {o : Oper} {a : Act} {Q : Exit → Act → World → Prop} (hgd : o.guard = none) (s x : Operand)
    (ho : o.op = .call { callee := .builtin .append, args := #[s, x], argTypes := #[22, 9] })
    (base : Nat) (v : Value) (l : List UInt8) (hs : a.eval s = v) (hown : Own w base v l)
    (m : List UInt8) (hx : a.eval x = .string ⟨m.toArray⟩) (hlen : l.length + m.length ≤ 140737488355328) (hbase : base ≤ w.heap.size)
    (h : ∀ v' w', Own w' base v' (l ++ m) → Ext w w' v v' → wpList Try.prog ops Q rest (a.put o.dst v') w') : wpList Try.prog ops Q (o :: rest) a w := by
  obtain ⟨i0, hi, hz0, hz1, hz2⟩ := info_parts Try.info5
  have hsz : (⟨m.toArray⟩ : ByteArray).size = m.length := by simp [ByteArray.size]
  refine wpList_plain hgd fun K hK => ?_
  obtain ⟨v', w', hr, h2, h3, h4⟩ := Lib.run_append_own_string (P := Try.prog) w base 22 9 o.type 5 i0 Try.underlying22 Try.underlying9 hi hz0 hz1 hz2 v l.length (l.map bv) hown ⟨m.toArray⟩ (by rw [hsz]; unfold maxLen; omega) (by rw [hsz]; omega) hbase
  have hloc := append_string_loc hi hz0 hz1 hz2 hown ⟨m.toArray⟩ (by rw [hsz]; omega) hr h4
  unfold Oper.wp execOp
  simp only [ho, resolve, invoke, builtin, Sem.run_bind, Sem.run_pure, Result.andThen_ok, List.map_toArray, List.map_cons, List.map_nil, hs, hx, hr]
  rw [hsz, strCells_eq] at h2
  exact hK _ _ (h v' w' (by simpa [Own] using h2) ⟨h3, hloc⟩)

set_option maxHeartbeats 1000000 in
theorem layText_ext (base : Nat) (v : Value) (l s : List UInt8) (w : World) (hb : base ≤ w.heap.size) (hv : Own w base v l) (hl : l.length + 10 + s.length ≤ 140737488355328) :
    Calls Try.prog 43 #[v, .string ⟨s.toArray⟩] w fun e w' => ∃ v', e = .returned v' ∧ Own w' base v' (l ++ layT s) ∧ Ext w w' v v' := by
  go_enter Try.func43, Try.ntmps43
  go_wp2_with fail
  refine (layUint_exs base v l _ s.length _ hb hv (by omega) (by omega) (by simp)).mono ?_
  rintro e w1 ⟨v1, rfl, own1, b1⟩
  have s1 := b1.1.size
  have hll := lay_len s.length
  have HO := hide own1
  have HB := hide b1
  clear own1 b1
  go_wp2_with (at_builtin; refine wpList_append_text_ext rfl (.tmp 9) (.tmp 10) rfl base _ (l ++ lay s.length) rfl (unhide HO) s rfl ?hlen ?hbase ?_)
  case hlen => simp; omega
  case hbase => omega
  intro v2 w2 own2 b2
  have HO2 : Hid (Own w2 base v2 (l ++ layT s)) := hide (by simpa [layT] using own2)
  have HB2 := hide ((unhide HB).trans b2)
  clear own2 b2
  go_wp2
  go_ret
  exact ⟨_, rfl, unhide HO2, unhide HB2⟩
end Go.Proofs.Ytkikfdbjfhgfoaa
