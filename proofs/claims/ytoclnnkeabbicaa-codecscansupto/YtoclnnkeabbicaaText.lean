/-
  DERIVED. The walks of layText, PutText, Text, of the document's PutInt, PutText, Put32, and of behind.
-/
import Derived.Test.YtoclnnkeabbicaaRefPut
import Derived.Lib.AppendStr
namespace Go.Proofs.Ytoclnnkeabbicaa
open Go.RowKit

theorem strCells_eq (m : List UInt8) : Lib.strCells ⟨m.toArray⟩ = m.map bv := by
  simp [Lib.strCells]

/-- append(b, s...), b one's own. -/
theorem wpList_append_text {w : World} {ops : Array Oper} {rest : List Oper} {o : Oper} {a : Act} {Q : Exit → Act → World → Prop} (hgd : o.guard = none) (s x : Operand)
    (ho : o.op = .call { callee := .builtin .append, args := #[s, x], argTypes := #[22, 9] })
    (base : Nat) (v : Value) (l : List UInt8) (hs : a.eval s = v) (hown : Own w base v l)
    (m : List UInt8) (hx : a.eval x = .string ⟨m.toArray⟩) (hlen : l.length + m.length ≤ 140737488355328) (hbase : base ≤ w.heap.size)
    (h : ∀ v' w', Own w' base v' (l ++ m) → Below base w w' → wpList Try.prog ops Q rest (a.put o.dst v') w') : wpList Try.prog ops Q (o :: rest) a w := by
  obtain ⟨i0, hi, hz0, hz1, hz2⟩ := info_parts Try.info5
  have hsz : (⟨m.toArray⟩ : ByteArray).size = m.length := by simp [ByteArray.size]
  refine Lib.wpList_append_own_string w hgd s x 22 9 ho base 5 i0 Try.underlying22 Try.underlying9 hi hz0 hz1 hz2 v l.length (l.map bv) hs hown ⟨m.toArray⟩ hx (by rw [hsz]; unfold maxLen; omega) (by rw [hsz]; omega) hbase ?_
  intro v' w' ho' hgr _
  rw [hsz, strCells_eq] at ho'
  refine h v' w' (by simpa [Own] using ho') ((Below.refl _ _).grown hgr hbase ?_)
  intro k hk
  rcases hown.2 with ⟨rfl, _⟩ | ⟨g, cap', cur, rfl, hb, _⟩
  · cases hk
  · simp only [Value.ownBlock, Option.some.injEq] at hk; omega

/-- A text's bytes: P1.3. -/
def layT (s : List UInt8) : List UInt8 := lay s.length ++ s

set_option maxHeartbeats 1000000 in
theorem layText_any (base : Nat) (v : Value) (l s : List UInt8) (w : World) (hb : base ≤ w.heap.size) (hv : Room w base v l) (hl : l.length + 10 + s.length ≤ 140737488355328) :
    Calls Try.prog 64 #[v, .string ⟨s.toArray⟩] w fun e w' => ∃ v', e = .returned v' ∧ Own w' base v' (l ++ layT s) ∧ Below base w w' := by
  go_enter Try.func64, Try.ntmps64
  go_wp2_with fail
  refine (layUint_at base v l _ s.length _ hb hv (by omega) (by omega) (by simp)).mono ?_
  rintro e w1 ⟨v1, rfl, own1, b1⟩
  have s1 := b1.size
  have hll := lay_len s.length
  have HO := hide own1
  have HB := hide b1
  clear own1 b1
  go_wp2_with (at_builtin; refine wpList_append_text rfl (.tmp 9) (.tmp 10) rfl base _ (l ++ lay s.length) rfl (unhide HO) s rfl ?hlen ?hbase ?_)
  case hlen => simp; omega
  case hbase => omega
  intro v2 w2 own2 b2
  have HO2 : Hid (Own w2 base v2 (l ++ layT s)) := hide (by simpa [layT] using own2)
  have HB2 := hide ((unhide HB).trans b2)
  clear own2 b2
  go_wp2
  go_ret
  exact ⟨_, rfl, unhide HO2, unhide HB2⟩
set_option maxHeartbeats 1000000 in
theorem Text_any (v : Value) (l : List UInt8) (most : Int) (w : World) (hv : Sl w v l) (hm0 : -9223372036854775808 ≤ most) (hm : most ≤ 9223372036854775807) :
    Calls Try.prog 15 #[v, .int .i64 most] w fun e w' => e = .returned (.tuple #[.string ⟨(pcD l most).toArray⟩, .int .i64 (pcK l most : Nat), .int .i64 (pcE l most : Nat)]) ∧ w = w' := by
  obtain ⟨e, he⟩ : ∃ e, pcE l most = e := ⟨_, rfl⟩
  obtain ⟨k, hk⟩ : ∃ k, pcK l most = k := ⟨_, rfl⟩
  obtain ⟨d, hd⟩ : ∃ d, pcD l most = d := ⟨_, rfl⟩
  rw [he, hk, hd]
  have HE := hide (And.intro he (And.intro hk hd))
  clear he hk hd
  go_enter Try.func15, Try.ntmps15
  go_wp2_with fail
  refine (piece_at v l most e k d _ hv hm0 hm (unhide HE).1 (unhide HE).2.1 (unhide HE).2.2).mono ?_
  rintro e w1 ⟨v1, rfl, hs, rfl⟩
  have hst := hs.str
  have HS := hide hs
  clear hs
  go_wp2
  go_ret3
  exact ⟨rfl, rfl⟩
set_option maxHeartbeats 1000000 in
theorem rPutInt_any (n : Int) (w : World) (hn0 : -9223372036854775808 ≤ n) (hn1 : n ≤ 9223372036854775807) :
    Calls Try.prog 54 #[.int .i64 n] w fun e w' => ∃ v', e = .returned v' ∧ Own w' w.heap.size v' (lay (zig n)) ∧ Below w.heap.size w w' := by
  by_cases hlt : n < 0
  · go_enter Try.func54, Try.ntmps54
    go_wp2_with fail
    refine (rPutUint_at _ (zig n) _ (zig_le n hn0 hn1) ?hx).mono ?_
    case hx => unfold zig; rw [if_pos (by omega)]; (try simp only [IntKind.wrap_u64]); omega
    rintro e w' ⟨v', rfl, hown, hbel⟩
    go_wp2
    go_ret
    exact ⟨_, rfl, hown, hbel⟩
  · go_enter Try.func54, Try.ntmps54
    go_wp2_with fail
    refine (rPutUint_at _ (zig n) _ (zig_le n hn0 hn1) ?hx).mono ?_
    case hx => unfold zig; rw [if_neg (by omega)]; (try simp only [IntKind.wrap_u64]); omega
    rintro e w' ⟨v', rfl, hown, hbel⟩
    go_wp2
    go_ret
    exact ⟨_, rfl, hown, hbel⟩
set_option maxHeartbeats 1000000 in
theorem rPutText_any (s : List UInt8) (w : World) (hl : 10 + s.length ≤ 140737488355328) :
    Calls Try.prog 53 #[.string ⟨s.toArray⟩] w fun e w' => ∃ v', e = .returned v' ∧ Own w' w.heap.size v' (layT s) ∧ Below w.heap.size w w' := by
  go_enter Try.func53, Try.ntmps53
  go_wp2_with fail
  refine (rPutUint_at _ s.length _ (by omega) (by simp)).mono ?_
  rintro e w1 ⟨v1, rfl, own1, b1⟩
  have s1 := b1.size
  have hll := lay_len s.length
  have HO := hide own1
  have HB := hide b1
  clear own1 b1
  go_wp2_with (at_builtin; refine wpList_append_text rfl (.tmp 6) (.tmp 7) rfl w.heap.size _ (lay s.length) rfl (unhide HO) s rfl ?hlen ?hbase ?_)
  case hlen => omega
  case hbase => omega
  intro v2 w2 own2 b2
  have HO2 : Hid (Own w2 w.heap.size v2 (layT s)) := hide (by simpa [layT] using own2)
  have HB2 := hide ((unhide HB).trans b2)
  clear own2 b2
  go_wp2
  go_ret
  exact ⟨_, rfl, unhide HO2, unhide HB2⟩
set_option maxHeartbeats 1000000 in
theorem rPut32_any (x : Int) (n : Nat) (w : World) (hn : n < 4294967296) (hx : x = n) :
    Calls Try.prog 45 #[.int .u32 x] w fun e w' => ∃ v', e = .returned v' ∧ Own w' w.heap.size v' (le4 n) ∧ Below w.heap.size w w' := by
  subst hx
  have hc : ∀ m : Nat, ((m : Int) % 256) = ((UInt8.ofNat m).toNat : Int) := fun m => by simp only [UInt8.toNat_ofNat']; omega
  have HC := hide hc
  clear hc
  go_enter Try.func45, Try.ntmps45
  go_wp2
  go_loopw [0, 3, 4] (fun k u i wr => ∃ j m : Nat, j ≤ 4 ∧ i = .int .i64 j ∧ k = .int .u32 m ∧ m < 4294967296 ∧ Hid (m = n / 256 ^ j) ∧ Own wr w.heap.size u ((le4 n).take j) ∧ Below w.heap.size w wr) (fun _ _ i _ => 4 - (intOf i).toNat)
  case atStart => exact ⟨0, n, by omega, rfl, rfl, hn, hide (by simp), World.ownsRow_nil _ _ _ _, Below.refl _ _⟩
  case round =>
    obtain ⟨j, m, hj, rfl, rfl, hm, HM, hown, hbel⟩ := hrel
    have hbs := hbel.size
    by_cases hlt : j < 4
    · have hcm := unhide HC m
      obtain ⟨c, hce⟩ : ∃ c, c = UInt8.ofNat m := ⟨_, rfl⟩
      rw [← hce] at hcm
      have HT : Hid ((le4 n).take (j + 1) = (le4 n).take j ++ [c]) := hide (by
        rw [hce, unhide HM]
        rcases (show j = 0 ∨ j = 1 ∨ j = 2 ∨ j = 3 by omega) with rfl | rfl | rfl | rfl <;> simp [le4])
      have HM2 : Hid (m / 256 = n / 256 ^ (j + 1)) := hide (by rw [unhide HM, Nat.div_div_eq_div_mul, Nat.pow_succ])
      clear hce
      have hcm' := hide hcm
      clear hcm
      have hl4 : ((le4 n).take j).length ≤ 4 := by simp [le4]; omega
      go_wp2_with (at_builtin; refine wpList_append_mine rfl (.tmp 9) (.tmp 13) rfl w.heap.size _ ((le4 n).take j) rfl ?hown _ [c] rfl ?hy ?hlen ?hbase ?_)
      case hown => exact hown.alloc _
      case hy => rw [unhide hcm']; exact Sl.new wr [c] (by simp [maxLen]) (0, 0)
      case hlen => simp only [List.length_cons, List.length_nil]; omega
      case hbase => (try simp); omega
      intro v' w1 hown1 hb1
      have R : Own w1 w.heap.size v' ((le4 n).take (j + 1)) := by rw [unhide HT]; exact hown1
      have hb2 : Below w.heap.size w w1 := (hbel.alloc (by omega) _).trans hb1
      clear hown hown1 hb1 hbel
      go_wp2
      go_roundw
      case rel => exact ⟨j + 1, m / 256, by omega, by go_num, by go_num, by omega, HM2, R, hb2⟩
      case measure => simp [intOf]; omega
    · have R : Own wr w.heap.size u3 (le4 n) := by
        have := hown
        rwa [List.take_of_length_le (by simp [le4]; omega)] at this
      have HR := hide R
      have HB := hide hbel
      clear R hown hbel
      go_wp2
      go_ret
      exact ⟨_, rfl, unhide HR, unhide HB⟩

theorem cat_list (l m : List UInt8) : ((⟨l.toArray⟩ : ByteArray) ++ ⟨m.toArray⟩).toList = l ++ m := by
  have e : ((⟨l.toArray⟩ : ByteArray) ++ ⟨m.toArray⟩) = ⟨(l ++ m).toArray⟩ := by
    apply ByteArray.ext
    simp
  rw [e]
  simp

set_option maxHeartbeats 2000000 in
theorem behind_any (base g N cap : Nat) (vb vl : Value) (l m : List UInt8) (w : World) (hown : Own w base (.slice (some ⟨g, 0, none⟩) N cap) (l ++ m)) (hb : Sl w vb l) (hl : Sl w vl m) (hlen : l.length + m.length ≤ 140737488355328) :
    Calls Try.prog 26 #[.slice (some ⟨g, 0, none⟩) N cap, vb, vl] w fun e w' => e = .returned (.bool true) ∧ Below base w w' := by
  have q1 := hown.sl.str
  have q2 := hb.str
  have q3 := hl.str
  obtain ⟨hN, a1, a2, a3, a4, a5, a6⟩ := hown.at
  rw [← hN] at a1
  have hNle : N ≤ 140737488355328 := by rw [hN]; simp; omega
  have HOwn := hide hown
  have HN := hide hN
  clear hown hb hl a5 a6 hN
  have hcat : ((⟨l.toArray⟩ : ByteArray) ++ ⟨m.toArray⟩).toList = l ++ m := cat_list l m
  have hself : (l ++ m == l ++ m) = true := beq_self_eq_true _
  go_enter Try.func26, Try.ntmps26
  go_wp2
  go_loopw [8] (fun i wr => ∃ (k : Nat) (x : List UInt8), k ≤ N ∧ i = .int .i64 k ∧ Own wr base (.slice (some ⟨g, 0, none⟩) N cap) x ∧ Below base w wr) (fun i _ => N - (intOf i).toNat)
  case atStart => exact ⟨0, l ++ m, by omega, rfl, unhide HOwn, Below.refl _ _⟩
  case round =>
    obtain ⟨k, x, hk, rfl, own1, b1⟩ := hrel
    by_cases hlt : k < N
    · obtain ⟨z0, y1, y2, y3, y4, y5, y6⟩ := own1.at
      obtain ⟨c, hcell⟩ : ∃ c, wr.cell? ⟨g, k, none⟩ = some (bv c) := ⟨_, by have := y5 k (by omega); rwa [Nat.zero_add] at this⟩
      have hfz := y6 k
      have R := own1.set k 3
      have hb2 := b1.setCell (p := ⟨g, k, none⟩) (by show base ≤ g; exact a3) (bv 3)
      have HR := hide (And.intro R hb2)
      clear R hb2 own1 b1 z0 y5 y6 q1 q2 q3 hcat hself
      go_wp2
      go_roundw
      case rel => exact ⟨k + 1, x.set k 3, by omega, by go_num, (unhide HR).1, (unhide HR).2⟩
      case measure => simp [intOf]; omega
    · have HB := hide b1
      clear own1 b1 q1 q2 q3 hcat hself
      go_wp2
      go_ret
      exact ⟨rfl, unhide HB⟩
end Go.Proofs.Ytoclnnkeabbicaa
