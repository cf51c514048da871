/-
  DERIVED. The walks of layText, PutText, Text, of the document's PutInt, PutText, Put32, and of behind.
-/
import Derived.Test.YtkikfdbjfhgfoaaRefPut
import Derived.Test.YtkikfdbjfhgfoaaLayT
namespace Go.Proofs.Ytkikfdbjfhgfoaa
open Go.RowKit

set_option maxHeartbeats 1000000 in
theorem Text_any (v : Value) (l : List UInt8) (most : Int) (w : World) (hv : Sl w v l) (hm0 : -9223372036854775808 ≤ most) (hm : most ≤ 9223372036854775807) :
    Calls Try.prog 56 #[v, .int .i64 most] w fun e w' => e = .returned (.tuple #[.string ⟨(pcD l most).toArray⟩, .int .i64 (pcK l most : Nat), .int .i64 (pcE l most : Nat)]) ∧ w = w' := by
  obtain ⟨e, he⟩ : ∃ e, pcE l most = e := ⟨_, rfl⟩
  obtain ⟨k, hk⟩ : ∃ k, pcK l most = k := ⟨_, rfl⟩
  obtain ⟨d, hd⟩ : ∃ d, pcD l most = d := ⟨_, rfl⟩
  rw [he, hk, hd]
  have HE := hide (And.intro he (And.intro hk hd))
  clear he hk hd
  go_enter Try.func56, Try.ntmps56
  go_wp2_with fail
  refine (piece_at v l most e k d _ hv hm0 hm (unhide HE).1 (unhide HE).2.1 (unhide HE).2.2).mono ?_
  rintro e w1 ⟨v1, rfl, hs, rfl⟩
  have hst := hs.str
  have HS := hide hs
  clear hs
  go_wp2
  go_ret3
  exact ⟨rfl, rfl⟩
set_option maxHeartbeats 1000000 in
theorem rPutInt_any (n : Int) (w : World) (hn0 : -9223372036854775808 ≤ n) (hn1 : n ≤ 9223372036854775807) :
    Calls Try.prog 27 #[.int .i64 n] w fun e w' => ∃ v', e = .returned v' ∧ Own w' w.heap.size v' (lay (zig n)) ∧ Below w.heap.size w w' := by
  by_cases hlt : n < 0
  · go_enter Try.func27, Try.ntmps27
    go_wp2_with fail
    refine (rPutUint_at _ (zig n) _ (zig_le n hn0 hn1) ?hx).mono ?_
    case hx => unfold zig; rw [if_pos (by omega)]; (try simp only [IntKind.wrap_u64]); omega
    rintro e w' ⟨v', rfl, hown, hbel⟩
    go_wp2
    go_ret
    exact ⟨_, rfl, hown, hbel⟩
  · go_enter Try.func27, Try.ntmps27
    go_wp2_with fail
    refine (rPutUint_at _ (zig n) _ (zig_le n hn0 hn1) ?hx).mono ?_
    case hx => unfold zig; rw [if_neg (by omega)]; (try simp only [IntKind.wrap_u64]); omega
    rintro e w' ⟨v', rfl, hown, hbel⟩
    go_wp2
    go_ret
    exact ⟨_, rfl, hown, hbel⟩
set_option maxHeartbeats 1000000 in
theorem rPutText_any (s : List UInt8) (w : World) (hl : 10 + s.length ≤ 140737488355328) :
    Calls Try.prog 24 #[.string ⟨s.toArray⟩] w fun e w' => ∃ v', e = .returned v' ∧ Own w' w.heap.size v' (layT s) ∧ Below w.heap.size w w' := by
  go_enter Try.func24, Try.ntmps24
  go_wp2_with fail
  refine (rPutUint_at _ s.length _ (by omega) (by simp)).mono ?_
  rintro e w1 ⟨v1, rfl, own1, b1⟩
  have s1 := b1.size
  have hll := lay_len s.length
  have HO := hide own1
  have HB := hide b1
  clear own1 b1
  go_wp2_with (at_builtin; refine wpList_append_text rfl (.tmp 6) (.tmp 7) rfl w.heap.size _ (lay s.length) rfl (unhide HO) s rfl ?hlen ?hbase ?_)
  case hlen => omega
  case hbase => omega
  intro v2 w2 own2 b2
  have HO2 : Hid (Own w2 w.heap.size v2 (layT s)) := hide (by simpa [layT] using own2)
  have HB2 := hide ((unhide HB).trans b2)
  clear own2 b2
  go_wp2
  go_ret
  exact ⟨_, rfl, unhide HO2, unhide HB2⟩

theorem cat_list (l m : List UInt8) : ((⟨l.toArray⟩ : ByteArray) ++ ⟨m.toArray⟩).toList = l ++ m := by
  have e : ((⟨l.toArray⟩ : ByteArray) ++ ⟨m.toArray⟩) = ⟨(l ++ m).toArray⟩ := by
    apply ByteArray.ext
    simp
  rw [e]
  simp

set_option maxHeartbeats 2000000 in
theorem behind_any (base g N cap : Nat) (vb vl : Value) (l m : List UInt8) (w : World) (hown : Own w base (.slice (some ⟨g, 0, none⟩) N cap) (l ++ m)) (hb : Sl w vb l) (hl : Sl w vl m) (hlen : l.length + m.length ≤ 140737488355328) :
    Calls Try.prog 12 #[.slice (some ⟨g, 0, none⟩) N cap, vb, vl] w fun e w' => e = .returned (.bool true) ∧ Below base w w' := by
  have q1 := hown.sl.str
  have q2 := hb.str
  have q3 := hl.str
  obtain ⟨hN, a1, a2, a3, a4, a5, a6⟩ := hown.at
  rw [← hN] at a1
  have hNle : N ≤ 140737488355328 := by rw [hN]; simp; omega
  have HOwn := hide hown
  have HN := hide hN
  clear hown hb hl a5 a6 hN
  have hcat : ((⟨l.toArray⟩ : ByteArray) ++ ⟨m.toArray⟩).toList = l ++ m := cat_list l m
  have hself : (l ++ m == l ++ m) = true := beq_self_eq_true _
  go_enter Try.func12, Try.ntmps12
  go_wp2
  go_loopw [8] (fun i wr => ∃ (k : Nat) (x : List UInt8), k ≤ N ∧ i = .int .i64 k ∧ Own wr base (.slice (some ⟨g, 0, none⟩) N cap) x ∧ Below base w wr) (fun i _ => N - (intOf i).toNat)
  case atStart => exact ⟨0, l ++ m, by omega, rfl, unhide HOwn, Below.refl _ _⟩
  case round =>
    obtain ⟨k, x, hk, rfl, own1, b1⟩ := hrel
    by_cases hlt : k < N
    · obtain ⟨z0, y1, y2, y3, y4, y5, y6⟩ := own1.at
      obtain ⟨c, hcell⟩ : ∃ c, wr.cell? ⟨g, k, none⟩ = some (bv c) := ⟨_, by have := y5 k (by omega); rwa [Nat.zero_add] at this⟩
      have hfz := y6 k
      have R := own1.set k 3
      have hb2 := b1.setCell (p := ⟨g, k, none⟩) (by show base ≤ g; exact a3) (bv 3)
      have HR := hide (And.intro R hb2)
      clear R hb2 own1 b1 z0 y5 y6 q1 q2 q3 hcat hself
      go_wp2
      go_roundw
      case rel => exact ⟨k + 1, x.set k 3, by omega, by go_num, (unhide HR).1, (unhide HR).2⟩
      case measure => simp [intOf]; omega
    · have HB := hide b1
      clear own1 b1 q1 q2 q3 hcat hself
      go_wp2
      go_ret
      exact ⟨rfl, unhide HB⟩
end Go.Proofs.Ytkikfdbjfhgfoaa
