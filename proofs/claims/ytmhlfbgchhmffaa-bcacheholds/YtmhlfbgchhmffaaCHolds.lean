/-
  BcacheHolds: for every int, every slice of strings and every string it returns true, and its arguments read as before. Conditions: none.
-/
import Derived.Test.YtmhlfbgchhmffaaCawake
import Derived.Test.YtmhlfbgchhmffaaClateSi
import Derived.Test.YtmhlfbgchhmffaaCopen
import Derived.SliceStrings
namespace Go.Proofs.Ytmhlfbgchhmffaa
open Go.ChangeShapes Go.WideShapes Go.ChangeAt Go.RowKit
set_option linter.unusedVariables false

/-- A slice of strings. -/
def Strs (w : World) (v : Value) (l : List ByteArray) : Prop :=
  ∃ ao cap, v = .slice ao l.length cap ∧ l.length ≤ 9223372036854775807 ∧ (∀ x ∈ l, x.size ≤ maxLen) ∧ (l ≠ [] → ∃ pb off, ao = some ⟨pb, off, none⟩ ∧ pb < w.heap.size ∧ ∀ i, (h : i < l.length) → w.cell? ⟨pb, off + i, none⟩ = some (.string l[i]))
theorem Strs.below {w w' : World} {v : Value} {l : List ByteArray} (h : Strs w v l) (hg : Below w.heap.size w w') : Strs w' v l := by
  obtain ⟨ao, cap, rfl, h1, h2, h3⟩ := h
  refine ⟨ao, cap, rfl, h1, h2, fun hne => ?_⟩
  obtain ⟨pb, off, e, hp, hc⟩ := h3 hne
  exact ⟨pb, off, e, by have := hg.size; omega, fun i hi => (hg.cell (p := ⟨pb, off + i, none⟩) hp).trans (hc i hi)⟩
theorem Strs.at {w : World} {ao : Option Addr} {n cap : Nat} {l : List ByteArray} (h : Strs w (.slice ao n cap) l) {i : Nat} (hi : i < l.length) : ∃ b off, ao = some ⟨b, off, none⟩ ∧ b < w.heap.size ∧ w.cell? ⟨b, off + i, none⟩ = some (.string l[i]) ∧ l[i].size ≤ maxLen := by
  obtain ⟨ao', cap', e, _, h3, h4⟩ := h
  cases e
  obtain ⟨b, off, e2, hb, h5⟩ := h4 (by rintro rfl; simp at hi)
  exact ⟨b, off, e2, hb, h5 i hi, h3 _ (List.getElem_mem hi)⟩
theorem Try.cellsStr : Try.prog.cellsOf 9 = 1 := by kernel_rfl
theorem open_strs {H : Type} {enc : TypeId × Value → H} {W : World} {a : Option Addr} {n c : Nat} {d : DataW H} {p : List MemPlace}
    (h : DataW.Trod enc Try.prog W 0 (fun _ => true) true 36 (.slice a n c) d p) : ∃ ss : List ByteArray, Strs W (.slice a n c) ss := by
  obtain ⟨fuel, hf⟩ := h
  rcases open_strings Try.underlying36 Try.underlying9 Try.cellsStr hf with ⟨hcs, hx⟩ | ⟨x, l, cp, ss, hcs, _, hl, hm, hz, hx, hcell, hsz⟩
  · simp [Value.cells] at hcs
    obtain ⟨rfl, rfl, rfl⟩ := hcs
    exact ⟨[], none, 0, rfl, by simp, by simp, fun h => absurd rfl h⟩
  · simp [Value.cells] at hcs
    obtain ⟨rfl, rfl, rfl⟩ := hcs
    rw [if_pos rfl] at hz
    unfold maxLen at hm
    have hlen : (ss.take n).length = n := by simp; omega
    refine ⟨ss.take n, some x, c, by rw [hlen], by rw [hlen]; omega, fun y hy => hsz y (List.mem_of_mem_take hy), fun hne => ?_⟩
    have hn0 : 0 < n := by rw [← hlen]; exact List.length_pos_iff.2 hne
    have h0 := hcell 0 (by omega)
    have hsp := World.cell?_spot h0
    obtain ⟨b, off, sp⟩ := x
    have hsp' : sp = none := by
      cases sp with
      | none => rfl
      | some k => simp [Addr.add] at hsp
    subst hsp'
    refine ⟨b, off, rfl, ?_, fun i hi => ?_⟩
    · rw [addr_add] at h0
      exact World.block_lt_of_cell? W ⟨b, off + 0, none⟩ h0
    · have hi' : i < n := by rw [hlen] at hi; exact hi
      have := hcell i (by omega)
      rw [addr_add] at this
      rw [this]
      simp [List.getD_eq_getElem?_getD, List.getElem?_eq_getElem (show i < ss.length by omega)]

theorem str_ne {a b : ByteArray} (h : a ≠ b) : (a.toList == b.toList) = false := by
  simp only [beq_eq_false_iff_ne, ne_eq]
  intro e
  rw [ByteArray.toList_eq, ByteArray.toList_eq] at e
  exact h (ByteArray.ext (Array.ext' e))
theorem one_key {κ ν : Type} : ∀ {L : List (Th κ ν)}, (L.map (·.k)).Nodup → ∀ {x y : Th κ ν}, x ∈ L → y ∈ L → x.k = y.k → x = y
  | t :: r, h, x, y, hx, hy, e => by
    rw [List.map_cons] at h
    obtain ⟨h1, h2⟩ := List.nodup_cons.1 h
    rcases List.mem_cons.1 hx with hx1 | hx1
    · rcases List.mem_cons.1 hy with hy1 | hy1
      · rw [hx1, hy1]
      · exact absurd (List.mem_map.2 ⟨y, hy1, by rw [← e, hx1]⟩) h1
    · rcases List.mem_cons.1 hy with hy1 | hy1
      · exact absurd (List.mem_map.2 ⟨x, hx1, by rw [e, hy1]⟩) h1
      · exact one_key h2 hx1 hy1 e

/-- One thing is pinned, and no other one. -/
def HInv (pin : ByteArray) (L : List Si.T) : Prop := (∃ t ∈ L, t.k = pin ∧ t.v = -1 ∧ t.p = 1) ∧ ∀ x ∈ L, x.k ≠ pin → x.p = 0
/-- What a Put of another key comes to. -/
def HPost (N c M Z : Nat) (pin k : ByteArray) (v : Int) (W : World) (e : Ending) (w' : World) : Prop :=
  ∃ (k' : ByteArray) (v' : Int) (went d' : Bool), e = .returned (.tuple #[.string k', .int .i64 v', .bool went, .bool d', .int .i64 0]) ∧ (went = true → k' ≠ pin) ∧
    (∃ A t, Si.CAt w' N c M (Z + 1) (A ++ [t]) ∧ HInv pin (A ++ [t]) ∧ t.k = k ∧ t.v = v) ∧ Si.Fr N W w'
theorem Si.Put_hold (W : World) (N c M Z : Nat) (L : List Si.T) (pin k : ByteArray) (v : Int) (h : Si.CAt W N c M Z L) (hI : HInv pin L) (hk : Si.good k) (hkp : k ≠ pin) (hM : 2 ≤ M) (hZ : Z ≤ 1000000) (hN : N ≤ W.heap.size) :
    Calls Try.prog 14 #[.pointer (some ⟨c, 0, none⟩), .string k, .int .i64 v, .bool false] W (HPost N c M Z pin k v W) := by
  obtain ⟨⟨t0, ht0, hk0, hv0, hp0⟩, hoth⟩ := hI
  have hnd : (L.map (·.k)).Nodup := by obtain ⟨m, l, n, D, h⟩ := h; exact h.keys
  have hlen : L.length ≤ M := by obtain ⟨m, l, n, D, h⟩ := h; exact h.len
  cases e : Si.fnd L k with
  | some b =>
    obtain ⟨L1, t, L2, rfl, rfl, rfl, _⟩ := Si.fnd_some e
    refine (Si.Put_there W N c M Z L1 L2 t v false h).mono ?_
    rintro e1 w1 ⟨rfl, ⟨L', a1, rfl⟩, f1⟩
    refine ⟨_, _, _, _, rfl, fun h => (by cases h), ⟨_, _, a1.mono (Nat.le_succ _), ⟨⟨t0, ?_, hk0, hv0, hp0⟩, fun x hx hxp => ?_⟩, rfl, rfl⟩, f1⟩
    · have : t0 ≠ t := fun e => hkp (by rw [← e, hk0])
      simp only [List.mem_append, List.mem_cons] at ht0 ⊢
      rcases ht0 with h | h | h
      · exact .inl (.inl h)
      · exact absurd h this
      · exact .inl (.inr h)
    · simp only [List.mem_append, List.mem_cons, List.not_mem_nil, or_false] at hx
      rcases hx with (hx | hx) | hx
      · exact hoth x (by simp [hx]) hxp
      · exact hoth x (by simp [hx]) hxp
      · subst hx; exact hoth t (by simp) hxp
  | none =>
    by_cases hlt : L.length < M
    · refine (Si.Put_room W N c M Z L k v false h hk e hlt hZ hN).mono ?_
      rintro e1 w1 ⟨rfl, ⟨L', a1, b, rfl⟩, f1⟩
      refine ⟨_, _, _, _, rfl, fun h => (by cases h), ⟨_, _, a1, ⟨⟨t0, by simp [ht0], hk0, hv0, hp0⟩, fun x hx hxp => ?_⟩, rfl, rfl⟩, f1⟩
      rcases List.mem_append.1 hx with hx | hx
      · exact hoth x hx hxp
      · simp at hx; subst hx; rfl
    · have hex : Si.loo L ≠ none := fun hn => by
        rw [Si.loo_none] at hn
        have hall : ∀ x ∈ L, x.k = pin := fun x hx => by
          by_cases hxp : x.k = pin
          · exact hxp
          · exact absurd (hoth x hx hxp) (hn x hx)
        match L, hall, hnd, hlt, hlen with
        | [], _, _, h1, _ => simp at h1; omega
        | [a], _, _, h1, _ => simp at h1; omega
        | a :: b :: r, h1, h2, _, _ =>
          rw [List.map_cons, List.map_cons] at h2
          exact (List.nodup_cons.1 h2).1 (by rw [h1 a (by simp), h1 b (by simp)]; simp)
      obtain ⟨b, hb⟩ : ∃ b, Si.loo L = some b := Option.ne_none_iff_exists'.1 hex
      obtain ⟨L1, t, L2, rfl, hp, rfl, hL1⟩ := Si.loo_some hb
      have htk : t.k ≠ pin := fun e => by
        have := one_key hnd ht0 (show t ∈ L1 ++ t :: L2 by simp) (by rw [hk0, e])
        rw [this] at hp0
        omega
      refine (Si.Put_goes W N c M Z L1 L2 t k v false h hk e (by omega) hL1 hp hZ hN).mono ?_
      rintro e1 w1 ⟨rfl, ⟨L', a1, b, rfl⟩, f1⟩
      refine ⟨_, _, _, _, rfl, fun _ => htk, ⟨_, _, a1, ⟨⟨t0, ?_, hk0, hv0, hp0⟩, fun x hx hxp => ?_⟩, rfl, rfl⟩, f1⟩
      · have : t0 ≠ t := fun e => htk (by rw [← e, hk0])
        simp only [List.mem_append, List.mem_cons] at ht0 ⊢
        rcases ht0 with h | h | h
        · exact .inl (.inl h)
        · exact absurd h this
        · exact .inl (.inr h)
      · simp only [List.mem_append, List.mem_cons, List.not_mem_nil, or_false] at hx
        rcases hx with (hx | hx) | hx
        · exact hoth x (by simp [hx]) hxp
        · exact hoth x (by simp [hx]) hxp
        · subst hx; rfl

theorem Fr.str {N : Nat} {W W' : World} (hf : Si.Fr N W W') {b off i : Nat} {s : ByteArray} (hb : b < N) (hW : N ≤ W.heap.size) (h : W.cell? ⟨b, off + i, none⟩ = some (.string s)) : W'.cell? ⟨b, off + i, none⟩ = some (.string s) :=
  ((hf.below hW).cell (p := ⟨b, off + i, none⟩) hb).trans h
set_option maxRecDepth 100000 in
set_option maxHeartbeats 4000000 in
theorem Holds.walk (m : Int) (vs : Value) (ks : List ByteArray) (pin : ByteArray) (w : World) (hm : I64 m) (hs : Strs w vs ks) (hpin : pin.size ≤ maxLen) :
    Calls Try.prog 4 #[.int .i64 m, vs, .string pin] w fun e w' => e = .returned (.bool true) ∧ Below w.heap.size w w' := by
  have HI := hide hs
  obtain ⟨so, scap, rfl, hs1, _, _⟩ := hs
  obtain ⟨ns, hns⟩ : ∃ n, n = ks.length := ⟨_, rfl⟩
  rw [← hns] at hs1 HI ⊢
  have HNs := hide hns
  have hsi : (ns : Int) ≤ 9223372036854775807 := by omega
  clear hns
  go_enter Try.func4, Try.ntmps4
  go_wp2_with fail
  refine (awake_ok _).mono ?_
  rintro e w1 ⟨rfl, g1⟩
  have G1 := hide g1
  clear g1
  go_wp2_with fail
  refine (Pick_any m 20 w1 hm.1 hm.2 (by omega) (by omega)).mono ?_
  rintro e w2 ⟨q, rfl, hq, rfl⟩
  obtain ⟨M0, hM⟩ : ∃ M, M = q + 1 := ⟨_, rfl⟩
  have e1 : (1 : Int) + (q : Int) = (M0 : Int) := by omega
  have hM1 : 1 ≤ M0 := by omega
  have hM2 : M0 ≤ 20 := by omega
  have hMi : (M0 : Int) ≤ 20 := by omega
  clear hM
  go_wp2_with fail
  refine (Si.New_any w2 M0 hM1 (by omega)).mono ?_
  rintro e w3 ⟨c0, rfl, hc, a3, b3⟩
  have G3 := hide ((unhide G1).trans (b3.mono (unhide G1).size))
  have A3 := hide a3
  have HN3 : Hid (w.heap.size ≤ w2.heap.size) := hide (unhide G1).size
  have hs3 : w2.heap.size ≤ w3.heap.size := b3.size
  clear a3 b3 hc e1 G1 hq
  by_cases h1 : M0 = 1
  · subst h1
    go_wp2_with fail
    refine (Si.New_any w3 2 (by omega) (by omega)).mono ?_
    rintro e w4 ⟨c, rfl, hc, a4, b4⟩
    obtain ⟨N, hN⟩ : ∃ N, N = w3.heap.size := ⟨_, rfl⟩
    have B4 := hide ((unhide G3).trans (b4.mono (unhide G3).size))
    rw [← hN] at a4
    have A4 := hide a4
    have HN : Hid (w.heap.size ≤ N) := hide (by have := unhide HN3; omega)
    have hsz : N ≤ w4.heap.size := by rw [hN]; exact b4.size
    clear a4 b4 hc hN A3 G3 HN3 hs3
    go_wp2_with fail
    refine (Si.Put_room w4 N c 2 0 [] pin (-1) true (unhide A4) hpin rfl (by simp; try omega) (by omega) hsz).mono ?_
    rintro e w5 ⟨rfl, ⟨L5, a5, b5, rfl⟩, f5⟩
    have A5 := hide a5
    have B5 := hide ((unhide B4).trans ((f5.below hsz).mono (unhide HN)))
    have hsz5 : N ≤ w5.heap.size := Nat.le_trans hsz f5.size
    clear a5 f5 A4 B4
    go_wp2_with fail
    refine (Si.Pin_some w5 N c 2 1 [] [] ⟨b5, pin, -1, true, 0⟩ (unhide A5) (by omega)).mono ?_
    rintro e w6 ⟨rfl, a6, f6⟩
    have HS6 : Hid (∃ L, Si.CAt w6 N c 2 2 L ∧ HInv pin L) := hide ⟨_, a6, ⟨_, by simp; rfl, rfl, rfl, rfl⟩, fun x hx hxp => by
      simp at hx
      subst hx
      exact absurd rfl hxp⟩
    have B6 := hide ((unhide B5).trans ((f6.below hsz5).mono (unhide HN)))
    have hsz6 : N ≤ w6.heap.size := Nat.le_trans hsz5 f6.size
    clear a6 f6 A5 B5
    go_wp2
    go_loopw [11] (fun i wr => ∃ n : Nat, i = .int .i64 (n : Int) ∧ n ≤ 200 ∧ Hid (∃ L, Si.CAt wr N c 2 (n + 2) L ∧ HInv pin L) ∧ Hid (Below w.heap.size w wr) ∧ N ≤ wr.heap.size) (fun i _ => 200 - (intOf i).toNat)
    case atStart => exact ⟨0, rfl, by omega, HS6, B6, hsz6⟩
    case round =>
      obtain ⟨n, rfl, hn, HL, HB, hszr⟩ := hrel
      by_cases hlt : n < ns ∧ n < 200
      · obtain ⟨hlt1, hlt2⟩ := hlt
        have hl1 : (n : Int) < (ns : Int) := by omega
        have hl2 : (n : Int) < 200 := by omega
        have hnk : n < ks.length := by rw [← unhide HNs]; exact hlt1
        obtain ⟨kb, ko, rfl, hkb0, _, _⟩ := (unhide HI).at hnk
        obtain ⟨kb', ko', e0, _, ck, gk⟩ := ((unhide HI).below (unhide HB)).at hnk
        cases e0
        have hkbN : kb < N := by have := unhide HN; omega
        obtain ⟨x, hx⟩ : ∃ x, x = ks[n] := ⟨_, rfl⟩
        rw [← hx] at ck gk
        have hidx : (0 : Int) ≤ (n : Int) ∧ (n : Int) < (ns : Int) := ⟨by omega, hl1⟩
        obtain ⟨L, hca, hin⟩ := unhide HL
        have HCA := hide hca
        have HIN := hide hin
        clear hx hca hin HL
        by_cases hxp : x = pin
        · subst hxp
          go_wp2
          go_roundw
          case rel => exact ⟨n + 1, by go_num, by omega, hide ⟨L, (unhide HCA).mono (by omega), unhide HIN⟩, HB, hszr⟩
          case measure => simp [intOf]; omega
        · have hxp3 : (x.toList == pin.toList) = false := str_ne hxp
          go_wp2_with fail
          refine (Si.Put_hold wr N c 2 (n + 2) L pin x n (unhide HCA) (unhide HIN) gk hxp (by omega) (by omega) hszr).mono ?_
          rintro e w7 ⟨k', v', went, d', rfl, hwent, ⟨A, t, a7, i7, tk, tv⟩, f7⟩
          have ck7 := Fr.str f7 hkbN hszr ck
          have A7 := hide a7
          have I7 := hide i7
          have B7 := hide ((unhide HB).trans ((f7.below hszr).mono (unhide HN)))
          have hsz7 : N ≤ w7.heap.size := Nat.le_trans hszr f7.size
          have GT := hide (Si.Get_some w7 N c 2 (n + 2 + 1) A [] t a7)
          rw [tk, tv] at GT
          have HW := hide hwent
          clear a7 i7 f7 HCA HIN tk tv hwent
          go_wp2_with fail
          refine (unhide GT).mono ?_
          rintro e w8 ⟨rfl, a8, f8⟩
          have A8 := hide a8
          have ck8 := Fr.str f8 hkbN hsz7 ck7
          have B8 := hide ((unhide B7).trans ((f8.below hsz7).mono (unhide HN)))
          have hsz8 : N ≤ w8.heap.size := Nat.le_trans hsz7 f8.size
          have hL8 : (A ++ [] ++ [t]).length ≤ 2 := by obtain ⟨_, _, _, _, h⟩ := a8; exact h.len
          obtain ⟨nl, hnl⟩ : ∃ nl, nl = (A ++ [] ++ [t]).length := ⟨_, rfl⟩
          have CL := hide (Si.Len_any w8 N c 2 (n + 2 + 1) _ a8)
          rw [← hnl] at CL hL8
          have hgt : ¬ ((2 : Int) < (nl : Int)) := by omega
          have hvv : ((n : Int) != (n : Int)) = false := by simp
          have HNL : Hid (∃ L, Si.CAt w8 N c 2 (n + 1 + 2) L ∧ HInv pin L) := hide ⟨_, a8, by simpa using unhide I7⟩
          clear a8 f8 hnl GT
          go_wp2_with fail
          refine (unhide CL).mono ?_
          rintro e w9 ⟨rfl, rfl⟩
          cases went with
          | false =>
            go_wp2
            go_roundw
            case rel => exact ⟨n + 1, by go_num, by omega, HNL, B8, hsz8⟩
            case measure => simp [intOf]; omega
          | true =>
            have hkp : k' ≠ pin := unhide HW rfl
            have hkp2 : (k'.toList == pin.toList) = false := str_ne hkp
            go_wp2
            go_roundw
            case rel => exact ⟨n + 1, by go_num, by omega, HNL, B8, hsz8⟩
            case measure => simp [intOf]; omega
      · obtain ⟨L, hca, ⟨t0, ht0, hk0, hv0, hp0⟩, _⟩ := unhide HL
        obtain ⟨L1, L2, rfl⟩ := List.append_of_mem ht0
        have GT := hide (Si.Get_some wr N c 2 (n + 2) L1 L2 t0 hca)
        rw [hk0, hv0] at GT
        have go : ∀ P : Prop, (¬ (n : Int) < (ns : Int) → P) → ((n : Int) < (ns : Int) → ¬ (n : Int) < 200 → P) → P := fun P h1 h2 => by
          by_cases h : (n : Int) < (ns : Int)
          · exact h2 h (by omega)
          · exact h1 h
        clear hca ht0 hk0 hv0 hp0 HL hlt
        refine go _ (fun h1 => ?_) (fun h1 h2 => ?_)
        all_goals
          clear go
          go_wp2_with fail
          refine (unhide GT).mono ?_
          rintro e w7 ⟨rfl, _, f7⟩
          have B7 := hide ((unhide HB).trans ((f7.below hszr).mono (unhide HN)))
          clear f7
          go_wp2
          go_ret
          exact ⟨rfl, unhide B7⟩
  · have hM3 : 2 ≤ M0 := by omega
    have h1b : ((M0 : Int) == 1) = false := by simp; omega
    have h1c : ¬ (M0 : Int) = 1 := by omega
    obtain ⟨N, hN⟩ : ∃ N, N = w2.heap.size := ⟨_, rfl⟩
    have A4 := A3
    rw [← hN] at A4
    have B4 := G3
    have HN : Hid (w.heap.size ≤ N) := hide (by have := unhide HN3; omega)
    have hsz : N ≤ w3.heap.size := by rw [hN]; exact hs3
    clear hN A3 G3 HN3 hs3 h1
    go_wp2_with fail
    refine (Si.Put_room w3 N c0 M0 0 [] pin (-1) true (unhide A4) hpin rfl (by simp; try omega) (by omega) hsz).mono ?_
    rintro e w5 ⟨rfl, ⟨L5, a5, b5, rfl⟩, f5⟩
    have A5 := hide a5
    have B5 := hide ((unhide B4).trans ((f5.below hsz).mono (unhide HN)))
    have hsz5 : N ≤ w5.heap.size := Nat.le_trans hsz f5.size
    clear a5 f5 A4 B4
    go_wp2_with fail
    refine (Si.Pin_some w5 N c0 M0 1 [] [] ⟨b5, pin, -1, true, 0⟩ (unhide A5) (by omega)).mono ?_
    rintro e w6 ⟨rfl, a6, f6⟩
    have HS6 : Hid (∃ L, Si.CAt w6 N c0 M0 2 L ∧ HInv pin L) := hide ⟨_, a6, ⟨_, by simp; rfl, rfl, rfl, rfl⟩, fun x hx hxp => by
      simp at hx
      subst hx
      exact absurd rfl hxp⟩
    have B6 := hide ((unhide B5).trans ((f6.below hsz5).mono (unhide HN)))
    have hsz6 : N ≤ w6.heap.size := Nat.le_trans hsz5 f6.size
    clear a6 f6 A5 B5
    go_wp2
    go_loopw [11] (fun i wr => ∃ n : Nat, i = .int .i64 (n : Int) ∧ n ≤ 200 ∧ Hid (∃ L, Si.CAt wr N c0 M0 (n + 2) L ∧ HInv pin L) ∧ Hid (Below w.heap.size w wr) ∧ N ≤ wr.heap.size) (fun i _ => 200 - (intOf i).toNat)
    case atStart => exact ⟨0, rfl, by omega, HS6, B6, hsz6⟩
    case round =>
      obtain ⟨n, rfl, hn, HL, HB, hszr⟩ := hrel
      by_cases hlt : n < ns ∧ n < 200
      · obtain ⟨hlt1, hlt2⟩ := hlt
        have hl1 : (n : Int) < (ns : Int) := by omega
        have hl2 : (n : Int) < 200 := by omega
        have hnk : n < ks.length := by rw [← unhide HNs]; exact hlt1
        obtain ⟨kb, ko, rfl, hkb0, _, _⟩ := (unhide HI).at hnk
        obtain ⟨kb', ko', e0, _, ck, gk⟩ := ((unhide HI).below (unhide HB)).at hnk
        cases e0
        have hkbN : kb < N := by have := unhide HN; omega
        obtain ⟨x, hx⟩ : ∃ x, x = ks[n] := ⟨_, rfl⟩
        rw [← hx] at ck gk
        have hidx : (0 : Int) ≤ (n : Int) ∧ (n : Int) < (ns : Int) := ⟨by omega, hl1⟩
        obtain ⟨L, hca, hin⟩ := unhide HL
        have HCA := hide hca
        have HIN := hide hin
        clear hx hca hin HL
        by_cases hxp : x = pin
        · subst hxp
          go_wp2
          go_roundw
          case rel => exact ⟨n + 1, by go_num, by omega, hide ⟨L, (unhide HCA).mono (by omega), unhide HIN⟩, HB, hszr⟩
          case measure => simp [intOf]; omega
        · have hxp3 : (x.toList == pin.toList) = false := str_ne hxp
          go_wp2_with fail
          refine (Si.Put_hold wr N c0 M0 (n + 2) L pin x n (unhide HCA) (unhide HIN) gk hxp (by omega) (by omega) hszr).mono ?_
          rintro e w7 ⟨k', v', went, d', rfl, hwent, ⟨A, t, a7, i7, tk, tv⟩, f7⟩
          have ck7 := Fr.str f7 hkbN hszr ck
          have A7 := hide a7
          have I7 := hide i7
          have B7 := hide ((unhide HB).trans ((f7.below hszr).mono (unhide HN)))
          have hsz7 : N ≤ w7.heap.size := Nat.le_trans hszr f7.size
          have GT := hide (Si.Get_some w7 N c0 M0 (n + 2 + 1) A [] t a7)
          rw [tk, tv] at GT
          have HW := hide hwent
          clear a7 i7 f7 HCA HIN tk tv hwent
          go_wp2_with fail
          refine (unhide GT).mono ?_
          rintro e w8 ⟨rfl, a8, f8⟩
          have A8 := hide a8
          have ck8 := Fr.str f8 hkbN hsz7 ck7
          have B8 := hide ((unhide B7).trans ((f8.below hsz7).mono (unhide HN)))
          have hsz8 : N ≤ w8.heap.size := Nat.le_trans hsz7 f8.size
          have hL8 : (A ++ [] ++ [t]).length ≤ M0 := by obtain ⟨_, _, _, _, h⟩ := a8; exact h.len
          obtain ⟨nl, hnl⟩ : ∃ nl, nl = (A ++ [] ++ [t]).length := ⟨_, rfl⟩
          have CL := hide (Si.Len_any w8 N c0 M0 (n + 2 + 1) _ a8)
          rw [← hnl] at CL hL8
          have hgt : ¬ ((M0 : Int) < (nl : Int)) := by omega
          have hvv : ((n : Int) != (n : Int)) = false := by simp
          have HNL : Hid (∃ L, Si.CAt w8 N c0 M0 (n + 1 + 2) L ∧ HInv pin L) := hide ⟨_, a8, by simpa using unhide I7⟩
          clear a8 f8 hnl GT
          go_wp2_with fail
          refine (unhide CL).mono ?_
          rintro e w9 ⟨rfl, rfl⟩
          cases went with
          | false =>
            go_wp2
            go_roundw
            case rel => exact ⟨n + 1, by go_num, by omega, HNL, B8, hsz8⟩
            case measure => simp [intOf]; omega
          | true =>
            have hkp : k' ≠ pin := unhide HW rfl
            have hkp2 : (k'.toList == pin.toList) = false := str_ne hkp
            go_wp2
            go_roundw
            case rel => exact ⟨n + 1, by go_num, by omega, HNL, B8, hsz8⟩
            case measure => simp [intOf]; omega
      · obtain ⟨L, hca, ⟨t0, ht0, hk0, hv0, hp0⟩, _⟩ := unhide HL
        obtain ⟨L1, L2, rfl⟩ := List.append_of_mem ht0
        have GT := hide (Si.Get_some wr N c0 M0 (n + 2) L1 L2 t0 hca)
        rw [hk0, hv0] at GT
        have go : ∀ P : Prop, (¬ (n : Int) < (ns : Int) → P) → ((n : Int) < (ns : Int) → ¬ (n : Int) < 200 → P) → P := fun P h1 h2 => by
          by_cases h : (n : Int) < (ns : Int)
          · exact h2 h (by omega)
          · exact h1 h
        clear hca ht0 hk0 hv0 hp0 HL hlt
        refine go _ (fun h1 => ?_) (fun h1 h2 => ?_)
        all_goals
          clear go
          go_wp2_with fail
          refine (unhide GT).mono ?_
          rintro e w7 ⟨rfl, _, f7⟩
          have B7 := hide ((unhide HB).trans ((f7.below hszr).mono (unhide HN)))
          clear f7
          go_wp2
          go_ret
          exact ⟨rfl, unhide B7⟩

set_option maxRecDepth 100000 in
theorem Holds.lifted (os : Os) (started : os.Started) (H : Type) (enc : TypeId × Value → H) :
    ReturnsInHanded {} Try.checked os 4 .any (Rows.bcacheHoldsSpec.pre6 enc Try.prog Try.f4 Rows.bcacheHoldsRow.domain false) (Rows.bcacheHoldsSpec.post enc Try.prog Try.f4 false true false false) := by
  refine returnsInHanded_of_change (C := Try.checked) own_knob started (by kernel_rfl) Try.func4
    (ChangeSpec.witness6 (enc := enc) (C := Try.checked) false ⟨#[], #[.int .i64 0, .slice none 0 0, .string ⟨#[]⟩], []⟩ 8 (by kernel_rfl) (by kernel_rfl) (by kernel_rfl) (by kernel_rfl)) ?_
  intro W base args ds gs before hval0 hW hcnd _
  have hval : ∀ (j : Nat) t v, Try.f4.params[j]? = some t → args[j]? = some v → Value.okWide Try.prog W .any base t v := hval0
  have hW' := hW
  obtain ⟨p, q, hA0, hV, rfl, hfz, hnd⟩ := hW
  have hA : DataW.TrodAll enc Try.prog W 0 (fun _ => true) true Try.f4.params.toList args.toList ds p := hA0
  rw [Try.params4] at hA hval
  obtain ⟨v0, v1, v2, d0, d1, d2, p0, p1, p2, rfl, rfl, rfl, h0, h1, h2⟩ := trodAll_three hA
  obtain ⟨rfl, rfl⟩ := trodVars_none hV
  obtain ⟨a0, rfl, rfl, rfl, w0⟩ := open_int Try.underlying3 (hval 0 3 v0 rfl rfl) h0
  have k1 := h1
  have lt1 : ∀ x ∈ p1, x.block < W.heap.size := by obtain ⟨m, hm⟩ := k1; exact DataW.trod_lt m _ _ _ hm
  obtain ⟨a1, len1, cap1, rfl⟩ := okWide_slice Try.underlying36 (hval 1 36 v1 rfl rfl)
  obtain ⟨l1, hl1⟩ := open_strs h1
  obtain ⟨s2, rfl, rfl, rfl, hs2⟩ := ChangeMaps.open_string Try.underlying9 (hval 2 9 v2 rfl rfl) h2
  have b0 := bounds_i64 w0
  clear hA0 hval0
  refine (Holds.walk a0 _ l1 s2 W ⟨by omega, by omega⟩ hl1 hs2).mono fun e W' ⟨he, bel⟩ => ?_
  subst he
  exact ⟨_, rfl, _, _, _, [], _, [], hW', trodAll_mk1 (shut_bool Try.underlying4 _), (trodAll_cons_mk (shut_int Try.underlying3 w0) (trodAll_cons_mk (Below.trod laid_out (by kernel_rfl) (of_decide_eq_true (by kernel_rfl)) k1 bel lt1) (trodAll_cons_mk (ChangeMaps.shut_string Try.underlying9 hs2) trodAll_mk0))), rfl, bel.frame _, fun h => by cases h⟩

theorem bcacheHolds_holds : Rows.BcacheHoldsSaid :=
  OpenClaim.holds_of_wide 4 Try.f4 rfl rfl rfl rfl rfl rfl rfl ⟨rfl, rfl, rfl, rfl, rfl⟩ rfl rfl rfl rfl rfl (by kernel_rfl) Try.func4 (by kernel_rfl)
    (of_decide_eq_true (by kernel_rfl)) (by unfold Func.isWrapper; first | (rw [if_pos (by decide +kernel)]; kernel_rfl) | (rw [if_neg (by decide +kernel)]; exact ⟨rfl, rfl⟩))
    (fun os started H enc _ => Holds.lifted os started H enc)
#print axioms bcacheHolds_holds
end Go.Proofs.Ytmhlfbgchhmffaa
