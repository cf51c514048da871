/-
  DERIVED. The two caches side by side; the law's asked.
-/
import Derived.Test.YtmhlfbgchhmffaaCrput2
import Derived.Test.YtmhlfbgchhmffaaCrdo
import Derived.Test.YtmhlfbgchhmffaaCrkeys
import Derived.Test.YtmhlfbgchhmffaaCkeysIi
namespace Go.Proofs.Ytmhlfbgchhmffaa
open Go.RowKit Go.Maps
set_option linter.unusedVariables false

def strip (t : Ii.T) : It := ⟨t.k, t.v, t.d, t.p⟩
/-- The program's cache and the document's. -/
structure Two (N c b M Z : Nat) (L : List Ii.T) (X : List It) (W : World) : Prop where
  ca : Ii.CAt W N c M Z L
  rc : ∃ v, RC W N b M v X
  sz : N ≤ W.heap.size
theorem Two.below {N c b M Z : Nat} {L : List Ii.T} {X : List It} {W W' : World} (h : Two N c b M Z L X W) (hb : Below W.heap.size W W') : Two N c b M Z L X W' :=
  ⟨h.ca.below hb, h.rc.elim (fun v hv => ⟨v, hv.below hb⟩), Nat.le_trans h.sz hb.size⟩
theorem Two.drewN {N c b M Z : Nat} {L : List Ii.T} {X : List It} {W : World} (h : Two N c b M Z L X W) (q : Nat) : Two N c b M Z L X (W.drewN q) :=
  ⟨h.ca.drewN q, h.rc.elim (fun v hv => ⟨v, hv.drewN q⟩), h.sz⟩
/-- A row of ints has turned. -/
theorem Two.int {N c b M Z : Nat} {L : List Ii.T} {X : List It} {W : World} (h : Two N c b M Z L X W) {g i : Nat} {cur : Array Value} (hg : W.heap[g]? = some (.cells cur 3 (0, 0))) (v : Value) : Two N c b M Z L X (W.setCell ⟨g, i, none⟩ v) := by
  have ne : ∀ {q : Nat} {C : Array Value} {t : TypeId} {fr : Nat × Nat}, W.heap[q]? = some (.cells C t fr) → t ≠ 3 → q ≠ g := by
    rintro q C t fr hq ht rfl
    have h1 := Option.some.inj (hq.symm.trans hg)
    injection h1 with _ h2 _
    exact ht h2
  refine ⟨h.ca.grown (fun k hk hm => Below.heap_setCell W ⟨g, i, none⟩ v k (fun e => ?_)), h.rc.elim (fun u hu => ⟨u, ?_⟩), by simpa using h.sz⟩
  · have e' : k = g := e
    subst e'
    exact not_mine hg (by decide) hm
  · exact ⟨(Below.heap_setCell W ⟨g, i, none⟩ v b (ne hu.blk (by decide))).trans hu.blk, hu.own.keptB (fun q hq _ => by
      obtain ⟨_, cur2, hc⟩ := hu.own.row hq
      exact Below.heap_setCell W ⟨g, i, none⟩ v q (ne hc (by decide))), hu.nb, hu.len⟩

theorem strip_keys (L : List Ii.T) : ((L.map strip).filter (fun x => !false || x.d)).map (·.k) = L.map (·.k) := by
  have e : (L.map strip).filter (fun x => !false || x.d) = L.map strip := List.filter_eq_self.2 (fun _ _ => rfl)
  rw [e, List.map_map]
  rfl
theorem strip_dirty (L : List Ii.T) : ((L.map strip).filter (fun x => !true || x.d)).map (·.k) = (L.filter (·.d)).map (·.k) := by
  rw [List.filter_map, List.map_map]
  rfl

/-- A row to be written over. -/
def Wr (B : Nat) (ao : Option Addr) (n : Nat) (W : World) : Prop := n ≠ 0 → ∃ g cur, ao = some ⟨g, 0, none⟩ ∧ B ≤ g ∧ W.heap[g]? = some (.cells cur 3 (0, 0)) ∧ n ≤ cur.size
theorem Wr.below {B : Nat} {ao : Option Addr} {n : Nat} {W W' : World} (h : Wr B ao n W) (hb : Below W.heap.size W W') : Wr B ao n W' := fun hn => by
  obtain ⟨g, cur, e, h1, h2, h3⟩ := h hn
  exact ⟨g, cur, e, h1, (hb.block g (lt_of_block h2)).trans h2, h3⟩
theorem Wr.set {B : Nat} {ao : Option Addr} {n : Nat} {W : World} (h : Wr B ao n W) (g i : Nat) (v : Value) : Wr B ao n (W.setCell ⟨g, i, none⟩ v) := fun hn => by
  obtain ⟨g', cur, e, h1, h2, h3⟩ := h hn
  by_cases hg : g' = g
  · subst hg
    exact ⟨g', _, e, h1, heap_setCell_same W g' i cur _ v h2, by simpa using h3⟩
  · exact ⟨g', cur, e, h1, (Below.heap_setCell W ⟨g, i, none⟩ v g' hg).trans h2, h3⟩
theorem ZOwn.wr {w : World} {base n cap : Nat} {ao : Option Addr} {xs : List Int} (h : ZOwn w base (.slice ao n cap) xs) (hn : n = xs.length) : Wr base ao n w := fun h0 => by
  rcases h.2 with ⟨e, h1⟩ | ⟨g, cap', cur, e, hb, hg, h1, h2, h3, h4⟩
  · omega
  · cases e
    exact ⟨g, cur, rfl, hb, hg, by omega⟩

def APost (N c b M Z : Nat) (L : List Ii.T) (X : List It) (w : World) (e : Ending) (w' : World) : Prop := e = .returned (.bool true) ∧ Two N c b M Z L X w' ∧ Below w.heap.size w w'
set_option maxRecDepth 20000 in
set_option maxHeartbeats 4000000 in
theorem asked_any (w : World) (N c b M Z : Nat) (L : List Ii.T) (h : Two N c b M Z L (L.map strip) w) :
    Calls Try.prog 11 #[.pointer (some ⟨c, 0, none⟩), .pointer (some ⟨b, 0, none⟩)] w (APost N c b M Z L (L.map strip) w) := by
  have H := hide h
  have hlen : L.length ≤ 1024 := by obtain ⟨m, l, n, D, h⟩ := h.ca; have := h.len; have := h.m2; omega
  clear h
  go_enter Try.func11, Try.ntmps11
  go_wp2_with fail
  refine (Ii.Keys_any w N c M Z L (unhide H).ca).mono ?_
  rintro e w1 ⟨ua, rfl, za, b1⟩
  have H1 := hide ((unhide H).below b1)
  have ZA := hide za
  have B1 := hide b1
  clear za b1
  go_wp2_with fail
  refine (Ii.Dirty_any w1 N c M Z L (unhide H1).ca).mono ?_
  rintro e w2 ⟨ub, rfl, zb, b2⟩
  have H2 := hide ((unhide H1).below b2)
  have ZA2 := hide ((unhide ZA).below b2)
  have ZB := hide (zb.mono (unhide B1).size)
  have B2 := hide ((unhide B1).trans (b2.mono (unhide B1).size))
  clear zb b2 H1 ZA B1
  go_wp2_with fail
  obtain ⟨rv, hrv⟩ := (unhide H2).rc
  refine (rKeys_any w2 N b M rv (L.map strip) false hrv).mono ?_
  rintro e w3 ⟨u3, rfl, z3, b3⟩
  rw [strip_keys] at z3
  have H3 := hide ((unhide H2).below b3)
  have ZA3 := hide ((unhide ZA2).below b3)
  have ZB3 := hide ((unhide ZB).below b3)
  have Z3 := hide z3
  have B3 := hide ((unhide B2).trans (b3.mono (unhide B2).size))
  clear z3 b3 hrv rv H2 ZA2 ZB B2
  go_wp2_with fail
  refine (SameInts_same w3 _ _ ua u3 _ (unhide ZA3) (unhide Z3) (by simpa using hlen)).mono ?_
  rintro e w4 ⟨rfl, q4, rfl⟩
  have H4 := hide ((unhide H3).drewN q4)
  have ZA4 : Hid (ZOwn (w3.drewN q4) w.heap.size ua (L.map (·.k))) := ZA3
  have ZB4 : Hid (ZOwn (w3.drewN q4) w.heap.size ub ((L.filter (·.d)).map (·.k))) := ZB3
  have B4 := hide (below_drewN (unhide B3) q4)
  clear H3 Z3 ZA3 ZB3 B3
  obtain ⟨w4, hw4⟩ : ∃ w4, w4 = w3.drewN q4 := ⟨_, rfl⟩
  rw [← hw4] at H4 ZA4 ZB4 B4 ⊢
  clear hw4
  go_wp2_with fail
  obtain ⟨rv, hrv⟩ := (unhide H4).rc
  refine (rKeys_any w4 N b M rv (L.map strip) true hrv).mono ?_
  rintro e w5 ⟨u5, rfl, z5, b5⟩
  rw [strip_dirty] at z5
  have H5 := hide ((unhide H4).below b5)
  have ZA5 := hide ((unhide ZA4).below b5)
  have ZB5 := hide ((unhide ZB4).below b5)
  have Z5 := hide z5
  have B5 := hide ((unhide B4).trans (b5.mono (unhide B4).size))
  clear z5 b5 hrv rv H4 ZA4 ZB4 B4
  go_wp2_with fail
  refine (SameInts_same w5 _ _ ub u5 _ (unhide ZB5) (unhide Z5) (by
    have := List.length_filter_le (fun t : Ii.T => t.d) L
    simp at this ⊢
    omega)).mono ?_
  rintro e w6 ⟨rfl, q6, rfl⟩
  have H6 := hide ((unhide H5).drewN q6)
  have B6 := hide (below_drewN (unhide B5) q6)
  obtain ⟨ao, acap, rfl, ha1, ha2, _⟩ := (unhide ZA5).form
  obtain ⟨bo, bcap, rfl, hb1, hb2, _⟩ := (unhide ZB5).form
  obtain ⟨na, hna⟩ : ∃ n, n = (L.map (·.k)).length := ⟨_, rfl⟩
  obtain ⟨nb, hnb⟩ : ∃ n, n = ((L.filter (·.d)).map (·.k)).length := ⟨_, rfl⟩
  have WA6 : Hid (Wr w.heap.size ao na (w5.drewN q6)) := hide (by rw [hna]; exact (unhide ZA5).wr rfl)
  have WB6 : Hid (Wr w.heap.size bo nb (w5.drewN q6)) := hide (by rw [hnb]; exact (unhide ZB5).wr rfl)
  have hna2 : na ≤ 1024 := by rw [hna]; simpa using hlen
  have hnb2 : nb ≤ 1024 := by
    have := List.length_filter_le (fun t : Ii.T => t.d) L
    rw [hnb, List.length_map]
    omega
  rw [← hna] at ha1 ⊢
  rw [← hnb] at hb1 ⊢
  have hnai : (na : Int) ≤ 1024 := by omega
  have hnbi : (nb : Int) ≤ 1024 := by omega
  clear H5 ZA5 ZB5 Z5 B5 hna hnb
  obtain ⟨w6, hw6⟩ : ∃ w6, w6 = w5.drewN q6 := ⟨_, rfl⟩
  rw [← hw6] at H6 WA6 WB6 B6 ⊢
  clear hw6
  go_wp2
  go_loopw [9] (fun i wr => ∃ j : Nat, i = .int .i64 (j : Int) ∧ j ≤ na ∧ Hid (Two N c b M Z L (L.map strip) wr) ∧ Hid (Wr w.heap.size ao na wr) ∧ Hid (Wr w.heap.size bo nb wr) ∧ Hid (Below w.heap.size w wr)) (fun i _ => na - (intOf i).toNat)
  case atStart => exact ⟨0, rfl, by omega, H6, WA6, WB6, B6⟩
  case round =>
    obtain ⟨j, rfl, hj, HT, HA, HBb, HBl⟩ := hrel
    have hji : (j : Int) ≤ 1024 := by omega
    by_cases hlt : j < na
    · have hlt' : (j : Int) < (na : Int) := by omega
      have hidx : (0 : Int) ≤ (j : Int) ∧ (j : Int) < (na : Int) := ⟨by omega, hlt'⟩
      obtain ⟨g, cur, rfl, hgB, hg, hgs⟩ := unhide HA (by omega)
      have cg : wr.cell? ⟨g, j, none⟩ = some (cur[j]'(by omega)) := by rw [cell_of_row _ _ _ _ _ _ hg]; simp
      have fg : ∀ i, wr.frozen? ⟨g, i, none⟩ = false := fun i => by simp [World.frozen?, hg]
      have HT2 := hide ((unhide HT).int (i := j) hg (.int .i64 (-9)))
      have HA2 := hide ((unhide HA).set g j (.int .i64 (-9)))
      have HB2 := hide ((unhide HBb).set g j (.int .i64 (-9)))
      have HL2 := hide (Ii.below_set (i := j) (unhide HBl) hgB (.int .i64 (-9)))
      obtain ⟨y, hy⟩ : ∃ y, y = cur[j]'(by omega) := ⟨_, rfl⟩
      rw [← hy] at cg
      clear hg hgs hy
      go_wp2
      go_roundw
      case rel => exact ⟨j + 1, by go_num, by omega, HT2, HA2, HB2, HL2⟩
      case measure => simp [intOf]; omega
    · have hlt' : ¬ (j : Int) < (na : Int) := by omega
      rename World => W9
      go_wp2
      go_loopw [10] (fun i wx => ∃ j : Nat, i = .int .i64 (j : Int) ∧ j ≤ nb ∧ Hid (Two N c b M Z L (L.map strip) wx) ∧ Hid (Wr w.heap.size bo nb wx) ∧ Hid (Below w.heap.size w wx)) (fun i _ => nb - (intOf i).toNat)
      case atStart => exact ⟨0, rfl, by omega, HT, HBb, HBl⟩
      case round =>
        obtain ⟨k, rfl, hk, KT, KB, KBl⟩ := hrel
        have hki : (k : Int) ≤ 1024 := by omega
        by_cases hlt2 : k < nb
        · have hlt2' : (k : Int) < (nb : Int) := by omega
          have hidx : (0 : Int) ≤ (k : Int) ∧ (k : Int) < (nb : Int) := ⟨by omega, hlt2'⟩
          obtain ⟨g, cur, rfl, hgB, hg, hgs⟩ := unhide KB (by omega)
          have cg : wr.cell? ⟨g, k, none⟩ = some (cur[k]'(by omega)) := by rw [cell_of_row _ _ _ _ _ _ hg]; simp
          have fg : ∀ i, wr.frozen? ⟨g, i, none⟩ = false := fun i => by simp [World.frozen?, hg]
          have HT2 := hide ((unhide KT).int (i := k) hg (.int .i64 (-9)))
          have HB2 := hide ((unhide KB).set g k (.int .i64 (-9)))
          have HL2 := hide (Ii.below_set (i := k) (unhide KBl) hgB (.int .i64 (-9)))
          obtain ⟨y, hy⟩ : ∃ y, y = cur[k]'(by omega) := ⟨_, rfl⟩
          rw [← hy] at cg
          clear hg hgs hy
          go_wp2
          go_roundw
          case rel => exact ⟨k + 1, by go_num, by omega, HT2, HB2, HL2⟩
          case measure => simp [intOf]; omega
        · have hlt2' : ¬ (k : Int) < (nb : Int) := by omega
          obtain ⟨rv, hrv⟩ := (unhide KT).rc
          obtain ⟨ro, rcap, rfl, hr1, hr2, _⟩ := hrv.own.form
          have r1 := hrv.c1
          obtain ⟨nl, hnl⟩ : ∃ n, n = L.length := ⟨_, rfl⟩
          have e2 : (L.map strip).length = nl := by rw [List.length_map, hnl]
          rw [e2] at r1
          have CL : Hid (∀ W, Ii.CAt W N c M Z L → Calls Try.prog 27 #[.pointer (some ⟨c, 0, none⟩)] W fun e w' => e = .returned (.int .i64 (nl : Int)) ∧ w' = W) := hide (fun W hW => by rw [hnl]; exact Ii.Len_any W N c M Z L hW)
          have hnn : ((nl : Int) == (nl : Int)) = true := by simp
          clear hrv hnl e2 hr1
          go_wp2_with fail
          go_quiet ((go_at_call 27; exact Calls.quiet_of_same (unhide CL _ ((unhide KT).ca.drewN _))))
          go_wp2
          go_ret
          exact ⟨rfl, (unhide KT).drewN _, below_drewN (unhide KBl) _⟩
end Go.Proofs.Ytmhlfbgchhmffaa
