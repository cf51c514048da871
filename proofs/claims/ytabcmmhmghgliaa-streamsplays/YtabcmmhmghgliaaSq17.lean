/-
  DERIVED. The law's do: parts of a stream, and of all.
-/
import Derived.Test.YtabcmmhmghgliaaSq16
import Derived.Test.YtabcmmhmghgliaaSp5
namespace Go.Proofs.Ytabcmmhmghgliaa
open Go.RowKit Go.Maps
set_option linter.unusedVariables false

theorem numL_get (l : List Ent) (i : Nat) : (numL l)[i]? = l[i]?.map fun e => (i, e) := by
  unfold numL
  rw [List.getElem?_map, List.getElem?_zipIdx]
  cases l[i]? <;> simp
theorem ofD_zip (s : List UInt8) (l : List Ent) : ofD s (numL l) = (l.zipIdx.filter fun x => x.1.s == s).map fun p => (p.2, p.1) := by
  unfold ofD numL
  rw [List.filter_map]
  rfl
theorem ofD_get {s : List UInt8} {l : List Ent} {i p : Nat} {e : Ent} (h1 : (plc l s)[i]? = some p) (h2 : l[p]? = some e) : (ofD s (numL l))[i]? = some (p, e) := by
  rw [ofD_zip, List.getElem?_map]
  unfold plc at h1
  rw [List.getElem?_map] at h1
  obtain ⟨⟨e', p'⟩, hz, rfl⟩ := Option.map_eq_some_iff.1 h1
  rw [hz]
  have hm := (List.mem_filter.1 (List.mem_of_getElem? hz)).1
  have := List.mem_zipIdx_iff_getElem?.1 hm
  simp only at this h2 ⊢
  rw [this] at h2
  simp at h2
  simp [h2]
theorem part_eq {L : List (Nat × Ent)} {zs : List Eno} {fr mo : Nat} (hl : zs.length = min mo (L.length - fr)) (h : ∀ i, (hi : i < zs.length) → L[fr + i]? = some (zs[i].pos, zs[i].e)) : (zs.map fun z => (z.pos, z.e)) = (L.drop fr).take mo := by
  refine List.ext_getElem? fun i => ?_
  by_cases hi : i < zs.length
  · rw [List.getElem?_map, List.getElem?_eq_getElem hi, List.getElem?_take_of_lt (by omega), List.getElem?_drop, h i hi]; rfl
  · rw [List.getElem?_eq_none (by simp; omega), List.getElem?_eq_none (by simp; omega)]
theorem EnBlk.sp {S : Nat → Prop} {W : World} {q n : Nat} {zs : List Eno} (h : EnBlk W q n zs) (hn : zs.length = n) (hq : S q) (hS : ∀ z ∈ zs, S z.fb) : SpAt S W 64 6 q (zs.map fun z => ⟨z.fb, z.e.e.fields.length, z.e.e.fields.length⟩) 0 := by
  obtain ⟨⟨cs, h1, h2, h3, h4⟩, h5⟩ := h
  refine ⟨hq, ⟨cs, h1, by rw [List.length_map]; omega, fun i r _ hr => ?_⟩, fun r hr => ?_⟩
  · rw [List.getElem?_map] at hr
    obtain ⟨z, hz, rfl⟩ := Option.map_eq_some_iff.1 hr
    obtain ⟨hl, rfl⟩ := List.getElem?_eq_some_iff.1 hz
    exact (h4 i hl).2.2.2.2.2
  · obtain ⟨z, hz, rfl⟩ := List.mem_map.1 hr
    obtain ⟨⟨cs', p1, p2, _⟩, p3⟩ := h5 z hz
    refine ⟨hS z hz, fun e => ?_, Nat.le_refl _, by show z.e.e.fields.length ≤ _; omega, cs', p1, by show z.e.e.fields.length * 4 ≤ _; omega⟩
    change z.fb = q at e
    rw [e, h1] at p1
    exact absurd p1 (by simp)
/-- What goes out of the program: a row of entries, new, which reads as these. -/
def OutE (w : World) (L : List (Nat × Ent)) (e : Ending) (W : World) : Prop := ∃ q n rs, e = .returned (.tuple #[.slice (some ⟨q, 0, none⟩) n n, .int .i64 0]) ∧ EnL W (.slice (some ⟨q, 0, none⟩) n n) L ∧ n = List.length rs ∧ n ≤ 100000 ∧ SpAt (fun g => w.heap.size ≤ g) W 64 6 q rs 0 ∧ Below w.heap.size w W
theorem Stream_out {w : World} {F : Nat → Prop} {x N : Nat} {I : Ix} (h : IxAt w F x N I) (hN : N ≤ 100000) (s : List UInt8) (hs : s.length ≤ maxLen) (fr mo : Nat) (hfr : fr ≤ 9223372036854775807) (hmo : mo ≤ 9223372036854775807) :
    Calls Try.prog 21 #[.pointer (some ⟨x, 0, none⟩), sv s, .int .i64 (fr : Int), .int .i64 (mo : Int)] w (OutE w (((ofD s (numL I.all)).drop fr).take mo)) := by
  refine (Stream_go h hN s hs fr mo hfr hmo).mono ?_
  rintro e W ⟨q, zs, rfl, st⟩
  have hv : (ofD s (numL I.all)).length = I.ver s := by rw [ofD_len]; unfold Ix.ver; rw [plc_verL]
  have hlN : I.ver s ≤ 100000 := by
    obtain ⟨_, _, _, _, _, _, _, _, _, _, hin⟩ := h
    have := hin.len
    have := ver_le I s
    omega
  have hlen := st.len
  have he := st.blk.enl st.len (by omega)
  rw [part_eq (L := ofD s (numL I.all)) (fr := fr) (mo := mo) (by rw [hv]; exact st.len) (fun i hi => ofD_get (st.ent i hi).1 (st.ent i hi).2)] at he
  exact ⟨q, _, _, rfl, he, by rw [List.length_map]; exact hlen.symm, by omega, st.blk.sp st.len st.hq st.new, st.bel⟩
theorem All_out {w : World} {F : Nat → Prop} {x N : Nat} {I : Ix} (h : IxAt w F x N I) (hN : N ≤ 100000) (fr mo : Nat) (hfr : fr ≤ 9223372036854775807) (hmo : mo ≤ 9223372036854775807) :
    Calls Try.prog 7 #[.pointer (some ⟨x, 0, none⟩), .int .i64 (fr : Int), .int .i64 (mo : Int)] w (OutE w (((numL I.all).drop fr).take mo)) := by
  refine (All_go h hN fr mo hfr hmo).mono ?_
  rintro e W ⟨q, zs, rfl, st⟩
  have hlN : I.all.length ≤ 100000 := by
    obtain ⟨_, _, _, _, _, _, _, _, _, _, hin⟩ := h
    have := hin.len
    omega
  have hlen := st.len
  have he := st.blk.enl st.len (by omega)
  rw [part_eq (L := numL I.all) (fr := fr) (mo := mo) (by rw [numL_len]; exact st.len) (fun i hi => by rw [numL_get, (st.ent i hi).2, (st.ent i hi).1]; rfl)] at he
  exact ⟨q, _, _, rfl, he, by rw [List.length_map]; exact hlen.symm, by omega, st.blk.sp st.len st.hq st.new, st.bel⟩
/-- What is behind may be written over where it is new. -/
theorem PSt.spoilt {w W V V' : World} {x N rb : Nat} {F E : Nat → Prop} {Bs : List Bat} (h : PSt w W x N rb F E Bs Bs) (hb : Below W.heap.size W V) {S : Nat → Prop} (k : Kept S V V') (hS : ∀ q, S q → W.heap.size ≤ q) : PSt w V' x N rb F E Bs Bs :=
  (h.grown hb).kept2 k (fun q hq => ⟨by have := hS q hq; have := h.bel.size; omega, fun hf => by have := (h.fF q hf).2.1; have := hS q hq; omega, fun he => by have := (h.hE q he).2.1; have := hS q hq; omega, fun e => by have := h.rlt; have := hS q hq; omega⟩) (fun v hv q hq hs => by
    rw [hb.block rb h.rlt] at hv
    have := (h.rin.own v hv q hq).2.1
    have := hS q hs
    omega)

set_option maxRecDepth 20000 in
set_option maxHeartbeats 8000000 in
theorem do_stream {w W : World} {x N rb : Nat} {F E : Nat → Prop} {Bs : List Bat} (h : PSt w W x N rb F E Bs Bs) (hl : Bs.length < 1000) (cc : PCl) (hc : PClOk w cc) (hkd : cc.kd = 4) (hn0 : 0 ≤ cc.n) (hm0 : 0 ≤ cc.m) :
    Calls Try.prog 6 #[.pointer (some ⟨x, 0, none⟩), .pointer (some ⟨rb, 0, none⟩), .agg cc.v] W (DoPost w x rb Bs) := by
  obtain ⟨w1, hw1⟩ : ∃ w1, w1 = W.alloc (.cells cc.v 35) := ⟨_, rfl⟩
  have b1 : Below W.heap.size W w1 := by rw [hw1]; exact (Below.refl _ _).alloc (Nat.le_refl _) _
  obtain ⟨cb, hcb⟩ : ∃ cb, cb = W.heap.size := ⟨_, rfl⟩
  have x1 : w1.heap[cb]? = some (.cells cc.v 35 (0, 0)) := by rw [hw1, hcb]; exact heap_alloc_self _ _
  have HW1 := hide hw1
  have HC := hide hc
  obtain ⟨kd, s, k, n, m, ea, en, ec, es, bs, bk, bf, ba, bn, bc, be⟩ := cc
  obtain ⟨c0, c1, c2, c3, c4, c5, c6, c7, c8, c9⟩ := cbox_cells x1
  have HSV : Hid (∀ V, Below w1.heap.size w1 V → V.cell? ⟨cb, 1, none⟩ = some (sv s) ∧ V.cell? ⟨cb, 3, none⟩ = some (.int .i64 n) ∧ V.cell? ⟨cb, 4, none⟩ = some (.int .i64 m)) := hide (fun V hV => ⟨keptQ hV c1, keptQ hV c3, keptQ hV c4⟩)
  simp only [PCl.v] at HW1 hkd c0 c1 c2 c3 c4 c5 c6 c7 c8 c9 ⊢
  subst hkd
  have h1 := h.grown b1
  have hN : N ≤ 100000 := by have := h.num; have := h.len; omega
  have HP := hide h
  have HB1 := hide b1
  have hs : s.length ≤ maxLen := hc.s
  have hsz : s.length ≤ 9223372036854775807 := by unfold maxLen at hs; omega
  have HP1 : Hid (∀ V, Below w1.heap.size w1 V → PSt w V x N rb F E Bs Bs) := hide (fun V hV => h1.grown hV)
  obtain ⟨fr, rfl⟩ : ∃ fr : Nat, n = (fr : Int) := ⟨n.toNat, by simp only at hn0; omega⟩
  obtain ⟨mo, rfl⟩ : ∃ mo : Nat, m = (mo : Int) := ⟨m.toNat, by simp only at hm0; omega⟩
  have hfr : fr ≤ 9223372036854775807 := by have := hc.n.2; simp only at this; omega
  have hmo : mo ≤ 9223372036854775807 := by have := hc.m.2; simp only at this; omega
  have CX := hide (Stream_out h1.ix hN s hs fr mo hfr hmo)
  obtain ⟨L0, hL0⟩ : ∃ L0, L0 = ofD s (numL (entD Bs)) := ⟨_, rfl⟩
  rw [show ofD s (numL (ixD Bs).all) = L0 from hL0.symm] at CX
  have CO : Hid (∀ V, Below w1.heap.size w1 V → Calls Try.prog 23 #[.pointer (some ⟨rb, 0, none⟩), sv s] V fun e w' => ∃ a n c, e = .returned (.slice a n c) ∧ EnL w' (.slice a n c) L0 ∧ Below V.heap.size V w') := hide (fun V hV => (rOf_go rb Bs s V (h1.grown hV).rd h.ok hsz).mono (by
    rintro e w' ⟨v, rfl, u, o, b, b'⟩
    obtain ⟨a, c, rfl⟩ := o.sl
    exact ⟨a, _, c, rfl, by rw [hL0]; exact o.enl b, b'⟩))
  have CC : Hid (∀ (V : World) (a : Option Addr) (n c : Nat), EnL V (.slice a n c) L0 → Calls Try.prog 22 #[.slice a n c, .int .i64 (fr : Int), .int .i64 (mo : Int)] V fun e w' => V = w' ∧ ∃ a' n' c', e = .returned (.tuple #[.slice a' n' c', .int .i64 0]) ∧ EnL V (.slice a' n' c') ((L0.drop fr).take mo)) := hide (fun V a n c hv => rCut_go a n c L0 V hv fr mo hfr hmo)
  clear hn0 hm0 hL0
  clear h hc b1 x1 hw1 h1
  go_enter Try.func6, Try.ntmps6
  go_upto_region 1 with fail
  rw [show W.alloc (.cells #[Value.int .i64 4, Value.string ⟨s.toArray⟩, .string ⟨k.toArray⟩, .int .i64 ((fr : Nat) : Int), .int .i64 ((mo : Nat) : Int), .slice ea en ec, .string ⟨bs.toArray⟩, .string ⟨bk.toArray⟩, .int .i64 bf, .slice ba bn bc] 35) = w1 from (unhide HW1).symm]
  rw [← hcb]
  clear hcb
  go_wp2_with fail
  with_reducible refine (unhide CX).mono ?_
  rintro e w2 ⟨q, zn, rs, rfl, en2, hzl, hz9, hsp, b2⟩
  have HB2 := hide b2
  have H2d : Hid (Below w1.heap.size w1 w2.drew) := hide b2.drew
  have S0 := hide (unhide HSV _ (unhide H2d))
  have HE2 := hide en2
  have HSp := hide hsp
  have HZl := hide hzl
  clear en2 hsp hzl
  clear b2 CX c0 c1 c2 c3 c4 c5 c6 c7 c8 c9
  go_upto_region 14 with fail
  go_region_held3 (fun V => V.cell? ⟨cb, 1, none⟩ = some (sv s) ∧ V.cell? ⟨cb, 3, none⟩ = some (.int .i64 ((fr : Nat) : Int)) ∧ V.cell? ⟨cb, 4, none⟩ = some (.int .i64 ((mo : Nat) : Int)))
    (first | with_reducible exact unhide S0 | (refine unhide HSV _ ?_; first | with_reducible exact unhide HB3))
    ((first
      | (go_at_call 23; (with_reducible refine (unhide CO _ (unhide H2d)).mono ?_); rintro e w3 ⟨va, vn, vc, rfl, en3, b3⟩; have HE3 := hide en3; have HB3 : Hid (Below w1.heap.size w1 w3) := hide ((unhide H2d).trans (b3.mono (unhide H2d).size)); have HB23 : Hid (Below w2.heap.size w2 w3) := hide ((Below.refl _ w2).drew.trans b3); clear en3 b3)
      | (go_at_call 22; (with_reducible refine (unhide CC _ _ _ _ (unhide HE3)).mono ?_); rintro e w4 ⟨rfl, ua, un, uc, rfl, en4⟩; have HE4 := hide en4; clear en4)))
  all_goals
    have CE := hide (entries_go (fun g => w1.heap.size ≤ g) (some ⟨q, 0, none⟩) zn zn q ua un uc 0 _ rs w3 ((unhide HE2).below (unhide HB23)) (unhide HE4) (unhide HZl) (Nat.le_refl _) (by omega) (fun _ => ⟨rfl, (unhide HSp).below (unhide HB23)⟩))
    clear S0
    go_wp2_with fail
    with_reducible refine (unhide CE).mono ?_
    rintro e w5 ⟨rfl, k5⟩
    have HK5 := hide k5
    clear k5 CE
    go_wp2
    go_ret
    exact DoPost.same ((unhide HP).spoilt ((unhide HB1).trans ((unhide HB3).mono (unhide HB1).size)) (unhide HK5) (fun q hq => Nat.le_trans (unhide HB1).size hq))

set_option maxRecDepth 20000 in
set_option maxHeartbeats 8000000 in
theorem do_stream_neg {w W : World} {x N rb : Nat} {F E : Nat → Prop} {Bs : List Bat} (h : PSt w W x N rb F E Bs Bs) (hl : Bs.length < 1000) (cc : PCl) (hc : PClOk w cc) (hkd : cc.kd = 4) (hneg : cc.n < 0 ∨ cc.m < 0) :
    Calls Try.prog 6 #[.pointer (some ⟨x, 0, none⟩), .pointer (some ⟨rb, 0, none⟩), .agg cc.v] W (DoPost w x rb Bs) := by
  obtain ⟨w1, hw1⟩ : ∃ w1, w1 = W.alloc (.cells cc.v 35) := ⟨_, rfl⟩
  have b1 : Below W.heap.size W w1 := by rw [hw1]; exact (Below.refl _ _).alloc (Nat.le_refl _) _
  obtain ⟨cb, hcb⟩ : ∃ cb, cb = W.heap.size := ⟨_, rfl⟩
  have x1 : w1.heap[cb]? = some (.cells cc.v 35 (0, 0)) := by rw [hw1, hcb]; exact heap_alloc_self _ _
  have HW1 := hide hw1
  have HC := hide hc
  obtain ⟨kd, s, k, n, m, ea, en, ec, es, bs, bk, bf, ba, bn, bc, be⟩ := cc
  obtain ⟨c0, c1, c2, c3, c4, c5, c6, c7, c8, c9⟩ := cbox_cells x1
  have HSV : Hid (∀ V, Below w1.heap.size w1 V → V.cell? ⟨cb, 1, none⟩ = some (sv s) ∧ V.cell? ⟨cb, 3, none⟩ = some (.int .i64 n) ∧ V.cell? ⟨cb, 4, none⟩ = some (.int .i64 m)) := hide (fun V hV => ⟨keptQ hV c1, keptQ hV c3, keptQ hV c4⟩)
  simp only [PCl.v] at HW1 hkd c0 c1 c2 c3 c4 c5 c6 c7 c8 c9 ⊢
  subst hkd
  have h1 := h.grown b1
  have hN : N ≤ 100000 := by have := h.num; have := h.len; omega
  have HP := hide h
  have HB1 := hide b1
  have hs : s.length ≤ maxLen := hc.s
  have hsz : s.length ≤ 9223372036854775807 := by unfold maxLen at hs; omega
  have HP1 : Hid (∀ V, Below w1.heap.size w1 V → PSt w V x N rb F E Bs Bs) := hide (fun V hV => h1.grown hV)
  have CX := hide (Stream_neg h1.ix s hs n m hneg)
  have CO : Hid (∀ V, Below w1.heap.size w1 V → Calls Try.prog 23 #[.pointer (some ⟨rb, 0, none⟩), sv s] V fun e w' => ∃ a n c, e = .returned (.slice a n c) ∧ Below V.heap.size V w') := hide (fun V hV => (rOf_go rb Bs s V (h1.grown hV).rd h.ok hsz).mono (by
    rintro e w' ⟨v, rfl, u, o, b, b'⟩
    obtain ⟨a, c, rfl⟩ := o.sl
    exact ⟨a, _, c, rfl, b'⟩))
  have CC : Hid (∀ (V : World) (a : Option Addr) (n' c : Nat), Calls Try.prog 22 #[.slice a n' c, .int .i64 n, .int .i64 m] V fun e w' => e = .returned (.tuple #[.slice none 0 0, .int .i64 1]) ∧ V = w') := hide (fun V a n' c => rCut_neg _ n m hneg V)
  clear hneg
  clear h hc b1 x1 hw1 h1
  go_enter Try.func6, Try.ntmps6
  go_upto_region 1 with fail
  rw [show W.alloc (.cells #[Value.int .i64 4, Value.string ⟨s.toArray⟩, .string ⟨k.toArray⟩, .int .i64 n, .int .i64 m, .slice ea en ec, .string ⟨bs.toArray⟩, .string ⟨bk.toArray⟩, .int .i64 bf, .slice ba bn bc] 35) = w1 from (unhide HW1).symm]
  rw [← hcb]
  clear hcb
  go_wp2_with fail
  with_reducible refine (unhide CX).mono ?_
  rintro e w2 ⟨rfl, b2⟩
  have HB2 := hide b2
  have H2d : Hid (Below w1.heap.size w1 w2.drew) := hide b2.drew
  have S0 := hide (unhide HSV _ (unhide H2d))
  clear b2 CX c0 c1 c2 c3 c4 c5 c6 c7 c8 c9
  go_upto_region 14 with fail
  go_region_held3 (fun V => V.cell? ⟨cb, 1, none⟩ = some (sv s) ∧ V.cell? ⟨cb, 3, none⟩ = some (.int .i64 n) ∧ V.cell? ⟨cb, 4, none⟩ = some (.int .i64 m))
    (first | with_reducible exact unhide S0 | (refine unhide HSV _ ?_; first | with_reducible exact unhide HB3))
    ((first
      | (go_at_call 23; (with_reducible refine (unhide CO _ (unhide H2d)).mono ?_); rintro e w3 ⟨va, vn, vc, rfl, b3⟩; have HB3 : Hid (Below w1.heap.size w1 w3) := hide ((unhide H2d).trans (b3.mono (unhide H2d).size)); have HB23 : Hid (Below w2.heap.size w2 w3) := hide ((Below.refl _ w2).drew.trans b3); clear b3)
      | (go_at_call 22; (with_reducible refine (unhide CC _ _ _ _).mono ?_); rintro e w4 ⟨rfl, rfl⟩)))
  all_goals
    have CE := hide (entries_go (fun _ => False) none 0 0 0 none 0 0 1 [] [] w3 ⟨none, 0, rfl, by simp, by omega, fun h => absurd rfl h⟩ ⟨none, 0, rfl, by simp, by omega, fun h => absurd rfl h⟩ rfl (Nat.le_refl _) (by omega) (fun q => absurd rfl q))
    clear S0
    go_wp2_with fail
    with_reducible refine (unhide CE).mono ?_
    rintro e w5 ⟨rfl, k5⟩
    have HK5 := hide k5
    clear k5 CE
    go_wp2
    go_ret
    exact DoPost.same ((unhide HP).spoilt ((unhide HB1).trans ((unhide HB3).mono (unhide HB1).size)) (unhide HK5) (fun q hq => hq.elim))

set_option maxRecDepth 20000 in
set_option maxHeartbeats 8000000 in
theorem do_all {w W : World} {x N rb : Nat} {F E : Nat → Prop} {Bs : List Bat} (h : PSt w W x N rb F E Bs Bs) (hl : Bs.length < 1000) (cc : PCl) (hc : PClOk w cc) (hkd : cc.kd = 5) (hn0 : 0 ≤ cc.n) (hm0 : 0 ≤ cc.m) :
    Calls Try.prog 6 #[.pointer (some ⟨x, 0, none⟩), .pointer (some ⟨rb, 0, none⟩), .agg cc.v] W (DoPost w x rb Bs) := by
  obtain ⟨w1, hw1⟩ : ∃ w1, w1 = W.alloc (.cells cc.v 35) := ⟨_, rfl⟩
  have b1 : Below W.heap.size W w1 := by rw [hw1]; exact (Below.refl _ _).alloc (Nat.le_refl _) _
  obtain ⟨cb, hcb⟩ : ∃ cb, cb = W.heap.size := ⟨_, rfl⟩
  have x1 : w1.heap[cb]? = some (.cells cc.v 35 (0, 0)) := by rw [hw1, hcb]; exact heap_alloc_self _ _
  have HW1 := hide hw1
  have HC := hide hc
  obtain ⟨kd, s, k, n, m, ea, en, ec, es, bs, bk, bf, ba, bn, bc, be⟩ := cc
  obtain ⟨c0, c1, c2, c3, c4, c5, c6, c7, c8, c9⟩ := cbox_cells x1
  have HSV : Hid (∀ V, Below w1.heap.size w1 V → V.cell? ⟨cb, 1, none⟩ = some (sv s) ∧ V.cell? ⟨cb, 3, none⟩ = some (.int .i64 n) ∧ V.cell? ⟨cb, 4, none⟩ = some (.int .i64 m)) := hide (fun V hV => ⟨keptQ hV c1, keptQ hV c3, keptQ hV c4⟩)
  simp only [PCl.v] at HW1 hkd c0 c1 c2 c3 c4 c5 c6 c7 c8 c9 ⊢
  subst hkd
  have h1 := h.grown b1
  have hN : N ≤ 100000 := by have := h.num; have := h.len; omega
  have HP := hide h
  have HB1 := hide b1
  have hs : s.length ≤ maxLen := hc.s
  have hsz : s.length ≤ 9223372036854775807 := by unfold maxLen at hs; omega
  have HP1 : Hid (∀ V, Below w1.heap.size w1 V → PSt w V x N rb F E Bs Bs) := hide (fun V hV => h1.grown hV)
  obtain ⟨fr, rfl⟩ : ∃ fr : Nat, n = (fr : Int) := ⟨n.toNat, by simp only at hn0; omega⟩
  obtain ⟨mo, rfl⟩ : ∃ mo : Nat, m = (mo : Int) := ⟨m.toNat, by simp only at hm0; omega⟩
  have hfr : fr ≤ 9223372036854775807 := by have := hc.n.2; simp only at this; omega
  have hmo : mo ≤ 9223372036854775807 := by have := hc.m.2; simp only at this; omega
  have CX := hide (All_out h1.ix hN fr mo hfr hmo)
  obtain ⟨L0, hL0⟩ : ∃ L0, L0 = numL (entD Bs) := ⟨_, rfl⟩
  rw [show numL (ixD Bs).all = L0 from hL0.symm] at CX
  have CO : Hid (∀ V, Below w1.heap.size w1 V → Calls Try.prog 9 #[.pointer (some ⟨rb, 0, none⟩)] V fun e w' => ∃ a n c, e = .returned (.slice a n c) ∧ EnL w' (.slice a n c) L0 ∧ Below V.heap.size V w') := hide (fun V hV => (rEntries_go rb Bs V (h1.grown hV).rd h.ok).mono (by
    rintro e w' ⟨v, rfl, o, b⟩
    obtain ⟨a, c, rfl⟩ := o.sl
    exact ⟨a, _, c, rfl, by rw [hL0]; exact o.enl b, b⟩))
  have CC : Hid (∀ (V : World) (a : Option Addr) (n c : Nat), EnL V (.slice a n c) L0 → Calls Try.prog 22 #[.slice a n c, .int .i64 (fr : Int), .int .i64 (mo : Int)] V fun e w' => V = w' ∧ ∃ a' n' c', e = .returned (.tuple #[.slice a' n' c', .int .i64 0]) ∧ EnL V (.slice a' n' c') ((L0.drop fr).take mo)) := hide (fun V a n c hv => rCut_go a n c L0 V hv fr mo hfr hmo)
  clear hn0 hm0 hL0
  clear h hc b1 x1 hw1 h1
  go_enter Try.func6, Try.ntmps6
  go_upto_region 1 with fail
  rw [show W.alloc (.cells #[Value.int .i64 5, Value.string ⟨s.toArray⟩, .string ⟨k.toArray⟩, .int .i64 ((fr : Nat) : Int), .int .i64 ((mo : Nat) : Int), .slice ea en ec, .string ⟨bs.toArray⟩, .string ⟨bk.toArray⟩, .int .i64 bf, .slice ba bn bc] 35) = w1 from (unhide HW1).symm]
  rw [← hcb]
  clear hcb
  go_wp2_with fail
  with_reducible refine (unhide CX).mono ?_
  rintro e w2 ⟨q, zn, rs, rfl, en2, hzl, hz9, hsp, b2⟩
  have HB2 := hide b2
  have H2d : Hid (Below w1.heap.size w1 w2.drew) := hide b2.drew
  have S0 := hide (unhide HSV _ (unhide H2d))
  have HE2 := hide en2
  have HSp := hide hsp
  have HZl := hide hzl
  clear en2 hsp hzl
  clear b2 CX c0 c1 c2 c3 c4 c5 c6 c7 c8 c9
  go_upto_region 18 with fail
  go_region_held3 (fun V => V.cell? ⟨cb, 1, none⟩ = some (sv s) ∧ V.cell? ⟨cb, 3, none⟩ = some (.int .i64 ((fr : Nat) : Int)) ∧ V.cell? ⟨cb, 4, none⟩ = some (.int .i64 ((mo : Nat) : Int)))
    (first | with_reducible exact unhide S0 | (refine unhide HSV _ ?_; first | with_reducible exact unhide HB3))
    ((first
      | (go_at_call 9; (with_reducible refine (unhide CO _ (unhide H2d)).mono ?_); rintro e w3 ⟨va, vn, vc, rfl, en3, b3⟩; have HE3 := hide en3; have HB3 : Hid (Below w1.heap.size w1 w3) := hide ((unhide H2d).trans (b3.mono (unhide H2d).size)); have HB23 : Hid (Below w2.heap.size w2 w3) := hide ((Below.refl _ w2).drew.trans b3); clear en3 b3)
      | (go_at_call 22; (with_reducible refine (unhide CC _ _ _ _ (unhide HE3)).mono ?_); rintro e w4 ⟨rfl, ua, un, uc, rfl, en4⟩; have HE4 := hide en4; clear en4)))
  all_goals
    have CE := hide (entries_go (fun g => w1.heap.size ≤ g) (some ⟨q, 0, none⟩) zn zn q ua un uc 0 _ rs w3 ((unhide HE2).below (unhide HB23)) (unhide HE4) (unhide HZl) (Nat.le_refl _) (by omega) (fun _ => ⟨rfl, (unhide HSp).below (unhide HB23)⟩))
    clear S0
    go_wp2_with fail
    with_reducible refine (unhide CE).mono ?_
    rintro e w5 ⟨rfl, k5⟩
    have HK5 := hide k5
    clear k5 CE
    go_wp2
    go_ret
    exact DoPost.same ((unhide HP).spoilt ((unhide HB1).trans ((unhide HB3).mono (unhide HB1).size)) (unhide HK5) (fun q hq => Nat.le_trans (unhide HB1).size hq))

set_option maxRecDepth 20000 in
set_option maxHeartbeats 8000000 in
theorem do_all_neg {w W : World} {x N rb : Nat} {F E : Nat → Prop} {Bs : List Bat} (h : PSt w W x N rb F E Bs Bs) (hl : Bs.length < 1000) (cc : PCl) (hc : PClOk w cc) (hkd : cc.kd = 5) (hneg : cc.n < 0 ∨ cc.m < 0) :
    Calls Try.prog 6 #[.pointer (some ⟨x, 0, none⟩), .pointer (some ⟨rb, 0, none⟩), .agg cc.v] W (DoPost w x rb Bs) := by
  obtain ⟨w1, hw1⟩ : ∃ w1, w1 = W.alloc (.cells cc.v 35) := ⟨_, rfl⟩
  have b1 : Below W.heap.size W w1 := by rw [hw1]; exact (Below.refl _ _).alloc (Nat.le_refl _) _
  obtain ⟨cb, hcb⟩ : ∃ cb, cb = W.heap.size := ⟨_, rfl⟩
  have x1 : w1.heap[cb]? = some (.cells cc.v 35 (0, 0)) := by rw [hw1, hcb]; exact heap_alloc_self _ _
  have HW1 := hide hw1
  have HC := hide hc
  obtain ⟨kd, s, k, n, m, ea, en, ec, es, bs, bk, bf, ba, bn, bc, be⟩ := cc
  obtain ⟨c0, c1, c2, c3, c4, c5, c6, c7, c8, c9⟩ := cbox_cells x1
  have HSV : Hid (∀ V, Below w1.heap.size w1 V → V.cell? ⟨cb, 1, none⟩ = some (sv s) ∧ V.cell? ⟨cb, 3, none⟩ = some (.int .i64 n) ∧ V.cell? ⟨cb, 4, none⟩ = some (.int .i64 m)) := hide (fun V hV => ⟨keptQ hV c1, keptQ hV c3, keptQ hV c4⟩)
  simp only [PCl.v] at HW1 hkd c0 c1 c2 c3 c4 c5 c6 c7 c8 c9 ⊢
  subst hkd
  have h1 := h.grown b1
  have hN : N ≤ 100000 := by have := h.num; have := h.len; omega
  have HP := hide h
  have HB1 := hide b1
  have hs : s.length ≤ maxLen := hc.s
  have hsz : s.length ≤ 9223372036854775807 := by unfold maxLen at hs; omega
  have HP1 : Hid (∀ V, Below w1.heap.size w1 V → PSt w V x N rb F E Bs Bs) := hide (fun V hV => h1.grown hV)
  have CX := hide (All_neg h1.ix n m hneg)
  have CO : Hid (∀ V, Below w1.heap.size w1 V → Calls Try.prog 9 #[.pointer (some ⟨rb, 0, none⟩)] V fun e w' => ∃ a n c, e = .returned (.slice a n c) ∧ Below V.heap.size V w') := hide (fun V hV => (rEntries_go rb Bs V (h1.grown hV).rd h.ok).mono (by
    rintro e w' ⟨v, rfl, o, b⟩
    obtain ⟨a, c, rfl⟩ := o.sl
    exact ⟨a, _, c, rfl, b⟩))
  have CC : Hid (∀ (V : World) (a : Option Addr) (n' c : Nat), Calls Try.prog 22 #[.slice a n' c, .int .i64 n, .int .i64 m] V fun e w' => e = .returned (.tuple #[.slice none 0 0, .int .i64 1]) ∧ V = w') := hide (fun V a n' c => rCut_neg _ n m hneg V)
  clear hneg
  clear h hc b1 x1 hw1 h1
  go_enter Try.func6, Try.ntmps6
  go_upto_region 1 with fail
  rw [show W.alloc (.cells #[Value.int .i64 5, Value.string ⟨s.toArray⟩, .string ⟨k.toArray⟩, .int .i64 n, .int .i64 m, .slice ea en ec, .string ⟨bs.toArray⟩, .string ⟨bk.toArray⟩, .int .i64 bf, .slice ba bn bc] 35) = w1 from (unhide HW1).symm]
  rw [← hcb]
  clear hcb
  go_wp2_with fail
  with_reducible refine (unhide CX).mono ?_
  rintro e w2 ⟨rfl, b2⟩
  have HB2 := hide b2
  have H2d : Hid (Below w1.heap.size w1 w2.drew) := hide b2.drew
  have S0 := hide (unhide HSV _ (unhide H2d))
  clear b2 CX c0 c1 c2 c3 c4 c5 c6 c7 c8 c9
  go_upto_region 18 with fail
  go_region_held3 (fun V => V.cell? ⟨cb, 1, none⟩ = some (sv s) ∧ V.cell? ⟨cb, 3, none⟩ = some (.int .i64 n) ∧ V.cell? ⟨cb, 4, none⟩ = some (.int .i64 m))
    (first | with_reducible exact unhide S0 | (refine unhide HSV _ ?_; first | with_reducible exact unhide HB3))
    ((first
      | (go_at_call 9; (with_reducible refine (unhide CO _ (unhide H2d)).mono ?_); rintro e w3 ⟨va, vn, vc, rfl, b3⟩; have HB3 : Hid (Below w1.heap.size w1 w3) := hide ((unhide H2d).trans (b3.mono (unhide H2d).size)); have HB23 : Hid (Below w2.heap.size w2 w3) := hide ((Below.refl _ w2).drew.trans b3); clear b3)
      | (go_at_call 22; (with_reducible refine (unhide CC _ _ _ _).mono ?_); rintro e w4 ⟨rfl, rfl⟩)))
  all_goals
    have CE := hide (entries_go (fun _ => False) none 0 0 0 none 0 0 1 [] [] w3 ⟨none, 0, rfl, by simp, by omega, fun h => absurd rfl h⟩ ⟨none, 0, rfl, by simp, by omega, fun h => absurd rfl h⟩ rfl (Nat.le_refl _) (by omega) (fun q => absurd rfl q))
    clear S0
    go_wp2_with fail
    with_reducible refine (unhide CE).mono ?_
    rintro e w5 ⟨rfl, k5⟩
    have HK5 := hide k5
    clear k5 CE
    go_wp2
    go_ret
    exact DoPost.same ((unhide HP).spoilt ((unhide HB1).trans ((unhide HB3).mono (unhide HB1).size)) (unhide HK5) (fun q hq => hq.elim))

/-- The law's do, whatever the call. -/
theorem do_go {w W : World} {x N rb : Nat} {F E : Nat → Prop} {Bs : List Bat} (h : PSt w W x N rb F E Bs Bs) (hl : Bs.length < 1000) (cc : PCl) (hc : PClOk w cc) :
    Calls Try.prog 6 #[.pointer (some ⟨x, 0, none⟩), .pointer (some ⟨rb, 0, none⟩), .agg cc.v] W (DoPost w x rb Bs) := by
  by_cases k1 : cc.kd = 1
  · exact do_tried h hl cc hc (.inl k1)
  by_cases k2 : cc.kd = 2
  · exact do_tried h hl cc hc (.inr k2)
  by_cases k3 : cc.kd = 3
  · exact do_add h hl cc hc k3
  by_cases k4 : cc.kd = 4
  · by_cases hn : cc.n < 0 ∨ cc.m < 0
    · exact do_stream_neg h hl cc hc k4 hn
    · exact do_stream h hl cc hc k4 (by omega) (by omega)
  by_cases k5 : cc.kd = 5
  · by_cases hn : cc.n < 0 ∨ cc.m < 0
    · exact do_all_neg h hl cc hc k5 hn
    · exact do_all h hl cc hc k5 (by omega) (by omega)
  by_cases k6 : cc.kd = 6
  · exact do_asked h hl cc hc k6
  · exact do_else h hl cc hc ⟨k1, k2, k3, k4, k5, k6⟩
end Go.Proofs.Ytabcmmhmghgliaa
