/-
  DERIVED. The walk of the document's Try, where it adds nothing.
-/
import Derived.Test.YtabcmmhmghgliaaSp5
import Derived.Test.YtabcmmhmghgliaaXtr
namespace Go.Proofs.Ytabcmmhmghgliaa
open Go.RowKit
set_option linter.unusedVariables false

theorem TrSt.on {w W W' : World} (h : TrSt w W 0 0 0 false) (hb : Below W.heap.size W W') : TrSt w W' 0 0 0 false :=
  ⟨h.a0.same (hb.block _ (by have := h.siz; omega)), h.b0.same (hb.block _ (by have := h.siz; omega)), h.bel.trans (hb.mono h.bel.size), by have := h.siz; have := hb.size; omega⟩
theorem TrSt.set {w W : World} (h : TrSt w W 0 0 0 false) {q : Nat} (hq : w.heap.size + 2 ≤ q) (i : Nat) (v : Value) : TrSt w (W.setCell ⟨q, i, none⟩ v) 0 0 0 false :=
  ⟨h.a0.same (heap_setCell_other _ ⟨q, i, none⟩ _ _ (show w.heap.size ≠ q by omega)), h.b0.same (heap_setCell_other _ ⟨q, i, none⟩ _ _ (show w.heap.size + 1 ≠ q by omega)), h.bel.setCell (p := ⟨q, i, none⟩) (show w.heap.size ≤ q by omega) _, by rw [World.size_setCell]; exact h.siz⟩
theorem ABox.set3 {w : World} {q : Nat} {f p c : Int} {b : Bool} (h : ABox w q f p c b) (b' : Bool) : ABox (w.setCell ⟨q, 3, none⟩ (.bool b')) q f p c b' := by unfold ABox; rw [heap_setCell_same w q 3 _ _ _ h]; rfl
/-- The document's index as the program's. -/
def ixD (Bs : List Bat) : Ix := ⟨entD Bs, fun j => keyD j 0 Bs⟩
theorem Alike.eq {I : Ix} {Bs : List Bat} (h : Alike I Bs) : I = ixD Bs := by
  cases I
  have h1 := h.all
  have h2 : _ = fun j => keyD j 0 Bs := funext h.key
  simp only at h1 h2
  unfold ixD
  rw [h1, h2]
theorem try1 {I : Ix} {s : List UInt8} {x : Int} {k : List UInt8} {es : List Evn} (h : ¬ okNames s k) : tryA I s x k es = (apV 0 0 0 false, 100) := by unfold tryA; rw [if_pos h]
theorem try2 {I : Ix} {s : List UInt8} {x : Int} {k : List UInt8} {es : List Evn} {d : Kd} (h : okNames s k) (hd : I.key k = some d) (hs : d.s ≠ s) : tryA I s x k es = (apV 0 0 0 false, 101) := by unfold tryA; rw [if_neg (fun q => q h), hd]; simp only; rw [if_pos hs]
theorem try3 {I : Ix} {s : List UInt8} {x : Int} {k : List UInt8} {es : List Evn} {d : Kd} (h : okNames s k) (hd : I.key k = some d) (hs : d.s = s) : tryA I s x k es = (apV d.first d.pos d.cnt true, 0) := by unfold tryA; rw [if_neg (fun q => q h), hd]; simp only; rw [if_neg (fun q => q hs)]
theorem try4 {I : Ix} {s : List UInt8} {x : Int} {k : List UInt8} {es : List Evn} (h : okNames s k) (hd : I.key k = none) (he : ¬ okEvs es) : tryA I s x k es = (apV 0 0 0 false, 102) := by unfold tryA; rw [if_neg (fun q => q h), hd]; simp only; rw [if_pos he]
theorem try5 {I : Ix} {s : List UInt8} {x : Int} {k : List UInt8} {es : List Evn} (h : okNames s k) (hd : I.key k = none) (he : okEvs es) (hx : x < -1) : tryA I s x k es = (apV 0 0 0 false, 1) := by unfold tryA; rw [if_neg (fun q => q h), hd]; simp only; rw [if_neg (fun q => q he), if_pos hx]
theorem try6 {I : Ix} {s : List UInt8} {x : Int} {k : List UInt8} {es : List Evn} (h : okNames s k) (hd : I.key k = none) (he : okEvs es) (hx : ¬ x < -1) (hv : x ≠ -1 ∧ x ≠ (I.ver s : Int)) : tryA I s x k es = (apV 0 0 0 false, 103) := by unfold tryA; rw [if_neg (fun q => q h), hd]; simp only; rw [if_neg (fun q => q he), if_neg hx, if_pos hv]

set_option maxRecDepth 20000 in
set_option maxHeartbeats 8000000 in
theorem rTry_bad (rb : Nat) (Bs : List Bat) (s : List UInt8) (ex : Int) (k : List UInt8) (ea : Option Addr) (en ec : Nat) (es : List Evn) (w : World) (h : RRd w rb Bs) (hok : BsOk Bs) (hs : s.length ≤ 9223372036854775807) (hk : k.length ≤ 9223372036854775807) (hv : EvL w (.slice ea en ec) es) (hfit : ∀ e ∈ es, fitE e) (hbad : ¬ tryOk (ixD Bs) s ex k es) :
    Calls Try.prog 38 #[.pointer (some ⟨rb, 0, none⟩), sv s, .int .i64 ex, sv k, .slice ea en ec] w fun e w' => e = .returned (.tuple #[.agg (tryA (ixD Bs) s ex k es).1, .agg (bt [] [] 0 none 0 0), .int .i64 (tryA (ixD Bs) s ex k es).2]) ∧ Below w.heap.size w w' := by
  obtain ⟨wa, hwa⟩ : ∃ wa, wa = (w.alloc (.cells (apV 0 0 0 false) 44)).alloc (.cells (bt [] [] 0 none 0 0) 33) := ⟨_, rfl⟩
  have za : wa.heap.size = w.heap.size + 2 := by rw [hwa]; simp
  have ba : Below w.heap.size w wa := by rw [hwa]; exact ((Below.refl _ _).alloc (Nat.le_refl _) _).alloc (by simp) _
  have a1 : ABox wa w.heap.size 0 0 0 false := by unfold ABox; rw [hwa, Below.heap_alloc _ _ _ (by simp)]; exact heap_alloc_self _ _
  have b1 : BBox wa (w.heap.size + 1) [] [] 0 (.slice none 0 0) := by unfold BBox; rw [hwa, show w.heap.size + 1 = (w.alloc (.cells (apV 0 0 0 false) 44)).heap.size by simp]; exact heap_alloc_self _ _
  have HS := hide (⟨a1, b1, ba, by omega⟩ : TrSt w wa 0 0 0 false)
  have HRd := hide (h.grown ba)
  have HEv := hide (hv.below ba (Nat.le_refl _))
  have HOk := hide hok
  have HFit := hide hfit
  have CN := hide (snamed_any s k wa hs hk)
  have CK := hide (rKeyed_go rb Bs k wa (h.grown ba) hok hk)
  have HWa := hide hwa
  obtain ⟨T, hT⟩ : ∃ T, T = tryA (ixD Bs) s ex k es := ⟨_, rfl⟩
  have HT := hide hT
  have HBad := hide hbad
  rw [← hT]
  clear hT hbad h hok hv hfit a1 b1 ba za hwa
  go_enter Try.func38, Try.ntmps38
  go_upto_region 1 with fail
  rw [show (w.alloc (.cells #[Value.int .i64 0, .int .i64 0, .int .i64 0, .bool false] 44)).alloc (.cells #[Value.string ⟨#[]⟩, .string ⟨#[]⟩, .int .i64 0, .slice none 0 0] 33) = wa from (unhide HWa).symm]
  by_cases hnm : okNames s k
  case neg =>
    have HX : Hid (T = (apV 0 0 0 false, 100)) := hide (by rw [unhide HT, try1 hnm])
    have ha := ans_false (p := okNames s k) hnm
    rw [ha] at CN
    clear ha hnm HT HBad CK
    have st := unhide HS
    obtain ⟨B0, hB0⟩ : ∃ B0, B0 = w.heap.size := ⟨_, rfl⟩
    have a3 : ABox wa B0 0 0 0 false := by rw [hB0]; exact st.a0
    have b3 : BBox wa (B0 + 1) [] [] 0 (.slice none 0 0) := by rw [hB0]; exact st.b0
    have bl3 := st.bel
    have a4 := a3.put 0 0 0 false
    have b4 := b3.other (q := B0) (by omega) 0 0 0 false
    have a5 := a4.other (q := B0 + 1) (by omega) [] [] 0 (.slice none 0 0)
    have b5 := b4.put [] [] 0 (.slice none 0 0)
    have bl5 := below_putB (below_put bl3 (q := B0) (by omega) 0 0 0 false) (q := B0 + 1) (by omega) [] [] 0 (.slice none 0 0)
    obtain ⟨r0, r1, r2, r3, r4⟩ := a3.cells
    obtain ⟨t0, t1, t2, t3, t4⟩ := b4.cells
    have A5 := hide a5
    have B5 := hide b5
    have L5 := hide bl5
    clear a3 b3 bl3 a4 b4 a5 b5 bl5 st
    rw [← hB0]
    clear hB0
    go_wp2_with (go_at_call 41; refine (unhide CN).mono ?_; rintro e w5 ⟨rfl, rfl⟩)
    rw [unhide HX]
    exact bodyPost_ret (results_cct rfl _ _ B0 44 (apV 0 0 0 false) (0, 0) _ (B0 + 1) 33 (bt [] [] 0 none 0 0) (0, 0) _ (.int .i64 100) rfl rfl rfl (unhide A5) (unhide B5) Try.underlying44 rfl sizeApp Try.underlying33 rfl sizeBatch) rfl ⟨rfl, unhide L5⟩
  have ha := ans_true (p := okNames s k) hnm
  rw [ha] at CN
  have HNm := hide hnm
  clear ha hnm
  go_upto_region 4 with (go_at_call 41; refine (unhide CN).mono ?_; rintro e w5 ⟨rfl, rfl⟩)
  cases hD : keyD k 0 Bs with
  | some d =>
    have HK := hide (show (ixD Bs).key k = some d from hD)
    rw [hD] at CK
    simp only [kdS, kdF, Option.isSome_some] at CK
    go_upto_region 5 with (go_at_call 32; refine (unhide CK).mono ?_; rintro e w2 ⟨rfl, b2⟩; have HS2 := hide ((unhide HS).on b2); clear b2)
    have b3 : Below w2.heap.size w2 (w2.alloc (.cells (apV d.first d.pos d.cnt false) 44)) := (Below.refl _ _).alloc (Nat.le_refl _) _
    have x3 : ABox (w2.alloc (.cells (apV d.first d.pos d.cnt false) 44)) w2.heap.size d.first d.pos d.cnt false := heap_alloc_self _ _
    obtain ⟨w3, hw3⟩ : ∃ w3, w3 = w2.alloc (.cells (apV d.first d.pos d.cnt false) 44) := ⟨_, rfl⟩
    rw [show w2.alloc (.cells #[Value.int .i64 d.first, .int .i64 d.pos, .int .i64 d.cnt, .bool false] 44) = w3 from hw3.symm]
    rw [← hw3] at b3 x3
    have HS3 := hide ((unhide HS2).on b3)
    obtain ⟨q3, hq3⟩ : ∃ q3, q3 = w2.heap.size := ⟨_, rfl⟩
    have hq30 : w.heap.size + 2 ≤ q3 := by rw [hq3]; exact (unhide HS2).siz
    rw [← hq3] at x3 ⊢
    clear hw3 b3 hq3 CK HBad hD
    by_cases hds : d.s = s
    · have HX : Hid (T = (apV d.first d.pos d.cnt true, 0)) := hide (by rw [unhide HT, try3 (unhide HNm) (unhide HK) hds])
      subst hds
      obtain ⟨y0, y1, y2, y3, yf⟩ := x3.cells
      have x4 := x3.set3 true
      have s4 := (unhide HS3).set (q := q3) (by omega) 3 (.bool true)
      obtain ⟨w4, hw4⟩ : ∃ w4, w4 = w3.setCell ⟨q3, 3, none⟩ (.bool true) := ⟨_, rfl⟩
      rw [← hw4] at x4 s4
      have HX4 := hide x4
      have HS4 := hide s4
      clear x4 s4 x3
      go_upto_region 9 with fail
      rw [show w3.setCell ⟨q3, 3, none⟩ (.bool true) = w4 from hw4.symm]
      clear hw4 y0 y1 y2 y3 yf
      obtain ⟨y0, y1, y2, y3, yf⟩ := (unhide HX4).cells
      have st := unhide HS4
      obtain ⟨B0, hB0⟩ : ∃ B0, B0 = w.heap.size := ⟨_, rfl⟩
      have a3 : ABox w4 B0 0 0 0 false := by rw [hB0]; exact st.a0
      have b3 : BBox w4 (B0 + 1) [] [] 0 (.slice none 0 0) := by rw [hB0]; exact st.b0
      have bl3 := st.bel
      have a4 := a3.put (d.first : Int) (d.pos : Int) (d.cnt : Int) true
      have b4 := b3.other (q := B0) (by omega) (d.first : Int) (d.pos : Int) (d.cnt : Int) true
      have a5 := a4.other (q := B0 + 1) (by omega) [] [] 0 (.slice none 0 0)
      have b5 := b4.put [] [] 0 (.slice none 0 0)
      have bl5 := below_putB (below_put bl3 (q := B0) (by omega) (d.first : Int) (d.pos : Int) (d.cnt : Int) true) (q := B0 + 1) (by omega) [] [] 0 (.slice none 0 0)
      obtain ⟨r0, r1, r2, r3, r4⟩ := a3.cells
      obtain ⟨t0, t1, t2, t3, t4⟩ := b4.cells
      have A5 := hide a5
      have B5 := hide b5
      have L5 := hide bl5
      clear a3 b3 bl3 a4 b4 a5 b5 bl5 st
      rw [← hB0]
      clear hB0
      go_wp2_with fail
      rw [unhide HX]
      exact bodyPost_ret (results_cct rfl _ _ B0 44 (apV (d.first : Int) (d.pos : Int) (d.cnt : Int) true) (0, 0) _ (B0 + 1) 33 (bt [] [] 0 none 0 0) (0, 0) _ (.int .i64 0) rfl rfl rfl (unhide A5) (unhide B5) Try.underlying44 rfl sizeApp Try.underlying33 rfl sizeBatch) rfl ⟨rfl, unhide L5⟩
    · have HX : Hid (T = (apV 0 0 0 false, 101)) := hide (by rw [unhide HT, try2 (unhide HNm) (unhide HK) hds])
      have hbs : (d.s != s) = true := by simpa [bne] using hds
      have hbs2 : (d.s == s) = false := by simpa using hds
      have hbs3 : (d.s.toArray.toList == s.toArray.toList) = false := by simpa using hds
      clear hds
      have st := unhide HS3
      obtain ⟨B0, hB0⟩ : ∃ B0, B0 = w.heap.size := ⟨_, rfl⟩
      have a3 : ABox w3 B0 0 0 0 false := by rw [hB0]; exact st.a0
      have b3 : BBox w3 (B0 + 1) [] [] 0 (.slice none 0 0) := by rw [hB0]; exact st.b0
      have bl3 := st.bel
      have a4 := a3.put 0 0 0 false
      have b4 := b3.other (q := B0) (by omega) 0 0 0 false
      have a5 := a4.other (q := B0 + 1) (by omega) [] [] 0 (.slice none 0 0)
      have b5 := b4.put [] [] 0 (.slice none 0 0)
      have bl5 := below_putB (below_put bl3 (q := B0) (by omega) 0 0 0 false) (q := B0 + 1) (by omega) [] [] 0 (.slice none 0 0)
      obtain ⟨r0, r1, r2, r3, r4⟩ := a3.cells
      obtain ⟨t0, t1, t2, t3, t4⟩ := b4.cells
      have A5 := hide a5
      have B5 := hide b5
      have L5 := hide bl5
      clear a3 b3 bl3 a4 b4 a5 b5 bl5 st
      rw [← hB0]
      clear hB0
      go_wp2_with fail
      rw [unhide HX]
      exact bodyPost_ret (results_cct rfl _ _ B0 44 (apV 0 0 0 false) (0, 0) _ (B0 + 1) 33 (bt [] [] 0 none 0 0) (0, 0) _ (.int .i64 101) rfl rfl rfl (unhide A5) (unhide B5) Try.underlying44 rfl sizeApp Try.underlying33 rfl sizeBatch) rfl ⟨rfl, unhide L5⟩
  | none =>
    have HK := hide (show (ixD Bs).key k = none from hD)
    rw [hD] at CK
    simp only [kdS, kdF, Option.isSome_none] at CK
    go_upto_region 5 with (go_at_call 32; refine (unhide CK).mono ?_; rintro e w2 ⟨rfl, b2⟩; have HS2 := hide ((unhide HS).on b2); have HB2 := hide b2; clear b2)
    have b3 : Below w2.heap.size w2 (w2.alloc (.cells (apV 0 0 0 false) 44)) := (Below.refl _ _).alloc (Nat.le_refl _) _
    obtain ⟨w3, hw3⟩ : ∃ w3, w3 = w2.alloc (.cells (apV 0 0 0 false) 44) := ⟨_, rfl⟩
    rw [show w2.alloc (.cells #[Value.int .i64 0, .int .i64 0, .int .i64 0, .bool false] 44) = w3 from hw3.symm]
    rw [← hw3] at b3
    have HS3 := hide ((unhide HS2).on b3)
    have HB3 := hide ((unhide HB2).trans (b3.mono (unhide HB2).size))
    have CR := hide (rright_go ea en ec es w3 ((unhide HEv).below (unhide HB3) (Nat.le_refl _)) (unhide HFit))
    clear hw3 b3 CK hD HB2 HS2
    by_cases hev : okEvs es
    case neg =>
      have HX : Hid (T = (apV 0 0 0 false, 102)) := hide (by rw [unhide HT, try4 (unhide HNm) (unhide HK) hev])
      rw [ans_false hev] at CR
      go_upto_region 11 with (go_at_call 42; refine (unhide CR).mono ?_; rintro e w4 ⟨rfl, b4⟩; have HS4 := hide ((unhide HS3).on b4); clear b4)
      have st := unhide HS4
      obtain ⟨B0, hB0⟩ : ∃ B0, B0 = w.heap.size := ⟨_, rfl⟩
      have a3 : ABox w4 B0 0 0 0 false := by rw [hB0]; exact st.a0
      have b3 : BBox w4 (B0 + 1) [] [] 0 (.slice none 0 0) := by rw [hB0]; exact st.b0
      have bl3 := st.bel
      have a4 := a3.put 0 0 0 false
      have b4 := b3.other (q := B0) (by omega) 0 0 0 false
      have a5 := a4.other (q := B0 + 1) (by omega) [] [] 0 (.slice none 0 0)
      have b5 := b4.put [] [] 0 (.slice none 0 0)
      have bl5 := below_putB (below_put bl3 (q := B0) (by omega) 0 0 0 false) (q := B0 + 1) (by omega) [] [] 0 (.slice none 0 0)
      obtain ⟨r0, r1, r2, r3, r4⟩ := a3.cells
      obtain ⟨t0, t1, t2, t3, t4⟩ := b4.cells
      have A5 := hide a5
      have B5 := hide b5
      have L5 := hide bl5
      clear a3 b3 bl3 a4 b4 a5 b5 bl5 st
      rw [← hB0]
      clear hB0
      go_wp2_with fail
      rw [unhide HX]
      exact bodyPost_ret (results_cct rfl _ _ B0 44 (apV 0 0 0 false) (0, 0) _ (B0 + 1) 33 (bt [] [] 0 none 0 0) (0, 0) _ (.int .i64 102) rfl rfl rfl (unhide A5) (unhide B5) Try.underlying44 rfl sizeApp Try.underlying33 rfl sizeBatch) rfl ⟨rfl, unhide L5⟩
    have HEs := hide hev
    rw [ans_true hev] at CR
    clear hev
    go_upto_region 11 with (go_at_call 42; refine (unhide CR).mono ?_; rintro e w4 ⟨rfl, b4⟩; have HS4 := hide ((unhide HS3).on b4); have HB4 := hide ((unhide HB3).trans (b4.mono (unhide HB3).size)); clear b4)
    clear CR
    by_cases hx1 : ex < -1
    · have HX : Hid (T = (apV 0 0 0 false, 1)) := hide (by rw [unhide HT, try5 (unhide HNm) (unhide HK) (unhide HEs) hx1])
      have q1 : decide (ex < -1) = true := decide_eq_true hx1
      have st := unhide HS4
      obtain ⟨B0, hB0⟩ : ∃ B0, B0 = w.heap.size := ⟨_, rfl⟩
      have a3 : ABox w4 B0 0 0 0 false := by rw [hB0]; exact st.a0
      have b3 : BBox w4 (B0 + 1) [] [] 0 (.slice none 0 0) := by rw [hB0]; exact st.b0
      have bl3 := st.bel
      have a4 := a3.put 0 0 0 false
      have b4 := b3.other (q := B0) (by omega) 0 0 0 false
      have a5 := a4.other (q := B0 + 1) (by omega) [] [] 0 (.slice none 0 0)
      have b5 := b4.put [] [] 0 (.slice none 0 0)
      have bl5 := below_putB (below_put bl3 (q := B0) (by omega) 0 0 0 false) (q := B0 + 1) (by omega) [] [] 0 (.slice none 0 0)
      obtain ⟨r0, r1, r2, r3, r4⟩ := a3.cells
      obtain ⟨t0, t1, t2, t3, t4⟩ := b4.cells
      have A5 := hide a5
      have B5 := hide b5
      have L5 := hide bl5
      clear a3 b3 bl3 a4 b4 a5 b5 bl5 st
      rw [← hB0]
      clear hB0
      go_wp2_with fail
      rw [unhide HX]
      exact bodyPost_ret (results_cct rfl _ _ B0 44 (apV 0 0 0 false) (0, 0) _ (B0 + 1) 33 (bt [] [] 0 none 0 0) (0, 0) _ (.int .i64 1) rfl rfl rfl (unhide A5) (unhide B5) Try.underlying44 rfl sizeApp Try.underlying33 rfl sizeBatch) rfl ⟨rfl, unhide L5⟩
    have q1 : decide (ex < -1) = false := decide_eq_false hx1
    have CO := hide (rOf_go rb Bs s w4 ((unhide HRd).grown (unhide HB4)) (unhide HOk) hs)
    have hmis : ex ≠ -1 ∧ ex ≠ ((ixD Bs).ver s : Int) := by
      refine Classical.byContradiction fun q => unhide HBad ⟨unhide HNm, unhide HK, unhide HEs, hx1, ?_⟩
      rcases Classical.em (ex = -1) with h | h
      · exact .inl h
      · exact .inr (Classical.byContradiction fun h2 => q ⟨h, h2⟩)
    have HX : Hid (T = (apV 0 0 0 false, 103)) := hide (by rw [unhide HT, try6 (unhide HNm) (unhide HK) (unhide HEs) hx1 hmis])
    have hx0 : 0 ≤ ex := by have := hmis.1; omega
    have q2 : decide (0 ≤ ex) = true := decide_eq_true hx0
    have HV : Hid (((ixD Bs).ver s : Nat) = (ofD s (numL (entD Bs))).length) := hide (by rw [ofD_len]; unfold Ix.ver; rw [plc_verL]; rfl)
    obtain ⟨V, hV⟩ : ∃ V, V = (ixD Bs).ver s := ⟨_, rfl⟩
    rw [← hV] at hmis HV
    have hne : (ex != (V : Int)) = true := by simpa [bne] using hmis.2
    clear hmis hV HBad
    go_upto_region 16 with (go_at_call 23; refine (unhide CO).mono ?_; rintro e w5 ⟨v5, rfl, u5, o5, b5, b45⟩; obtain ⟨oa, oc, he5⟩ := o5.sl; rw [← unhide HV] at he5; subst he5; have HS5 := hide ((unhide HS4).on b45); clear o5 b5 b45)
    have st := unhide HS5
    obtain ⟨B0, hB0⟩ : ∃ B0, B0 = w.heap.size := ⟨_, rfl⟩
    have a3 : ABox w5 B0 0 0 0 false := by rw [hB0]; exact st.a0
    have b3 : BBox w5 (B0 + 1) [] [] 0 (.slice none 0 0) := by rw [hB0]; exact st.b0
    have bl3 := st.bel
    have a4 := a3.put 0 0 0 false
    have b4 := b3.other (q := B0) (by omega) 0 0 0 false
    have a5 := a4.other (q := B0 + 1) (by omega) [] [] 0 (.slice none 0 0)
    have b5 := b4.put [] [] 0 (.slice none 0 0)
    have bl5 := below_putB (below_put bl3 (q := B0) (by omega) 0 0 0 false) (q := B0 + 1) (by omega) [] [] 0 (.slice none 0 0)
    obtain ⟨r0, r1, r2, r3, r4⟩ := a3.cells
    obtain ⟨t0, t1, t2, t3, t4⟩ := b4.cells
    have A5 := hide a5
    have B5 := hide b5
    have L5 := hide bl5
    clear a3 b3 bl3 a4 b4 a5 b5 bl5 st
    rw [← hB0]
    clear hB0
    go_wp2_with fail
    rw [unhide HX]
    exact bodyPost_ret (results_cct rfl _ _ B0 44 (apV 0 0 0 false) (0, 0) _ (B0 + 1) 33 (bt [] [] 0 none 0 0) (0, 0) _ (.int .i64 103) rfl rfl rfl (unhide A5) (unhide B5) Try.underlying44 rfl sizeApp Try.underlying33 rfl sizeBatch) rfl ⟨rfl, unhide L5⟩
end Go.Proofs.Ytabcmmhmghgliaa

namespace Go.Proofs.Ytabcmmhmghgliaa
open Go.RowKit
set_option linter.unusedVariables false

/-- An event's cells, and where its fields lie. -/
structure EvR where
  e : Evn
  a : Option Addr
  n : Nat
  c : Nat
def ev3 (l : List EvR) : List Value := l.flatMap fun r => [sv r.e.type, .int .i64 r.e.ver, .slice r.a r.n r.c]
theorem ev3_len (l : List EvR) : (ev3 l).length = l.length * 3 := by
  induction l with
  | nil => rfl
  | cons d r ih => rw [show ev3 (d :: r) = [sv d.e.type, .int .i64 d.e.ver, .slice d.a d.n d.c] ++ ev3 r from rfl, List.length_append, ih]; simp; omega
theorem ev3_append (a b : List EvR) : ev3 (a ++ b) = ev3 a ++ ev3 b := by simp [ev3]
theorem ev3_one (l : List EvR) : ∀ u ∈ ev3 l, u.oneCell' = true := by
  intro u hu
  obtain ⟨d, _, hd⟩ := List.mem_flatMap.1 hu
  simp only [List.mem_cons, List.not_mem_nil, or_false] at hd
  rcases hd with rfl | rfl | rfl <;> rfl
theorem ev3_get : ∀ (l : List EvR) (i : Nat) (r : EvR), l[i]? = some r → (ev3 l)[i * 3]? = some (sv r.e.type) ∧ (ev3 l)[i * 3 + 1]? = some (.int .i64 r.e.ver) ∧ (ev3 l)[i * 3 + 2]? = some (.slice r.a r.n r.c)
  | [], _, _, h => by simp at h
  | d :: t, 0, r, h => by simp at h; subst h; simp [ev3]
  | d :: t, i + 1, r, h => by
    have ih := ev3_get t i r (by simpa using h)
    have e : ∀ j, (ev3 (d :: t))[(i + 1) * 3 + j]? = (ev3 t)[i * 3 + j]? := fun j => by
      rw [show ev3 (d :: t) = [sv d.e.type, .int .i64 d.e.ver, .slice d.a d.n d.c] ++ ev3 t from rfl, List.getElem?_append_right (by simp; omega)]
      congr 1
      simp; omega
    exact ⟨(e 0).trans ih.1, (e 1).trans ih.2.1, (e 2).trans ih.2.2⟩
/-- Events in a row of one's own; their fields lie in the elder world. -/
def EVOwn (w0 w : World) (base : Nat) (v : Value) (es : List Evn) : Prop := ∃ rs : List EvR, w.ownsRow base 49 3 v rs.length (ev3 rs) ∧ rs.map (·.e) = es ∧ ∀ r ∈ rs, FdL w0 (.slice r.a r.n r.c) r.e.fields
theorem EVOwn.keep {w0 w w' : World} {base : Nat} {v : Value} {es : List Evn} (h : EVOwn w0 w base v es) (hk : ∀ g, base ≤ g → w'.heap[g]? = w.heap[g]?) : EVOwn w0 w' base v es := by
  obtain ⟨ds, ⟨h1, h2⟩, h3⟩ := h
  refine ⟨ds, ⟨h1, ?_⟩, h3⟩
  rcases h2 with h | ⟨g, cap, cur, a, b, c, r⟩
  · exact .inl h
  · exact .inr ⟨g, cap, cur, a, b, (hk g b).trans c, r⟩
theorem EVOwn.mono {w0 w : World} {base base' : Nat} {v : Value} {L : List Evn} (h : EVOwn w0 w base v L) (hb : base' ≤ base) : EVOwn w0 w base' v L := by
  obtain ⟨ds, ⟨h1, h2⟩, h3⟩ := h
  refine ⟨ds, ⟨h1, ?_⟩, h3⟩
  rcases h2 with h | ⟨g, cap, cur, a, b, c, r⟩
  · exact .inl h
  · exact .inr ⟨g, cap, cur, a, by omega, c, r⟩
theorem EVOwn.sl {w0 w : World} {base : Nat} {v : Value} {L : List Evn} (h : EVOwn w0 w base v L) : ∃ a c, v = .slice a L.length c := by
  obtain ⟨ds, ⟨_, h2⟩, e, _⟩ := h
  have hl : ds.length = L.length := by rw [← e]; simp
  rcases h2 with ⟨e, h0⟩ | ⟨g, cap, cur, e, _⟩
  · exact ⟨none, 0, by rw [e, ← hl, h0]⟩
  · exact ⟨_, _, by rw [e, ← hl]⟩
theorem EVOwn.evl {w0 w : World} {base n c : Nat} {a : Option Addr} {L : List Evn} (h : EVOwn w0 w base (.slice a n c) L) (hb : Below w0.heap.size w0 w) : EvL w (.slice a n c) L := by
  obtain ⟨ds, hr, e, h3⟩ := h
  have hl : ds.length = L.length := by rw [← e]; simp
  have hr0 := hr
  obtain ⟨g1, g2⟩ := hr
  rcases g2 with ⟨e1, h0⟩ | ⟨g, cap, cur, e1, hbb, hg, hn, hm, _⟩
  · cases e1
    exact ⟨none, 0, by rw [← hl, h0], by omega, by omega, fun h => absurd (by omega) h⟩
  · cases e1
    refine ⟨some ⟨g, 0, none⟩, c, by rw [← hl], by omega, by unfold maxLen at hm; omega, fun _ => ⟨g, 0, rfl, lt_of_block hg, fun i hi => ?_⟩⟩
    obtain ⟨r, hri⟩ : ∃ r, ds[i]? = some r := ⟨_, List.getElem?_eq_getElem (by omega)⟩
    obtain ⟨q0, q1, q2⟩ := ev3_get ds i r hri
    have hLi : L[i] = r.e := by
      have : L[i]? = some r.e := by rw [← e, List.getElem?_map, hri]; rfl
      rw [List.getElem?_eq_getElem hi] at this
      exact Option.some.inj this
    have at' : ∀ j, j < ds.length * 3 → w.cell? ⟨g, j, none⟩ = (ev3 ds)[j]? := fun j hj => hr0.cellAt j hj
    have hid := (List.getElem?_eq_some_iff.1 hri).1
    rw [hLi, Nat.zero_add]
    exact ⟨(at' _ (by omega)).trans q0, (at' _ (by omega)).trans q1, r.a, r.n, r.c, (at' _ (by omega)).trans q2, (h3 r (List.mem_of_getElem? hri)).below hb (Nat.le_refl _)⟩
theorem EVOwn.empty (w0 w : World) : EVOwn w0 (w.alloc (.cells #[] 49)) w.heap.size (.slice (some ⟨w.heap.size, 0, none⟩) 0 0) [] :=
  ⟨[], ⟨rfl, .inr ⟨w.heap.size, 0, #[], rfl, Nat.le_refl _, heap_alloc_self _ _, by simp, by unfold maxLen; omega, by simp, by simp [ev3]⟩⟩, rfl, fun r hr => by cases hr⟩
/-- What is read of events, as rows. -/
theorem EvL.rows {w : World} {a : Option Addr} {n c : Nat} {es : List Evn} (h : EvL w (.slice a n c) es) (hn : es.length ≠ 0) : ∃ (ad : Addr) (rs : List EvR), a = some ad ∧ rs.map (·.e) = es ∧ (∀ r ∈ rs, FdL w (.slice r.a r.n r.c) r.e.fields) ∧ ∀ (j : Nat) (u : Value), (ev3 rs)[j]? = some u → w.cell? (ad.add j) = some u := by
  obtain ⟨ao, cap, e, h1, h2, h4⟩ := h
  cases e
  obtain ⟨b, off, rfl, _, hc⟩ := h4 hn
  have key : ∀ k, k ≤ es.length → ∃ rs : List EvR, rs.map (·.e) = es.take k ∧ (∀ r ∈ rs, FdL w (.slice r.a r.n r.c) r.e.fields) ∧ ∀ (j : Nat) (u : Value), (ev3 rs)[j]? = some u → w.cell? ⟨b, off + j, none⟩ = some u := by
    intro k
    induction k with
    | zero => intro _; exact ⟨[], by simp, (fun r hr => by cases hr), (fun j u hj => by simp [ev3] at hj)⟩
    | succ k ih =>
      intro hk
      obtain ⟨rs, e1, e2, e3⟩ := ih (by omega)
      obtain ⟨c0, c1, fa, fn, fc, c2, hf⟩ := hc k (by omega)
      have hrl : rs.length = k := by have := congrArg List.length e1; simpa [List.length_take, Nat.min_eq_left (show k ≤ es.length by omega)] using this
      refine ⟨rs ++ [⟨es[k], fa, fn, fc⟩], ?_, fun r hr => ?_, fun j u hj => ?_⟩
      · rw [List.map_append, e1, List.take_add_one, List.getElem?_eq_getElem (by omega)]; rfl
      · rcases List.mem_append.1 hr with hr | hr
        · exact e2 r hr
        · rw [List.mem_singleton.1 hr]; exact hf
      · rw [ev3_append] at hj
        by_cases hlt : j < (ev3 rs).length
        · rw [List.getElem?_append_left hlt] at hj
          exact e3 j u hj
        · rw [List.getElem?_append_right (by omega)] at hj
          rw [ev3_len, hrl] at hj hlt
          obtain ⟨d, rfl⟩ : ∃ d, j = k * 3 + d := ⟨j - k * 3, by omega⟩
          rw [Nat.add_sub_cancel_left] at hj
          rw [← Nat.add_assoc]
          match d, hj with
          | 0, hj => simp [ev3] at hj; subst hj; exact c0
          | 1, hj => simp [ev3] at hj; subst hj; exact c1
          | 2, hj => simp [ev3] at hj; subst hj; exact c2
          | d + 3, hj => simp [ev3] at hj
  obtain ⟨rs, e1, e2, e3⟩ := key es.length (Nat.le_refl _)
  rw [List.take_length] at e1
  exact ⟨⟨b, off, none⟩, rs, rfl, e1, e2, fun j u hj => by rw [addr_add]; exact e3 j u hj⟩
/-- An append of events. -/
theorem wpList_append_evr {w0 w : World} {ops : Array Oper} {rest : List Oper} {o : Oper} {a : Act} {Q : Exit → Act → World → Prop} (hgd : o.guard = none) (s x : Operand)
    (ho : o.op = .call { callee := .builtin .append, args := #[s, x], argTypes := #[31, 31] })
    (base : Nat) (v : Value) (R : List Evn) (hs : a.eval s = v) (hown : EVOwn w0 w base v R) (xa : Option Addr) (xn xc : Nat) (m : List Evn) (hx : a.eval x = .slice xa xn xc) (hy : EvL w0 (.slice xa xn xc) m) (hw : Below w0.heap.size w0 w) (hm : m.length ≠ 0) (hlen : R.length + m.length ≤ 1000000) (hbase : base ≤ w.heap.size)
    (h : ∀ v' w', EVOwn w0 w' base v' (R ++ m) → Below base w w' → wpList Try.prog ops Q rest (a.put o.dst v') w') : wpList Try.prog ops Q (o :: rest) a w := by
  obtain ⟨i0, hi, hh⟩ := Option.map_eq_some_iff.1 infoEvent3
  simp only [Prod.mk.injEq] at hh
  obtain ⟨rs, hrow, rfl, hrs⟩ := hown
  obtain ⟨ad, ms, rfl, rfl, hf, hc⟩ := hy.rows hm
  obtain ⟨_, _, e, _⟩ := hy
  cases e
  rw [List.length_map, List.length_map] at hlen
  refine wpList_append_own w hgd s x 31 ho base 49 i0 _ 3 48 Try.underlying31 hi hh.1 hh.2.1 hh.2.2 rfl (by decide) v rs.length (ev3 rs) hs hrow ad (ms.map (·.e)).length xc (ev3 ms) hx (by rw [ev3_len, List.length_map]) (fun j u hj => keptQ hw (hc j u hj)) (ev3_one ms) (by rw [List.length_map]; unfold maxLen; omega) (by rw [List.length_map]; omega) hbase ?_
  intro v' w' ho' hgr _
  rw [List.length_map] at ho'
  refine h v' w' ⟨rs ++ ms, by rw [ev3_append, List.length_append]; exact ho', by simp, fun d hd => ?_⟩ ((Below.refl _ _).grown hgr hbase ?_)
  · rcases List.mem_append.1 hd with hd | hd
    · exact hrs d hd
    · exact hf d hd
  · intro k hk
    rcases hrow.2 with ⟨rfl, _⟩ | ⟨g, cap', cur, rfl, hb, _⟩
    · cases hk
    · simp only [Value.ownBlock, Option.some.injEq] at hk; omega
end Go.Proofs.Ytabcmmhmghgliaa
