/-
  DERIVED. The walks of the document's right, Of and Cut.
-/
import Derived.Test.YtabcmmhmghgliaaSp3
namespace Go.Proofs.Ytabcmmhmghgliaa
open Go.RowKit
set_option linter.unusedVariables false

theorem ans_bool (p : Prop) [Decidable p] (b : Bool) (h : b = decide p) : b = ans p := by
  by_cases hp : p
  · rw [h, decide_eq_true hp, ans_true hp]
  · rw [h, decide_eq_false hp, ans_false hp]

set_option maxRecDepth 20000 in
set_option maxHeartbeats 4000000 in
theorem rright_go (a : Option Addr) (n c : Nat) (es : List Evn) (w : World) (hv : EvL w (.slice a n c) es) (hfit : ∀ e ∈ es, fitE e) :
    Calls Try.prog 42 #[.slice a n c] w fun e w' => e = .returned (.bool (ans (okEvs es))) ∧ Below w.heap.size w w' := by
  obtain ⟨ao, cap, e, g1, g2, g4⟩ := id hv
  have hn : n = es.length := by cases e; rfl
  have HN := hide hn
  have hnm : n ≤ 9223372036854775807 := by cases e; omega
  have HV := hide hv
  have HFit := hide hfit
  have HBad : Hid ((∃ e ∈ es, ¬ okEv e) → ans (okEvs es) = false) := hide (fun ⟨e, he, hb⟩ => ans_false (fun h => hb (h.2.2 e he)))
  have HB0 := hide (Below.refl w.heap.size w)
  obtain ⟨R, hR⟩ : ∃ R, R = ans (okEvs es) := ⟨_, rfl⟩
  have HR := hide hR
  rw [← hR] at HBad ⊢
  clear hv hfit hn e g1 g2 g4 hR
  go_enter Try.func42, Try.ntmps42
  go_wp2_with fail
  go_loopw [3] (fun i W => ∃ (j : Nat), j ≤ n ∧ i = .int .i64 (j : Int) ∧ Hid (∀ i, i < j → ∀ e, es[i]? = some e → okEv e) ∧ Hid (Below w.heap.size w W)) (fun i _ => n - (intOf i).toNat)
  case atStart => exact ⟨0, by omega, rfl, hide (fun i h => by omega), HB0⟩
  case round =>
    clear HB0
    obtain ⟨j, hj, rfl, HJ, HB⟩ := hrel
    by_cases hlt : j < n
    · obtain ⟨ev, hev⟩ : ∃ ev, es[j]? = some ev := ⟨_, List.getElem?_eq_getElem (by have := unhide HN; omega)⟩
      have hem := List.mem_of_getElem? hev
      obtain ⟨eb, eo, hea, x0, x1, fa, fn, fc, x2, hfd⟩ : ∃ eb eo, a = some ⟨eb, eo, none⟩ ∧ wr.cell? ⟨eb, eo + j * 3, none⟩ = some (sv ev.type) ∧ wr.cell? ⟨eb, eo + j * 3 + 1, none⟩ = some (.int .i64 ev.ver) ∧ ∃ a n c, wr.cell? ⟨eb, eo + j * 3 + 2, none⟩ = some (.slice a n c) ∧ FdL wr (.slice a n c) ev.fields := by
        obtain ⟨ao, cap, e, h1, h2, h4⟩ := (unhide HV).below (unhide HB) (Nat.le_refl _)
        cases e
        obtain ⟨hl, he⟩ := List.getElem?_eq_some_iff.1 hev
        obtain ⟨eb, eo, e1, e2, e3⟩ := h4 (by omega)
        refine ⟨eb, eo, e1, ?_⟩
        have := e3 j hl
        rw [he] at this
        exact this
      subst hea
      have hft := unhide HFit ev hem
      have HC := hide (rCheck_any ev.type ev.ver fa fn fc ev.fields wr hft.1 hfd hft.2)
      have hki : (j : Int) < (n : Int) := by omega
      have hk0 : ¬ (j : Int) < 0 := by omega
      by_cases hok : okEv ev
      · have hc0 : chk (okEvent ev.type ev.ver ev.fields) = 0 := if_pos hok
        rw [hc0] at HC
        have HJ2 : Hid (∀ i, i < j + 1 → ∀ e, es[i]? = some e → okEv e) := hide (fun i hi e he => by
          by_cases q : i = j
          · subst q; rw [hev] at he; cases he; exact hok
          · exact unhide HJ i (by omega) e he)
        clear hev hem hfd hft hok hc0
        go_wp2_with (go_at_call 50; refine (unhide HC).mono ?_; rintro e w5 ⟨rfl, b5⟩; have HB5 := hide ((unhide HB).trans (b5.mono (unhide HB).size)); clear b5)
        go_roundw
        case rel => exact ⟨j + 1, by omega, by go_num, HJ2, HB5⟩
        case measure => simp [intOf]; omega
      · have hc0 : chk (okEvent ev.type ev.ver ev.fields) = 13 := if_neg hok
        rw [hc0] at HC
        have HX := hide (unhide HBad ⟨ev, hem, hok⟩)
        clear hev hem hfd hft hok hc0
        go_wp2_with (go_at_call 50; refine (unhide HC).mono ?_; rintro e w5 ⟨rfl, b5⟩; have HB5 := hide ((unhide HB).trans (b5.mono (unhide HB).size)); clear b5)
        go_ret
        exact ⟨by rw [unhide HX]; rfl, unhide HB5⟩
    · have hki : ¬ (j : Int) < (n : Int) := by omega
      have hall : ∀ e ∈ es, okEv e := fun e he => by
        obtain ⟨i, hi, rfl⟩ := List.mem_iff_getElem.1 he
        exact unhide HJ i (by have := unhide HN; omega) _ (List.getElem?_eq_getElem hi)
      have HAll := hide hall
      clear hall
      by_cases h1 : 1 ≤ n
      · have p1 : decide ((1 : Int) ≤ (n : Int)) = true := decide_eq_true (by omega)
        have p1' : (1 : Int) ≤ (n : Int) := by omega
        by_cases h2 : n ≤ 16
        · have p2 : decide ((n : Int) ≤ 16) = true := decide_eq_true (by omega)
          have HX : Hid (R = true) := hide (by rw [unhide HR]; exact ans_true ⟨by have := unhide HN; omega, by have := unhide HN; omega, unhide HAll⟩)
          go_wp2_with fail
          go_ret
          exact ⟨by rw [unhide HX]; simp, unhide HB⟩
        · have p2 : decide ((n : Int) ≤ 16) = false := decide_eq_false (by omega)
          have HX : Hid (R = false) := hide (by rw [unhide HR]; exact ans_false (fun h => by have := h.2.1; have := unhide HN; omega))
          go_wp2_with fail
          go_ret
          exact ⟨by rw [unhide HX]; simp, unhide HB⟩
      · have p1 : decide ((1 : Int) ≤ (n : Int)) = false := decide_eq_false (by omega)
        have HX : Hid (R = false) := hide (by rw [unhide HR]; exact ans_false (fun h => by have := h.1; have := unhide HN; omega))
        go_wp2_with fail
        go_ret
        exact ⟨by rw [unhide HX]; first | rfl | (simp; omega), unhide HB⟩

/-- A stream's entries. -/
def ofD (s : List UInt8) (l : List (Nat × Ent)) : List (Nat × Ent) := l.filter fun p => p.2.s == s
theorem ofD_len (s : List UInt8) (l : List Ent) : (ofD s (numL l)).length = verL l s := by
  unfold ofD numL verL
  have key : ∀ (l : List Ent) (i : Nat), (((l.zipIdx i).map fun p => (p.2, p.1)).filter fun p => p.2.s == s).length = (l.filter fun x => x.s == s).length := by
    intro l
    induction l with
    | nil => intro i; rfl
    | cons a r ih =>
      intro i
      simp only [List.zipIdx_cons, List.map_cons, List.filter_cons]
      by_cases h : (a.s == s) = true
      · simp [h, ih]
      · simp [h, ih]
  exact key l 0
theorem EnL.get {w : World} {a : Option Addr} {n c : Nat} {es : List (Nat × Ent)} (h : EnL w (.slice a n c) es) {i : Nat} {x : Nat × Ent} (hi : es[i]? = some x) : ∃ b off, a = some ⟨b, off, none⟩ ∧ w.cell? ⟨b, off + i * 6, none⟩ = some (.int .i64 (x.1 : Int)) ∧ w.cell? ⟨b, off + i * 6 + 1, none⟩ = some (sv x.2.s) ∧ w.cell? ⟨b, off + i * 6 + 2, none⟩ = some (.int .i64 (x.2.num : Int)) ∧ w.cell? ⟨b, off + i * 6 + 3, none⟩ = some (sv x.2.e.type) ∧ w.cell? ⟨b, off + i * 6 + 4, none⟩ = some (.int .i64 x.2.e.ver) ∧ ∃ fa fn fc, w.cell? ⟨b, off + i * 6 + 5, none⟩ = some (.slice fa fn fc) ∧ FdL w (.slice fa fn fc) x.2.e.fields := by
  obtain ⟨ao, cap, e, h1, h2, h3⟩ := h
  cases e
  obtain ⟨hl, rfl⟩ := List.getElem?_eq_some_iff.1 hi
  obtain ⟨b, off, e, _, hc⟩ := h3 (by omega)
  obtain ⟨c0, c1, c2, c3, c4, fa, fn, fc, c5, hf⟩ := hc i hl
  exact ⟨b, off, e, c0, c1, c2, c3, c4, fa, fn, fc, c5, hf⟩
theorem EnL.len {w : World} {a : Option Addr} {n c : Nat} {es : List (Nat × Ent)} (h : EnL w (.slice a n c) es) : n = es.length ∧ n ≤ c ∧ c ≤ 9223372036854775807 := by
  obtain ⟨ao, cap, e, h1, h2, h3⟩ := h
  cases e
  exact ⟨rfl, h1, h2⟩

set_option maxRecDepth 20000 in
set_option maxHeartbeats 8000000 in
theorem rOf_go (rb : Nat) (Bs : List Bat) (s : List UInt8) (w : World) (h : RRd w rb Bs) (hok : BsOk Bs) (hs : s.length ≤ 9223372036854775807) :
    Calls Try.prog 23 #[.pointer (some ⟨rb, 0, none⟩), sv s] w fun e w' => ∃ v, e = .returned v ∧ ∃ w1, ENOwn w1 w' w.heap.size v (ofD s (numL (entD Bs))) ∧ Below w1.heap.size w1 w' ∧ Below w.heap.size w w' := by
  have HC := hide (rEntries_go rb Bs w h hok)
  have HTot : Hid ((numL (entD Bs)).length ≤ 16000) := hide (by rw [numL_len, entD_len]; have := totB_take_le hok Bs.length; rwa [List.take_length] at this)
  obtain ⟨L, hL⟩ : ∃ L, L = numL (entD Bs) := ⟨_, rfl⟩
  rw [← hL] at HC HTot ⊢
  clear h hok hL
  go_enter Try.func23, Try.ntmps23
  go_upto_region 3 with (go_at_call 9; refine (unhide HC).mono ?_; rintro e w1 ⟨v1, rfl, o1, b1⟩; obtain ⟨la, lc, he1⟩ := o1.sl; obtain ⟨n, hn⟩ : ∃ n, n = L.length := ⟨_, rfl⟩; rw [← hn] at he1; subst he1; have HEn := hide (o1.enl b1); have HB1 := hide b1; have HN := hide hn; clear o1 b1 hn)
  have HO0 : Hid (ENOwn w1 w1 w1.heap.size (.slice none 0 0) (ofD s (L.take 0))) := hide (by simpa [ofD] using ENOwn.nil w1 w1 w1.heap.size)
  have HB0 : Hid (Below w1.heap.size w1 w1) := hide (Below.refl _ _)
  have hnm : n ≤ 9223372036854775807 := by have := (unhide HEn).len; omega
  clear HC
  go_wp2_with fail
  go_loopw [5, 7] (fun v i W => ∃ (j : Nat) (ra : Option Addr) (rn rc : Nat), j ≤ n ∧ v = .slice ra rn rc ∧ i = .int .i64 (j : Int) ∧ Hid (ENOwn w1 W w1.heap.size (.slice ra rn rc) (ofD s (L.take j))) ∧ Hid (Below w1.heap.size w1 W)) (fun _ i _ => n - (intOf i).toNat)
  case atStart => exact ⟨0, none, 0, 0, by omega, rfl, rfl, HO0, HB0⟩
  case round =>
    clear HO0 HB0
    obtain ⟨j, ra, rn, rc, hj, rfl, rfl, HO, HB⟩ := hrel
    by_cases hlt : j < n
    · obtain ⟨x, hx⟩ : ∃ x, L[j]? = some x := ⟨_, List.getElem?_eq_getElem (by have := unhide HN; omega)⟩
      obtain ⟨b, off, rfl, y0, y1, y2, y3, y4, fa, fn, fc, y5, hfd1⟩ := (unhide HEn).get hx
      obtain ⟨p, xs, num, ev⟩ := x
      simp only at y0 y1 y2 y3 y4 y5 hfd1
      have c0 := keptQ (unhide HB) y0
      have c1 := keptQ (unhide HB) y1
      have c2 := keptQ (unhide HB) y2
      have c3 := keptQ (unhide HB) y3
      have c4 := keptQ (unhide HB) y4
      have c5 := keptQ (unhide HB) y5
      clear y0 y1 y2 y3 y4 y5
      have HTk : Hid (ofD s (L.take (j + 1)) = ofD s (L.take j) ++ if xs == s then [(p, ⟨xs, num, ev⟩)] else []) := hide (by
        unfold ofD
        rw [List.take_add_one, hx, Option.toList_some, List.filter_append]
        congr 1
        simp only [List.filter_cons, List.filter_nil])
      have HLn : Hid ((ofD s (L.take j)).length ≤ 16000) := hide (by
        have h1 := List.length_filter_le (fun q : Nat × Ent => q.2.s == s) (L.take j)
        have h2 : (L.take j).length ≤ L.length := by rw [List.length_take]; omega
        have h3 := unhide HTot
        unfold ofD
        omega)
      have hki : (j : Int) < (n : Int) := by omega
      have hk0 : ¬ (j : Int) < 0 := by omega
      by_cases he : xs = s
      · subst he
        have HX : Hid (ofD xs (L.take (j + 1)) = ofD xs (L.take j) ++ [(p, ⟨xs, num, ev⟩)]) := hide (by rw [unhide HTk, if_pos (by simp)])
        have bA : Below wr.heap.size wr (wr.alloc (.cells #[.int .i64 (p : Int), sv xs, .int .i64 (num : Int), sv ev.type, .int .i64 ev.ver, .slice fa fn fc] 64)) := (Below.refl _ _).alloc (Nat.le_refl _) _
        have HBA := hide bA
        have HXA : Hid ((wr.alloc (.cells #[.int .i64 (p : Int), sv xs, .int .i64 (num : Int), sv ev.type, .int .i64 ev.ver, .slice fa fn fc] 64)).heap[wr.heap.size]? = some (.cells (enV ⟨p, ⟨xs, num, ev⟩, fa, fn, fc⟩) 64 (0, 0))) := hide (heap_alloc_self _ _)
        have HFd := hide hfd1
        clear hx hfd1 bA
        go_wp2_with (at_builtin; refine wpList_append_en (w0 := w1) rfl (.tmp 23) (.tmp 28) rfl w1.heap.size _ (ofD xs (L.take j)) rfl ((unhide HO).below (unhide HBA) (Nat.le_refl _)) wr.heap.size ⟨p, ⟨xs, num, ev⟩, fa, fn, fc⟩ rfl (unhide HXA) (unhide HFd) (by have := unhide HLn; omega) (by have := (unhide HB).size; have := (unhide HBA).size; omega) ?_; intro v5 w5 o5 b5; obtain ⟨ra5, rc5, he5⟩ := o5.sl; obtain ⟨rn5, hrn5⟩ : ∃ z, z = (ofD xs (L.take j) ++ [(p, (⟨xs, num, ev⟩ : Ent))]).length := ⟨_, rfl⟩; rw [← hrn5] at he5; subst he5; have HO5 := hide o5; have HB5 := hide (((unhide HB).trans ((unhide HBA).mono (unhide HB).size)).trans b5); clear o5 b5 hrn5)
        go_roundw
        case rel => exact ⟨j + 1, _, _, _, by omega, rfl, by go_num, by rw [unhide HX]; exact HO5, HB5⟩
        case measure => simp [intOf]; omega
      · have HX : Hid (ofD s (L.take (j + 1)) = ofD s (L.take j)) := hide (by rw [unhide HTk, if_neg (by simpa using he), List.append_nil])
        have hne : (xs == s) = false := by simpa using he
        have hne2 : (xs.toArray.toList == s.toArray.toList) = false := by simpa using he
        clear hx hfd1 he
        go_wp2_with fail
        go_roundw
        case rel => exact ⟨j + 1, _, _, _, by omega, rfl, by go_num, by rw [unhide HX]; exact HO, HB⟩
        case measure => simp [intOf]; omega
    · have hki : ¬ (j : Int) < (n : Int) := by omega
      have HX : Hid (ENOwn w1 wr w1.heap.size (.slice ra rn rc) (ofD s L)) := hide (by have := unhide HO; rwa [List.take_of_length_le (by have := unhide HN; omega)] at this)
      go_wp2_with fail
      go_ret
      exact ⟨_, rfl, w1, (unhide HX).mono (unhide HB1).size, unhide HB, (unhide HB1).trans ((unhide HB).mono (unhide HB1).size)⟩
end Go.Proofs.Ytabcmmhmghgliaa

namespace Go.Proofs.Ytabcmmhmghgliaa
open Go.RowKit
set_option linter.unusedVariables false

theorem EnL.cut {w : World} {a : Option Addr} {n c f m : Nat} {es : List (Nat × Ent)} (h : EnL w (.slice a n c) es) (hfm : f + m ≤ n) (b off : Nat) (ha : a = some ⟨b, off, none⟩) : EnL w (.slice (some ⟨b, off + f * 6, none⟩) m (c - f)) ((es.drop f).take m) := by
  obtain ⟨ao, cap, e, h1, h2, h3⟩ := h
  cases e
  subst ha
  have hl : ((es.drop f).take m).length = m := by rw [List.length_take, List.length_drop]; omega
  refine ⟨_, c - f, by rw [hl], by omega, by omega, fun hz => ?_⟩
  obtain ⟨b', off', e, hlt, hc⟩ := h3 (by omega)
  cases e
  refine ⟨b, off + f * 6, rfl, hlt, fun i hi => ?_⟩
  have hi2 : f + i < es.length := by omega
  have he : ((es.drop f).take m)[i] = es[f + i] := by rw [List.getElem_take, List.getElem_drop]
  obtain ⟨c0, c1, c2, c3, c4, fa, fn, fc, c5, hf⟩ := hc (f + i) hi2
  rw [he]
  have e6 : ∀ k, off + f * 6 + i * 6 + k = off + (f + i) * 6 + k := fun k => by omega
  have e0 : off + f * 6 + i * 6 = off + (f + i) * 6 := by omega
  rw [e0]
  exact ⟨c0, c1, c2, c3, c4, fa, fn, fc, c5, hf⟩
theorem EnL.none {w : World} {a : Option Addr} {n c f m : Nat} {es : List (Nat × Ent)} (h : EnL w (.slice a n c) es) (hm : m = 0) (a' : Option Addr) (c' : Nat) (hc : c' ≤ 9223372036854775807) : EnL w (.slice a' m c') ((es.drop f).take m) := by
  subst hm
  rw [List.take_zero]
  exact ⟨a', c', rfl, by simp, hc, fun h => absurd rfl h⟩

def CutPost (w : World) (es : List (Nat × Ent)) (fr mo : Nat) (e : Ending) (w' : World) : Prop := w = w' ∧ ∃ a' n' c', e = .returned (.tuple #[.slice a' n' c', .int .i64 0]) ∧ EnL w (.slice a' n' c') ((es.drop fr).take mo)
theorem cut_min {es : List (Nat × Ent)} {fr mo n f m : Nat} (hn : n = es.length) (hf : f = min fr n) (hm : m = min mo (n - f)) : (es.drop fr).take mo = (es.drop f).take m := by
  by_cases h : fr ≤ n
  · rw [show f = fr by omega, hm, show f = fr by omega]
    rw [show n - fr = (es.drop fr).length by rw [List.length_drop, hn]]
    rcases Nat.le_total mo (es.drop fr).length with q | q
    · rw [Nat.min_eq_left q]
    · rw [Nat.min_eq_right q, List.take_of_length_le q, List.take_of_length_le (Nat.le_refl _)]
  · rw [List.drop_eq_nil_of_le (by omega), List.drop_eq_nil_of_le (by omega)]
    simp

set_option maxHeartbeats 2000000 in
theorem rCut_neg (v : Value) (fr mo : Int) (h : fr < 0 ∨ mo < 0) (w : World) : Calls Try.prog 22 #[v, .int .i64 fr, .int .i64 mo] w fun e w' => e = .returned (.tuple #[.slice none 0 0, .int .i64 1]) ∧ w = w' := by
  by_cases h1 : fr < 0
  · have q : decide (fr < 0) = true := decide_eq_true h1
    go_enter Try.func22, Try.ntmps22
    go_wp2
    go_ret2
    exact ⟨rfl, rfl⟩
  · have h2 : mo < 0 := by omega
    have q1 : decide (fr < 0) = false := decide_eq_false h1
    have q2 : decide (mo < 0) = true := decide_eq_true h2
    clear h
    go_enter Try.func22, Try.ntmps22
    go_wp2
    go_ret2
    exact ⟨rfl, rfl⟩

set_option maxRecDepth 20000 in
set_option maxHeartbeats 4000000 in
theorem rCut_go (a : Option Addr) (n c : Nat) (es : List (Nat × Ent)) (w : World) (hv : EnL w (.slice a n c) es) (fr mo : Nat) (hfr : fr ≤ 9223372036854775807) (hmo : mo ≤ 9223372036854775807) :
    Calls Try.prog 22 #[.slice a n c, .int .i64 (fr : Int), .int .i64 (mo : Int)] w (CutPost w es fr mo) := by
  obtain ⟨hn, hnc, hcm⟩ := hv.len
  obtain ⟨f, hf⟩ : ∃ f, f = min fr n := ⟨_, rfl⟩
  obtain ⟨m, hm⟩ : ∃ m, m = min mo (n - f) := ⟨_, rfl⟩
  have HE := hide (cut_min hn hf hm)
  have hfn : f ≤ n := by omega
  have hfm : f + m ≤ n := by omega
  have e1 : min (fr : Int) (n : Int) = (f : Int) := by omega
  have e2 : min (mo : Int) ((n : Int) - (f : Int)) = (m : Int) := by omega
  have i1 : IntKind.i64.wrap ((n : Int) - (f : Int)) = (n : Int) - (f : Int) := by rw [IntKind.wrap_i64]; omega
  have i2 : IntKind.i64.wrap ((f : Int) + (m : Int)) = ((f + m : Nat) : Int) := by rw [IntKind.wrap_i64]; omega
  have q1 : decide ((fr : Int) < 0) = false := decide_eq_false (by omega)
  have q2 : decide ((mo : Int) < 0) = false := decide_eq_false (by omega)
  have HV := hide hv
  have HN := hide hn
  clear hf hm hn hv
  have k1 : (0 : Int) ≤ (f : Int) := by omega
  have k2 : (f : Int) ≤ ((f + m : Nat) : Int) := by omega
  have k3 : ((f + m : Nat) : Int) ≤ (c : Int) := by omega
  have k4 : f + m ≤ c := by omega
  have hcl : ∀ (A : Option Addr) (N C : Nat), N = m → C ≤ 9223372036854775807 → (m = 0 ∨ ∃ b off, a = some ⟨b, off, none⟩ ∧ A = some ⟨b, off + f * 6, none⟩ ∧ C = c - f) → CutPost w es fr mo (.returned (.tuple #[.slice A N C, .int .i64 0])) w := fun A N C hN hC h => by
    subst hN
    refine ⟨rfl, A, N, C, rfl, ?_⟩
    rw [unhide HE]
    rcases h with h | ⟨b, off, h1, rfl, rfl⟩
    · exact (unhide HV).none h A C hC
    · exact (unhide HV).cut hfm b off h1
  have HCl := hide hcl
  clear hcl
  by_cases hcf : c = f
  · have hm0 : m = 0 := by omega
    have hnf : n = f := by omega
    go_enter Try.func22, Try.ntmps22
    go_wp2
    all_goals
      go_ret2
      exact unhide HCl _ _ _ (by omega) (by omega) (.inl hm0)
  · cases a with
    | none =>
      have hm0 : m = 0 := by
        obtain ⟨ao, cap, e, h1, h2, h3⟩ := unhide HV
        cases e
        by_cases hz : es.length = 0
        · omega
        · obtain ⟨_, _, e, _⟩ := h3 hz
          cases e
      go_enter Try.func22, Try.ntmps22
      go_wp2
      all_goals
        go_ret2
        exact unhide HCl _ _ _ (by omega) (by omega) (.inl hm0)
    | some ad =>
      have hcl2 : ∀ (X N C : Nat), N = m → X = f → C = c - X → CutPost w es fr mo (.returned (.tuple #[.slice (some (ad.add (X * 6))) N C, .int .i64 0])) w := fun X N C hN hX hC => by
        refine unhide HCl _ _ _ hN (by rw [hC]; exact Nat.le_trans (Nat.sub_le _ _) hcm) ?_
        by_cases hm0 : m = 0
        · exact .inl hm0
        · obtain ⟨ao, cap, e, h1, h2, h3⟩ := unhide HV
          have hz : es.length ≠ 0 := by clear h3 e; have := unhide HN; omega
          cases e
          obtain ⟨b, off, e, _⟩ := h3 hz
          cases e
          subst hX
          exact .inr ⟨b, off, rfl, by rw [addr_add], hC⟩
      have HCl2 := hide hcl2
      clear hcl2
      go_enter Try.func22, Try.ntmps22
      go_wp2
      all_goals
        go_ret2
        exact unhide HCl2 _ _ _ (by omega) (by omega) (by omega)
end Go.Proofs.Ytabcmmhmghgliaa
