/-
  DERIVED. The walk of Index.Try.
-/
import Derived.Test.YtabcmmhmghgliaaXadd
import Derived.Test.YtabcmmhmghgliaaXtry3
import Derived.Test.YtabcmmhmghgliaaXnil
namespace Go.Proofs.Ytabcmmhmghgliaa
open Go.RowKit Go.Maps
set_option linter.unusedVariables false

theorem BBox.put {w : World} {q : Nat} {s k : List UInt8} {fi : Int} {v : Value} (h : BBox w q s k fi v) (s' k' : List UInt8) (f' : Int) (v' : Value) : BBox ((((w.setCell ⟨q, 0, none⟩ (sv s')).setCell ⟨q, 1, none⟩ (sv k')).setCell ⟨q, 2, none⟩ (.int .i64 f')).setCell ⟨q, 3, none⟩ v') q s' k' f' v' :=
  (((h.set0 s').set1 k').set2 f').set3 v'
theorem below_putB {B : Nat} {a w : World} (h : Below B a w) {q : Nat} (hq : B ≤ q) (s' k' : List UInt8) (f' : Int) (v' : Value) : Below B a ((((w.setCell ⟨q, 0, none⟩ (sv s')).setCell ⟨q, 1, none⟩ (sv k')).setCell ⟨q, 2, none⟩ (.int .i64 f')).setCell ⟨q, 3, none⟩ v') :=
  (((h.setCell (p := ⟨q, 0, none⟩) hq _).setCell (p := ⟨q, 1, none⟩) hq _).setCell (p := ⟨q, 2, none⟩) hq _).setCell (p := ⟨q, 3, none⟩) hq _
theorem ABox.other {w : World} {q b : Nat} {f p c : Int} {t : Bool} (h : ABox w b f p c t) (hne : b ≠ q) (s' k' : List UInt8) (f' : Int) (v' : Value) : ABox ((((w.setCell ⟨q, 0, none⟩ (sv s')).setCell ⟨q, 1, none⟩ (sv k')).setCell ⟨q, 2, none⟩ (.int .i64 f')).setCell ⟨q, 3, none⟩ v') b f p c t :=
  (((h.same (heap_setCell_other _ ⟨q, 0, none⟩ _ _ hne)).same (heap_setCell_other _ ⟨q, 1, none⟩ _ _ hne)).same (heap_setCell_other _ ⟨q, 2, none⟩ _ _ hne)).same (heap_setCell_other _ ⟨q, 3, none⟩ _ _ hne)
theorem BBox.other {w : World} {q b : Nat} {s k : List UInt8} {fi : Int} {v : Value} (h : BBox w b s k fi v) (hne : b ≠ q) (f' p' c' : Int) (b' : Bool) : BBox ((((w.setCell ⟨q, 0, none⟩ (.int .i64 f')).setCell ⟨q, 1, none⟩ (.int .i64 p')).setCell ⟨q, 2, none⟩ (.int .i64 c')).setCell ⟨q, 3, none⟩ (.bool b')) b s k fi v :=
  (((h.same (heap_setCell_other _ ⟨q, 0, none⟩ _ _ hne)).same (heap_setCell_other _ ⟨q, 1, none⟩ _ _ hne)).same (heap_setCell_other _ ⟨q, 2, none⟩ _ _ hne)).same (heap_setCell_other _ ⟨q, 3, none⟩ _ _ hne)

/-- Where Try stands behind the state's own try. -/
structure TrSt (w W : World) (f p c : Int) (b : Bool) : Prop where
  a0 : ABox W w.heap.size 0 0 0 false
  b0 : BBox W (w.heap.size + 1) [] [] 0 (.slice none 0 0)
  bel : Below w.heap.size w W
  siz : w.heap.size + 2 ≤ W.heap.size

set_option maxRecDepth 20000 in
set_option maxHeartbeats 4000000 in
theorem Try_bad {w : World} {F : Nat → Prop} {x N : Nat} {I : Ix} (h : IxAt w F x N I) (s : List UInt8) (hs : s.length ≤ maxLen) (ex : Int) (k : List UInt8) (hk : k.length ≤ maxLen) (ea : Option Addr) (en ec : Nat) (es : List Evn) (hv : EvL w (.slice ea en ec) es) (hfit : ∀ e ∈ es, fitE e)
    (f p c : Int) (b : Bool) (err : Int) (hA : tryA I s ex k es = (apV f p c b, err)) (hbad : err ≠ 0 ∨ b = true) :
    Calls Try.prog 11 #[.pointer (some ⟨x, 0, none⟩), sv s, .int .i64 ex, sv k, .slice ea en ec] w fun e w' => e = .returned (.tuple #[.agg (apV f p c b), .agg (bt [] [] 0 none 0 0), .int .i64 err]) ∧ Below w.heap.size w w' := by
  obtain ⟨wa, hwa⟩ : ∃ wa, wa = (w.alloc (.cells (apV 0 0 0 false) 44)).alloc (.cells (bt [] [] 0 none 0 0) 33) := ⟨_, rfl⟩
  have za : wa.heap.size = w.heap.size + 2 := by rw [hwa]; simp
  have ba : Below w.heap.size w wa := by rw [hwa]; exact ((Below.refl _ _).alloc (Nat.le_refl _) _).alloc (by simp) _
  have a1 : ABox wa w.heap.size 0 0 0 false := by unfold ABox; rw [hwa, Below.heap_alloc _ _ _ (by simp)]; exact heap_alloc_self _ _
  have b1 : BBox wa (w.heap.size + 1) [] [] 0 (.slice none 0 0) := by unfold BBox; rw [hwa, show w.heap.size + 1 = (w.alloc (.cells (apV 0 0 0 false) 44)).heap.size by simp]; exact heap_alloc_self _ _
  obtain ⟨st, hx, _, mp, mk, xs, av, pf, D1, D2, hi⟩ := h.frame (w' := wa) fun q _ hl => ba.block q hl
  obtain ⟨a, n, hav⟩ := hi.avs
  subst hav
  have CN := hide (now_go hx hi.stc ⟨a, _, n, rfl⟩)
  have bw := (Below.refl wa.heap.size wa).alloc (Nat.le_refl _) (.cells (stV (.slice a xs.length n) (some mp) (some mk)) 68)
  have CT := hide (try_go (hi.frame (w' := wa.alloc (.cells (stV (.slice a xs.length n) (some mp) (some mk)) 68)) fun q _ hl => bw.block q hl) a xs.length n rfl s hs ex k hk ea en ec es ((hv.below ba (Nat.le_refl _)).below bw (Nat.le_refl _)) hfit)
  rw [hA] at CT
  have HS : Hid (∀ W, Below (wa.alloc (.cells (stV (.slice a xs.length n) (some mp) (some mk)) 68)).heap.size (wa.alloc (.cells (stV (.slice a xs.length n) (some mp) (some mk)) 68)) W → TrSt w W f p c b) := hide (fun W hW => by
    have hz : (wa.alloc (.cells (stV (.slice a xs.length n) (some mp) (some mk)) 68)).heap.size = wa.heap.size + 1 := by simp
    have h2 := bw.trans (hW.mono (by omega))
    exact ⟨a1.same (h2.block _ (by omega)), b1.same (h2.block _ (by omega)), ba.trans (h2.mono (by omega)), by have := hW.size; omega⟩)
  clear hx hi bw h hv hA a1 b1 ba za
  go_enter Try.func11, Try.ntmps11
  go_wp2_with fail
  rw [← hwa]
  refine (unhide CN).mono ?_
  rintro e w1 ⟨rfl, rfl⟩
  clear CN hwa
  go_wp2_with fail
  refine (unhide CT).mono ?_
  rintro e w2 ⟨rfl, hb2⟩
  have st2 := unhide HS w2 hb2
  clear HS CT hb2
  dsimp only
  obtain ⟨B0, hB0⟩ : ∃ B0, B0 = w.heap.size := ⟨_, rfl⟩
  have a3 : ABox (w2.alloc (.cells (apV f p c b) 44)) B0 0 0 0 false := by rw [hB0]; exact st2.a0.same (Below.heap_alloc _ _ _ (by have := st2.siz; omega))
  have b3 : BBox (w2.alloc (.cells (apV f p c b) 44)) (B0 + 1) [] [] 0 (.slice none 0 0) := by rw [hB0]; exact st2.b0.same (Below.heap_alloc _ _ _ (by have := st2.siz; omega))
  have x3 : ABox (w2.alloc (.cells (apV f p c b) 44)) w2.heap.size f p c b := heap_alloc_self _ _
  have bl3 : Below w.heap.size w (w2.alloc (.cells (apV f p c b) 44)) := st2.bel.alloc (by have := st2.siz; omega) _
  have a4 := a3.put f p c b
  have b4 := b3.other (q := B0) (by omega) f p c b
  have a5 := a4.other (q := B0 + 1) (by omega) [] [] 0 (.slice none 0 0)
  have b5 := b4.put [] [] 0 (.slice none 0 0)
  have bl5 := below_putB (below_put bl3 (q := B0) (by omega) f p c b) (q := B0 + 1) (by omega) [] [] 0 (.slice none 0 0)
  obtain ⟨q0, q1, q2, q3, q4⟩ := x3.cells
  obtain ⟨r0, r1, r2, r3, r4⟩ := a3.cells
  obtain ⟨t0, t1, t2, t3, t4⟩ := b4.cells
  have A5 := hide a5
  have B5 := hide b5
  have L5 := hide bl5
  clear a3 b3 x3 bl3 a4 b4 a5 b5 bl5 st2
  rw [← hB0]
  clear hB0
  rcases hbad with hbad | hbad
  · have hne : (err != 0) = true := by simpa [bne] using hbad
    clear hbad
    go_wp2
    exact bodyPost_ret (results_cct rfl _ _ B0 44 (apV f p c b) (0, 0) _ (B0 + 1) 33 (bt [] [] 0 none 0 0) (0, 0) _ (.int .i64 err) rfl rfl rfl (unhide A5) (unhide B5) Try.underlying44 rfl sizeApp Try.underlying33 rfl sizeBatch) rfl ⟨rfl, unhide L5⟩
  · by_cases he : err = 0
    · subst he hbad
      go_wp2
      exact bodyPost_ret (results_cct rfl _ _ B0 44 (apV f p c true) (0, 0) _ (B0 + 1) 33 (bt [] [] 0 none 0 0) (0, 0) _ (.int .i64 0) rfl rfl rfl (unhide A5) (unhide B5) Try.underlying44 rfl sizeApp Try.underlying33 rfl sizeBatch) rfl ⟨rfl, unhide L5⟩
    · have hne : (err != 0) = true := by simpa [bne] using he
      clear hbad he
      go_wp2
      exact bodyPost_ret (results_cct rfl _ _ B0 44 (apV f p c b) (0, 0) _ (B0 + 1) 33 (bt [] [] 0 none 0 0) (0, 0) _ (.int .i64 err) rfl rfl rfl (unhide A5) (unhide B5) Try.underlying44 rfl sizeApp Try.underlying33 rfl sizeBatch) rfl ⟨rfl, unhide L5⟩

theorem ABox.otherA {w : World} {q b : Nat} {f p c : Int} {t : Bool} (h : ABox w b f p c t) (hne : b ≠ q) (f' p' c' : Int) (b' : Bool) : ABox ((((w.setCell ⟨q, 0, none⟩ (.int .i64 f')).setCell ⟨q, 1, none⟩ (.int .i64 p')).setCell ⟨q, 2, none⟩ (.int .i64 c')).setCell ⟨q, 3, none⟩ (.bool b')) b f p c t :=
  (((h.same (heap_setCell_other _ ⟨q, 0, none⟩ _ _ hne)).same (heap_setCell_other _ ⟨q, 1, none⟩ _ _ hne)).same (heap_setCell_other _ ⟨q, 2, none⟩ _ _ hne)).same (heap_setCell_other _ ⟨q, 3, none⟩ _ _ hne)
theorem ABox.four {w : World} {q : Nat} {f p c : Int} {b : Bool} (h : ABox w q f p c b) : w.cell? ⟨q, 0, none⟩ = some (.int .i64 f) ∧ w.cell? ⟨q, 1, none⟩ = some (.int .i64 p) ∧ w.cell? ⟨q, 2, none⟩ = some (.int .i64 c) ∧ w.cell? ⟨q, 3, none⟩ = some (.bool b) := ⟨h.cells.1, h.cells.2.1, h.cells.2.2.1, h.cells.2.2.2.1⟩

/-- Names, key and events with which a try goes well: P10.1. -/
def tryOk (I : Ix) (s : List UInt8) (ex : Int) (k : List UInt8) (es : List Evn) : Prop := okNames s k ∧ I.key k = none ∧ okEvs es ∧ ¬ ex < -1 ∧ (ex = -1 ∨ ex = (I.ver s : Int))
theorem tryA_ok {I : Ix} {s : List UInt8} {ex : Int} {k : List UInt8} {es : List Evn} (h : tryOk I s ex k es) : tryA I s ex k es = (apV (I.ver s) I.all.length es.length false, 0) := by
  obtain ⟨h1, h2, h3, h4, h5⟩ := h
  unfold tryA
  rw [if_neg (fun h' => h' h1), h2]
  simp only []
  rw [if_neg (fun h' => h' h3), if_neg h4, if_neg (fun h' => by rcases h5 with h5 | h5; exact h'.1 h5; exact h'.2 h5)]
theorem tryA_bad {I : Ix} {s : List UInt8} {ex : Int} {k : List UInt8} {es : List Evn} (h : ¬ tryOk I s ex k es) : ∃ (f p c : Int) (b : Bool) (err : Int), tryA I s ex k es = (apV f p c b, err) ∧ (err ≠ 0 ∨ b = true) := by
  unfold tryA
  by_cases h1 : okNames s k
  · rw [if_neg (fun h' => h' h1)]
    cases h2 : I.key k with
    | some d =>
      simp only []
      by_cases hd : d.s = s
      · rw [if_neg (fun h' => h' hd)]; exact ⟨_, _, _, _, _, rfl, .inr rfl⟩
      · rw [if_pos hd]; exact ⟨_, _, _, _, _, rfl, .inl (by decide)⟩
    | none =>
      simp only []
      by_cases h3 : okEvs es
      · rw [if_neg (fun h' => h' h3)]
        by_cases h4 : ex < -1
        · rw [if_pos h4]; exact ⟨_, _, _, _, _, rfl, .inl (by decide)⟩
        · rw [if_neg h4]
          by_cases h5 : ex ≠ -1 ∧ ex ≠ (I.ver s : Int)
          · rw [if_pos h5]; exact ⟨_, _, _, _, _, rfl, .inl (by decide)⟩
          · exact absurd ⟨h1, h2, h3, h4, by
              by_cases h6 : ex = -1
              · exact .inl h6
              · by_cases h7 : ex = (I.ver s : Int)
                · exact .inr h7
                · exact absurd ⟨h6, h7⟩ h5⟩ h
      · rw [if_pos h3]; exact ⟨_, _, _, _, _, rfl, .inl (by decide)⟩
  · rw [if_pos h1]; exact ⟨_, _, _, _, _, rfl, .inl (by decide)⟩

theorem far8 {w : World} {b q : Nat} (h0 : b ≠ q) (h1 : b ≠ q + 1) (f p c : Int) (t : Bool) (s' k' : List UInt8) (f' : Int) (v' : Value) : ((((((((w.setCell ⟨q, 0, none⟩ (.int .i64 f)).setCell ⟨q, 1, none⟩ (.int .i64 p)).setCell ⟨q, 2, none⟩ (.int .i64 c)).setCell ⟨q, 3, none⟩ (.bool t)).setCell ⟨q + 1, 0, none⟩ (sv s')).setCell ⟨q + 1, 1, none⟩ (sv k')).setCell ⟨q + 1, 2, none⟩ (.int .i64 f')).setCell ⟨q + 1, 3, none⟩ v').heap[b]? = w.heap[b]? := by
  rw [heap_setCell_other _ ⟨q + 1, 3, none⟩ _ _ h1, heap_setCell_other _ ⟨q + 1, 2, none⟩ _ _ h1, heap_setCell_other _ ⟨q + 1, 1, none⟩ _ _ h1, heap_setCell_other _ ⟨q + 1, 0, none⟩ _ _ h1, heap_setCell_other _ ⟨q, 3, none⟩ _ _ h0, heap_setCell_other _ ⟨q, 2, none⟩ _ _ h0, heap_setCell_other _ ⟨q, 1, none⟩ _ _ h0, heap_setCell_other _ ⟨q, 0, none⟩ _ _ h0]

/-- A batch that goes out: its events in memory of their own. -/
structure Got (w w' : World) (q : Nat) (es : List Evn) (ys : List (Evn × Nat)) : Prop where
  blk : EvBlk w' q es.length ys
  evs : ys.map (·.1) = es
  new : ∀ y ∈ ys, w.heap.size ≤ y.2
  hq : w.heap.size ≤ q

set_option maxRecDepth 20000 in
set_option maxHeartbeats 4000000 in
theorem Try_ok {w : World} {F : Nat → Prop} {x N : Nat} {I : Ix} (h : IxAt w F x N I) (s : List UInt8) (hs : s.length ≤ maxLen) (ex : Int) (k : List UInt8) (hk : k.length ≤ maxLen) (ea : Option Addr) (en ec : Nat) (es : List Evn) (hv : EvL w (.slice ea en ec) es) (hfit : ∀ e ∈ es, fitE e) (hf16 : ∀ e ∈ es, e.fields.length ≤ 16)
    (hok : tryOk I s ex k es) :
    Calls Try.prog 11 #[.pointer (some ⟨x, 0, none⟩), sv s, .int .i64 ex, sv k, .slice ea en ec] w fun e w' => ∃ q ys, e = .returned (.tuple #[.agg (apV (I.ver s) I.all.length es.length false), .agg (bt s k (I.ver s) (some ⟨q, 0, none⟩) es.length es.length), .int .i64 0]) ∧ Below w.heap.size w w' ∧ Got w w' q es ys := by
  obtain ⟨wa, hwa⟩ : ∃ wa, wa = (w.alloc (.cells (apV 0 0 0 false) 44)).alloc (.cells (bt [] [] 0 none 0 0) 33) := ⟨_, rfl⟩
  have za : wa.heap.size = w.heap.size + 2 := by rw [hwa]; simp
  have ba : Below w.heap.size w wa := by rw [hwa]; exact ((Below.refl _ _).alloc (Nat.le_refl _) _).alloc (by simp) _
  have a1 : ABox wa w.heap.size 0 0 0 false := by unfold ABox; rw [hwa, Below.heap_alloc _ _ _ (by simp)]; exact heap_alloc_self _ _
  have b1 : BBox wa (w.heap.size + 1) [] [] 0 (.slice none 0 0) := by unfold BBox; rw [hwa, show w.heap.size + 1 = (w.alloc (.cells (apV 0 0 0 false) 44)).heap.size by simp]; exact heap_alloc_self _ _
  obtain ⟨st, hx, _, mp, mk, xs, av, pf, D1, D2, hi⟩ := h.frame (w' := wa) fun q _ hl => ba.block q hl
  obtain ⟨a, n, hav⟩ := hi.avs
  subst hav
  have CN := hide (now_go hx hi.stc ⟨a, _, n, rfl⟩)
  have bw := (Below.refl wa.heap.size wa).alloc (Nat.le_refl _) (.cells (stV (.slice a xs.length n) (some mp) (some mk)) 68)
  have CT := hide (try_go (hi.frame (w' := wa.alloc (.cells (stV (.slice a xs.length n) (some mp) (some mk)) 68)) fun q _ hl => bw.block q hl) a xs.length n rfl s hs ex k hk ea en ec es ((hv.below ba (Nat.le_refl _)).below bw (Nat.le_refl _)) hfit)
  rw [tryA_ok hok] at CT
  obtain ⟨f, hf⟩ : ∃ f : Int, f = (I.ver s : Int) := ⟨_, rfl⟩
  obtain ⟨p, hp⟩ : ∃ p : Int, p = (I.all.length : Int) := ⟨_, rfl⟩
  obtain ⟨c, hc⟩ : ∃ c : Int, c = (es.length : Int) := ⟨_, rfl⟩
  rw [← hf, ← hp, ← hc] at CT
  rw [← hf, ← hp, ← hc]
  have HS : Hid (∀ W, Below (wa.alloc (.cells (stV (.slice a xs.length n) (some mp) (some mk)) 68)).heap.size (wa.alloc (.cells (stV (.slice a xs.length n) (some mp) (some mk)) 68)) W → TrSt w W f p c false) := hide (fun W hW => by
    have hz : (wa.alloc (.cells (stV (.slice a xs.length n) (some mp) (some mk)) 68)).heap.size = wa.heap.size + 1 := by simp
    have h2 := bw.trans (hW.mono (by omega))
    exact ⟨a1.same (h2.block _ (by omega)), b1.same (h2.block _ (by omega)), ba.trans (h2.mono (by omega)), by have := hW.size; omega⟩)
  have HV := hide hv
  have HF := hide hf16
  have H16 := hide hok.2.2.1.2.1
  obtain ⟨EN, hEN⟩ : ∃ EN, EN = es.length := ⟨_, rfl⟩
  have HEN := hide hEN
  rw [← hEN]
  clear hx hi bw h hv a1 b1 ba za hf hp hc hok hf16 hfit hEN
  go_enter Try.func11, Try.ntmps11
  go_wp2_with fail
  rw [← hwa]
  refine (unhide CN).mono ?_
  rintro e w1 ⟨rfl, rfl⟩
  clear CN hwa
  go_wp2_with fail
  refine (unhide CT).mono ?_
  rintro e w2 ⟨rfl, hb2⟩
  have st2 := unhide HS w2 hb2
  clear HS CT hb2
  dsimp only
  obtain ⟨B0, hB0⟩ : ∃ B0, B0 = w.heap.size := ⟨_, rfl⟩
  obtain ⟨w3, hw3⟩ : ∃ w3, w3 = w2.alloc (.cells (apV f p c false) 44) := ⟨_, rfl⟩
  obtain ⟨bx, hbx⟩ : ∃ bx, bx = w2.heap.size := ⟨_, rfl⟩
  have z3 : w3.heap.size = w2.heap.size + 1 := by rw [hw3]; simp
  have a3 : ABox w3 B0 0 0 0 false := by rw [hB0, hw3]; exact st2.a0.same (Below.heap_alloc _ _ _ (by have := st2.siz; omega))
  have b3 : BBox w3 (B0 + 1) [] [] 0 (.slice none 0 0) := by rw [hB0, hw3]; exact st2.b0.same (Below.heap_alloc _ _ _ (by have := st2.siz; omega))
  have x3 : ABox w3 bx f p c false := by rw [hw3, hbx]; exact heap_alloc_self _ _
  have bl3 : Below w.heap.size w w3 := by rw [hw3]; exact st2.bel.alloc (by have := st2.siz; omega) _
  have hz2 := st2.siz
  have CE := hide (eventsApart_go ea en ec es w3.drew (((unhide HV).below bl3 (Nat.le_refl _)).below (Below.refl _ w3).drew (Nat.le_refl _)) (unhide H16) (unhide HF))
  have HW : Hid (∀ W4 q ys, ApSt w3.drew W4 q es.length es.length es ys → ABox W4 B0 0 0 0 false ∧ BBox W4 (B0 + 1) [] [] 0 (.slice none 0 0) ∧ ABox W4 bx f p c false ∧ Below w.heap.size w W4 ∧ EvBlk W4 q es.length ys ∧ ys.map (·.1) = es ∧ (∀ y ∈ ys, w3.heap.size ≤ y.2) ∧ w3.heap.size ≤ q) := hide (fun W4 q ys ha => by
    have hb := ha.bel
    have e3 : w3.drew.heap.size = w3.heap.size := rfl
    refine ⟨a3.same (hb.block _ (by omega)), b3.same (hb.block _ (by omega)), x3.same (hb.block _ (by omega)), bl3.drew.trans (hb.mono (by have := bl3.size; omega)), ha.blk, by have := ha.evs; rwa [List.take_length] at this, ha.new, ha.hq⟩)
  have X3d : Hid (w3.drew.cell? ⟨bx, 0, none⟩ = some (.int .i64 f) ∧ w3.drew.cell? ⟨bx, 1, none⟩ = some (.int .i64 p) ∧ w3.drew.cell? ⟨bx, 2, none⟩ = some (.int .i64 c) ∧ w3.drew.cell? ⟨bx, 3, none⟩ = some (.bool false)) := hide x3.four
  have hne0 : bx ≠ B0 := by omega
  have hne1 : bx ≠ B0 + 1 := by omega
  have hbw : w.heap.size ≤ B0 := by omega
  have HB0 := hide hB0
  have HZ : Hid (w.heap.size ≤ w3.heap.size ∧ B0 + 1 < w3.heap.size) := hide ⟨by omega, by omega⟩
  obtain ⟨q0, q1, q2, q3, q4⟩ := x3.cells
  obtain ⟨r0, r1, r2, r3, r4⟩ := a3.cells
  clear st2 a3 b3 x3 bl3 z3 hz2
  go_upto_region 6 with fail
  rw [← hw3, ← hbx, ← hB0]
  clear hw3 hbx hB0
  go_region_held3 (fun w' => w'.cell? ⟨bx, 0, none⟩ = some (.int .i64 f) ∧ w'.cell? ⟨bx, 1, none⟩ = some (.int .i64 p) ∧ w'.cell? ⟨bx, 2, none⟩ = some (.int .i64 c) ∧ w'.cell? ⟨bx, 3, none⟩ = some (.bool false))
    (first | with_reducible exact unhide X3d | with_reducible exact (unhide X4).four | with_reducible exact (((unhide X4).otherA hne0 _ _ _ _)).four | with_reducible exact (((unhide X4).otherA hne0 _ _ _ _).other hne1 _ _ _ _).four)
    ((go_at_call 35; refine (unhide CE).mono ?_; rintro e w4 ⟨q, ys, rfl, hap⟩; have H4 := hide (unhide HW w4 q ys hap); obtain ⟨m0, m1, m2, m3, m4⟩ := (unhide H4).1.cells; obtain ⟨o0, o1, o2, o3, o4⟩ := ((unhide H4).2.1.other (q := B0) (by omega) f p c false).cells; have X4 := hide (unhide H4).2.2.1; clear hap))
  have h4 := unhide H4
  have A5 := hide ((h4.1.put f p c false).other (q := B0 + 1) (by omega) s k f (.slice (some ⟨q, 0, none⟩) es.length es.length))
  have B5 := hide ((h4.2.1.other (q := B0) (by omega) f p c false).put s k f (.slice (some ⟨q, 0, none⟩) es.length es.length))
  have L5 := hide (below_putB (below_put h4.2.2.2.1 (q := B0) hbw f p c false) (q := B0 + 1) (by omega) s k f (.slice (some ⟨q, 0, none⟩) es.length es.length))
  have G5 : Hid (Got w _ q es ys) := hide ⟨h4.2.2.2.2.1.same (far8 (b := q) (q := B0) (by have := unhide HZ; have := h4.2.2.2.2.2.2.2; omega) (by have := unhide HZ; have := h4.2.2.2.2.2.2.2; omega) f p c false s k f (.slice (some ⟨q, 0, none⟩) es.length es.length)) (fun y hy => far8 (b := y.2) (q := B0) (by have := unhide HZ; have := h4.2.2.2.2.2.2.1 y hy; omega) (by have := unhide HZ; have := h4.2.2.2.2.2.2.1 y hy; omega) f p c false s k f (.slice (some ⟨q, 0, none⟩) es.length es.length)), h4.2.2.2.2.2.1, fun y hy => by have := unhide HZ; have := h4.2.2.2.2.2.2.1 y hy; omega, by have := unhide HZ; have := h4.2.2.2.2.2.2.2; omega⟩
  clear h4
  go_wp2
  exact bodyPost_ret (results_cct rfl _ _ B0 44 (apV f p c false) (0, 0) _ (B0 + 1) 33 (bt s k f (some ⟨q, 0, none⟩) es.length es.length) (0, 0) _ (.int .i64 0) rfl rfl rfl (unhide A5) (unhide B5) Try.underlying44 rfl sizeApp Try.underlying33 rfl sizeBatch) rfl ⟨q, ys, by rw [unhide HEN], unhide L5, unhide G5⟩
end Go.Proofs.Ytabcmmhmghgliaa
