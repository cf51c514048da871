/-
  DERIVED. The walk of Index.Add.
-/
import Derived.Test.YtabcmmhmghgliaaXtr
namespace Go.Proofs.Ytabcmmhmghgliaa
open Go.RowKit Go.Maps
set_option linter.unusedVariables false

/-- The index's memory told otherwise. -/
theorem IxIn.wide {w : World} {F G : Nat → Prop} {st mp mk N : Nat} {I : Ix} {xs : List (Ent × Nat)} {av : Value} {pf : List UInt8 → Value} {D1 D2 : DataW Value} (h : IxIn w F st mp mk N I xs av pf D1 D2) (hFG : ∀ q, F q → q < w.heap.size → G q) : IxIn w G st mp mk N I xs av pf D1 D2 :=
  { h with
    fds := fun x hx => ⟨(h.fds x hx).1, (h.fds x hx).2.1, hFG _ (h.fds x hx).2.2 (h.fds x hx).1.lt⟩
    fst := hFG _ h.fst (lt_of_block h.stc)
    fmp := hFG _ h.fmp h.mpo.lt
    fmk := hFG _ h.fmk h.mko.lt
    fav := fun q hq => hFG _ (h.fav q hq) (by obtain ⟨cur, hc⟩ := ownsRow_mark h.row hq; exact lt_of_block hc)
    fpf := fun s q hq => hFG _ (h.fpf s q hq) (by obtain ⟨cur, hc⟩ := ownsRow_mark (h.rows s) hq; exact lt_of_block hc) }
theorem IxIn.without {w : World} {F : Nat → Prop} {st mp mk N x : Nat} {I : Ix} {xs : List (Ent × Nat)} {av : Value} {pf : List UInt8 → Value} {D1 D2 : DataW Value} {cs : Array Value} (h : IxIn w F st mp mk N I xs av pf D1 D2) (hx : w.heap[x]? = some (.cells cs 56 (0, 0))) : IxIn w (fun q => F q ∧ q ≠ x) st mp mk N I xs av pf D1 D2 :=
  { h with
    fds := fun y hy => ⟨(h.fds y hy).1, (h.fds y hy).2.1, (h.fds y hy).2.2, (h.fds y hy).1.kind hx (by decide)⟩
    fst := ⟨h.fst, mark_ne hx h.stc (by decide)⟩
    fmp := ⟨h.fmp, fun e => map_ne h.mpo hx e.symm⟩
    fmk := ⟨h.fmk, fun e => map_ne h.mko hx e.symm⟩
    fav := fun q hq => ⟨h.fav q hq, by obtain ⟨cur, hc⟩ := ownsRow_mark h.row hq; exact mark_ne hx hc (by decide)⟩
    fpf := fun s q hq => ⟨h.fpf s q hq, by obtain ⟨cur, hc⟩ := ownsRow_mark (h.rows s) hq; exact mark_ne hx hc (by decide)⟩ }

/-- Events that stay while nothing but the index's memory turns. -/
def EvFar (F : Nat → Prop) (w : World) (ea : Option Addr) (en ec : Nat) (es : List Evn) : Prop :=
  (∀ A : World, w.heap.size ≤ A.heap.size → (∀ k, k < w.heap.size → ¬ F k → A.heap[k]? = w.heap[k]?) → EvL A (.slice ea en ec) es) ∧ ∀ b off, ea = some ⟨b, off, none⟩ → en ≠ 0 → b < w.heap.size ∧ ¬ F b
theorem EvFar.evl {F : Nat → Prop} {w : World} {ea : Option Addr} {en ec : Nat} {es : List Evn} (h : EvFar F w ea en ec es) : EvL w (.slice ea en ec) es := h.1 w (Nat.le_refl _) fun _ _ _ => rfl

set_option maxRecDepth 20000 in
set_option maxHeartbeats 4000000 in
theorem Add_bad {w : World} {F : Nat → Prop} {x N : Nat} {I : Ix} (h : IxAt w F x N I) (s : List UInt8) (hs : s.length ≤ maxLen) (fi : Int) (k : List UInt8) (hk : k.length ≤ maxLen) (ea : Option Addr) (en ec : Nat) (es : List Evn) (hv : EvL w (.slice ea en ec) es) (hfit : ∀ e ∈ es, fitE e) (err : Int) (hA : chkA I s k fi es = err) (hbad : err ≠ 0) :
    Calls Try.prog 13 #[.pointer (some ⟨x, 0, none⟩), .agg (bt s k fi ea en ec)] w fun e w' => e = .returned (.int .i64 err) ∧ Below w.heap.size w w' := by
  obtain ⟨w1, hw1⟩ : ∃ w1, w1 = w.alloc (.cells (bt s k fi ea en ec) 33) := ⟨_, rfl⟩
  have z1 : w1.heap.size = w.heap.size + 1 := by rw [hw1]; simp
  have b1 : Below w.heap.size w w1 := by rw [hw1]; exact (Below.refl _ _).alloc (Nat.le_refl _) _
  have x1 : BBox w1 w.heap.size s k fi (.slice ea en ec) := by unfold BBox; rw [hw1]; exact heap_alloc_self _ _
  have bd := b1.drew
  obtain ⟨st, hx, _, mp, mk, xs, av, pf, D1, D2, hi⟩ := h.frame (w' := w1.drew) fun q _ hl => bd.block q hl
  obtain ⟨a, n, hav⟩ := hi.avs
  subst hav
  have CN := hide (now_go hx hi.stc ⟨a, _, n, rfl⟩)
  have bw := (Below.refl w1.drew.heap.size w1.drew).alloc (Nat.le_refl _) (.cells (stV (.slice a xs.length n) (some mp) (some mk)) 68)
  have CK := hide (check_go (hi.frame (w' := w1.drew.alloc (.cells (stV (.slice a xs.length n) (some mp) (some mk)) 68)) fun q _ hl => bw.block q hl) a xs.length n rfl s hs fi k hk ea en ec es ((hv.below bd (Nat.le_refl _)).below bw (Nat.le_refl _)) hfit)
  rw [hA] at CK
  obtain ⟨B, hB⟩ : ∃ B, B = w.heap.size := ⟨_, rfl⟩
  rw [← hB] at x1
  have hd : w1.drew.heap.size = w1.heap.size := rfl
  have c0 : Hid (w1.drew.cell? ⟨B, 0, none⟩ = some (sv s) ∧ w1.drew.cell? ⟨B, 1, none⟩ = some (sv k) ∧ w1.drew.cell? ⟨B, 2, none⟩ = some (.int .i64 fi) ∧ w1.drew.cell? ⟨B, 3, none⟩ = some (.slice ea en ec)) := hide ⟨x1.cells.1, x1.cells.2.1, x1.cells.2.2.1, x1.cells.2.2.2.1⟩
  have HC : Hid (∀ A, Below w1.drew.heap.size w1.drew A → A.cell? ⟨B, 0, none⟩ = some (sv s) ∧ A.cell? ⟨B, 1, none⟩ = some (sv k) ∧ A.cell? ⟨B, 2, none⟩ = some (.int .i64 fi) ∧ A.cell? ⟨B, 3, none⟩ = some (.slice ea en ec)) := hide (fun A hA => by
    have y := x1.same (w' := A) (hA.block B (by omega))
    exact ⟨y.cells.1, y.cells.2.1, y.cells.2.2.1, y.cells.2.2.2.1⟩)
  have c1 : Hid (∀ W, W = w1.drew.alloc (.cells (stV (.slice a xs.length n) (some mp) (some mk)) 68) → W.cell? ⟨B, 0, none⟩ = some (sv s) ∧ W.cell? ⟨B, 1, none⟩ = some (sv k) ∧ W.cell? ⟨B, 2, none⟩ = some (.int .i64 fi) ∧ W.cell? ⟨B, 3, none⟩ = some (.slice ea en ec)) := hide (fun W hW => by rw [hW]; exact unhide HC _ bw)
  have CK2 : Hid (∀ W, W = w1.drew.alloc (.cells (stV (.slice a xs.length n) (some mp) (some mk)) 68) → Calls Try.prog 36 #[.agg (stV (.slice a xs.length n) (some mp) (some mk)), .agg (bt s k fi ea en ec)] W fun e w' => e = .returned (.int .i64 err) ∧ Below (w1.drew.alloc (.cells (stV (.slice a xs.length n) (some mp) (some mk)) 68)).heap.size (w1.drew.alloc (.cells (stV (.slice a xs.length n) (some mp) (some mk)) 68)) w') := hide (fun W hW => by rw [hW]; exact unhide CK)
  clear CK
  have c2 : Hid (∀ A, Below (w1.drew.alloc (.cells (stV (.slice a xs.length n) (some mp) (some mk)) 68)).heap.size (w1.drew.alloc (.cells (stV (.slice a xs.length n) (some mp) (some mk)) 68)) A → (A.cell? ⟨B, 0, none⟩ = some (sv s) ∧ A.cell? ⟨B, 1, none⟩ = some (sv k) ∧ A.cell? ⟨B, 2, none⟩ = some (.int .i64 fi) ∧ A.cell? ⟨B, 3, none⟩ = some (.slice ea en ec)) ∧ Below w.heap.size w A) := hide (fun A hA => by
    have h2 := bw.trans (hA.mono bw.size)
    exact ⟨unhide HC A h2, bd.trans (h2.mono (by omega))⟩)
  have hne : (err != 0) = true := by simpa [bne] using hbad
  clear hx hi bw bd b1 z1 h hv hA hbad hfit x1 hd
  go_enter Try.func13, Try.ntmps13
  go_upto_region 3 with fail
  rw [← hw1, ← hB]
  clear hw1 hB
  go_region_held3 (fun w' => w'.cell? ⟨B, 0, none⟩ = some (sv s) ∧ w'.cell? ⟨B, 1, none⟩ = some (sv k) ∧ w'.cell? ⟨B, 2, none⟩ = some (.int .i64 fi) ∧ w'.cell? ⟨B, 3, none⟩ = some (.slice ea en ec))
    (first | with_reducible exact unhide c0 | with_reducible exact unhide c11 | with_reducible exact (unhide c3).1)
    ((first
      | (go_at_call 25; refine (unhide CN).mono ?_; rintro e w2 ⟨rfl, hw2⟩; have HW2 := hide hw2; have c11 := hide (unhide c1 w2 hw2); clear hw2)
      | (go_at_call 36; refine (unhide CK2 w2 (unhide HW2)).mono ?_; rintro e w3 ⟨rfl, hb3⟩; have c3 := hide (unhide c2 w3 hb3); clear hb3)))
  all_goals
    have HL := hide (unhide c3).2
    clear c3 c2 c1 c0 c11 HC CN CK2 HW2
    go_wp2
    go_ret
    exact ⟨rfl, unhide HL⟩

set_option maxRecDepth 20000 in
set_option maxHeartbeats 4000000 in
theorem Add_ok {w : World} {F : Nat → Prop} {x N : Nat} {I : Ix} (h : IxAt w F x N I) (hFl : ∀ q, F q → q < w.heap.size) (hN : N < 1000000) (s : List UInt8) (hs : s.length ≤ maxLen) (fi : Nat) (hfi : (fi : Int) < 4611686018427387904) (k : List UInt8) (hk : k.length ≤ maxLen) (ea : Option Addr) (en ec : Nat) (es : List Evn) (hv : EvFar F w ea en ec es) (hfit : ∀ e ∈ es, fitE e) (hf16 : ∀ e ∈ es, e.fields.length ≤ 16) (hA : chkA I s k fi es = 0) (h16 : es.length ≤ 16) (h1 : 1 ≤ es.length) :
    Calls Try.prog 13 #[.pointer (some ⟨x, 0, none⟩), .agg (bt s k fi ea en ec)] w fun e w' => e = .returned (.int .i64 0) ∧ Kept F w w' ∧ IxAt w' (fun q => (F q ∨ w.heap.size ≤ q) ∧ q < w'.heap.size) x (N + 1 + es.length) (I.added s k fi es) := by
  obtain ⟨w1, hw1⟩ : ∃ w1, w1 = w.alloc (.cells (bt s k fi ea en ec) 33) := ⟨_, rfl⟩
  have z1 : w1.heap.size = w.heap.size + 1 := by rw [hw1]; simp
  have b1 : Below w.heap.size w w1 := by rw [hw1]; exact (Below.refl _ _).alloc (Nat.le_refl _) _
  have x1 : BBox w1 w.heap.size s k fi (.slice ea en ec) := by unfold BBox; rw [hw1]; exact heap_alloc_self _ _
  have bd := b1.drew
  obtain ⟨st, hx, _, mp, mk, xs, av, pf, D1, D2, hi⟩ := h.frame (w' := w1.drew) fun q _ hl => bd.block q hl
  obtain ⟨a, n, hav⟩ := hi.avs
  subst hav
  have CN := hide (now_go hx hi.stc ⟨a, _, n, rfl⟩)
  have bw := (Below.refl w1.drew.heap.size w1.drew).alloc (Nat.le_refl _) (.cells (stV (.slice a xs.length n) (some mp) (some mk)) 68)
  have CK := hide (check_go (hi.frame (w' := w1.drew.alloc (.cells (stV (.slice a xs.length n) (some mp) (some mk)) 68)) fun q _ hl => bw.block q hl) a xs.length n rfl s hs fi k hk ea en ec es ((hv.evl.below bd (Nat.le_refl _)).below bw (Nat.le_refl _)) hfit)
  rw [hA] at CK
  obtain ⟨B, hB⟩ : ∃ B, B = w.heap.size := ⟨_, rfl⟩
  rw [← hB] at x1
  have hd : w1.drew.heap.size = w1.heap.size := rfl
  have c0 : Hid (w1.drew.cell? ⟨B, 0, none⟩ = some (sv s) ∧ w1.drew.cell? ⟨B, 1, none⟩ = some (sv k) ∧ w1.drew.cell? ⟨B, 2, none⟩ = some (.int .i64 (fi : Int)) ∧ w1.drew.cell? ⟨B, 3, none⟩ = some (.slice ea en ec)) := hide ⟨x1.cells.1, x1.cells.2.1, x1.cells.2.2.1, x1.cells.2.2.2.1⟩
  have HC : Hid (∀ A, Below w1.drew.heap.size w1.drew A → A.cell? ⟨B, 0, none⟩ = some (sv s) ∧ A.cell? ⟨B, 1, none⟩ = some (sv k) ∧ A.cell? ⟨B, 2, none⟩ = some (.int .i64 (fi : Int)) ∧ A.cell? ⟨B, 3, none⟩ = some (.slice ea en ec)) := hide (fun A hA => by
    have y := x1.same (w' := A) (hA.block B (by omega))
    exact ⟨y.cells.1, y.cells.2.1, y.cells.2.2.1, y.cells.2.2.2.1⟩)
  have c1 : Hid (∀ W, W = w1.drew.alloc (.cells (stV (.slice a xs.length n) (some mp) (some mk)) 68) → W.cell? ⟨B, 0, none⟩ = some (sv s) ∧ W.cell? ⟨B, 1, none⟩ = some (sv k) ∧ W.cell? ⟨B, 2, none⟩ = some (.int .i64 (fi : Int)) ∧ W.cell? ⟨B, 3, none⟩ = some (.slice ea en ec)) := hide (fun W hW => by rw [hW]; exact unhide HC _ bw)
  have CK2 : Hid (∀ W, W = w1.drew.alloc (.cells (stV (.slice a xs.length n) (some mp) (some mk)) 68) → Calls Try.prog 36 #[.agg (stV (.slice a xs.length n) (some mp) (some mk)), .agg (bt s k fi ea en ec)] W fun e w' => e = .returned (.int .i64 0) ∧ Below (w1.drew.alloc (.cells (stV (.slice a xs.length n) (some mp) (some mk)) 68)).heap.size (w1.drew.alloc (.cells (stV (.slice a xs.length n) (some mp) (some mk)) 68)) w') := hide (fun W hW => by rw [hW]; exact unhide CK)
  clear CK
  have c2 : Hid (∀ A, Below (w1.drew.alloc (.cells (stV (.slice a xs.length n) (some mp) (some mk)) 68)).heap.size (w1.drew.alloc (.cells (stV (.slice a xs.length n) (some mp) (some mk)) 68)) A → (A.cell? ⟨B, 0, none⟩ = some (sv s) ∧ A.cell? ⟨B, 1, none⟩ = some (sv k) ∧ A.cell? ⟨B, 2, none⟩ = some (.int .i64 (fi : Int)) ∧ A.cell? ⟨B, 3, none⟩ = some (.slice ea en ec)) ∧ Below w.heap.size w A ∧ Below w1.drew.heap.size w1.drew A) := hide (fun A hA => by
    have h2 := bw.trans (hA.mono bw.size)
    exact ⟨unhide HC A h2, bd.trans (h2.mono (by omega)), h2⟩)
  have hFB : ¬ F B := fun hb => by have := hFl B hb; omega
  have hxl : x < w1.drew.heap.size := lt_of_block hx
  have xc : w1.drew.cell? ⟨x, 0, none⟩ = some (.pointer (some ⟨st, 0, none⟩)) := (cell_of_row _ _ _ _ _ _ hx).trans rfl
  have hxB : x ≠ B := by
    obtain ⟨st', hx', _⟩ := id h
    have := lt_of_block hx'
    omega
  -- the state's add, whatever lies between
  have CA : Hid (∀ A, Below w1.drew.heap.size w1.drew A → (A.cell? ⟨x, 0, none⟩ = some (.pointer (some ⟨st, 0, none⟩))) ∧ Calls Try.prog 37 #[.pointer (some ⟨st, 0, none⟩), .agg (bt s k fi ea en ec)] A fun e w' => e = .returned (.tuple #[]) ∧ (w'.cell? ⟨x, 0, none⟩ = some (.pointer (some ⟨st, 0, none⟩)) ∧ w'.cell? ⟨B, 0, none⟩ = some (sv s) ∧ w'.cell? ⟨B, 1, none⟩ = some (sv k) ∧ w'.cell? ⟨B, 2, none⟩ = some (.int .i64 (fi : Int)) ∧ w'.cell? ⟨B, 3, none⟩ = some (.slice ea en ec)) ∧ Kept F w w' ∧ IxAt w' (fun q => (F q ∨ w.heap.size ≤ q) ∧ q < w'.heap.size) x (N + 1 + es.length) (I.added s k fi es)) := hide (fun A hA => by
    have hxA : A.heap[x]? = some (.cells #[.pointer (some ⟨st, 0, none⟩)] 56 (0, 0)) := (hA.block x hxl).trans hx
    have xA : A.cell? ⟨x, 0, none⟩ = some (.pointer (some ⟨st, 0, none⟩)) := (cell_of_row _ _ _ _ _ _ hxA).trans rfl
    have bA : Below w.heap.size w A := bd.trans (hA.mono (by omega))
    have zA := hA.size
    refine ⟨xA, ?_⟩
    have iA := (hi.frame (w' := A) fun q _ hl => hA.block q hl).without hxA
    have far : ∀ A', Kept (fun q => (F q ∧ q ≠ x) ∨ A.heap.size < q) (A.alloc (.cells (bt s k fi ea en ec) 33)) A' → w.heap.size ≤ A'.heap.size ∧ ∀ j, j < w.heap.size → ¬ F j → A'.heap[j]? = w.heap[j]? := fun A' hk => by
      have z2 : (A.alloc (.cells (bt s k fi ea en ec) 33)).heap.size = A.heap.size + 1 := by simp
      have := hk.size
      refine ⟨by omega, fun j hj hn => ?_⟩
      exact (hk.block j (by omega) (fun hg => by rcases hg with hg | hg; exact hn hg.1; omega)).trans ((Below.heap_alloc _ _ _ (by omega)).trans (bA.block j hj))
    refine (add_go iA s hs k hk fi hfi ea en ec es (fun q => (F q ∧ q ≠ x) ∨ A.heap.size < q) (fun q => Iff.rfl) (fun q hq => by have := hFl q hq.1; omega) (fun A' hk' => hv.1 A' (far A' hk').1 (far A' hk').2) (fun A' hk' b off hea => ?_) h16 hf16 hN).mono ?_
    · obtain ⟨hb1, hb2⟩ := hv.2 b off hea (by obtain ⟨_, _, e, _⟩ := hv.evl; cases e; omega)
      have z2 : (A.alloc (.cells (bt s k fi ea en ec) 33)).heap.size = A.heap.size + 1 := by simp
      exact hk'.block b (by omega) (fun hg => by rcases hg with hg | hg; exact hb2 hg.1; omega)
    · rintro e w4 ⟨rfl, k4, xs', av', pf', D1', D2', i4⟩
      have zk := k4.size
      have hx4 : w4.heap[x]? = some (.cells #[.pointer (some ⟨st, 0, none⟩)] 56 (0, 0)) := (k4.block x (by omega) (fun hf => hf.2 rfl)).trans hxA
      have hB4 : BBox w4 B s k fi (.slice ea en ec) := x1.same ((k4.block B (by omega) (fun hf => hFB hf.1)).trans (hA.block B (by omega)))
      have hfx := (by obtain ⟨st', _, hf, _⟩ := id h; exact hf : F x)
      refine ⟨rfl, ⟨(cell_of_row _ _ _ _ _ _ hx4).trans rfl, hB4.cells.1, hB4.cells.2.1, hB4.cells.2.2.1, hB4.cells.2.2.2.1⟩, (Kept.of_below bA).trans (k4.mono (fun q _ hq => hq.1)), st, hx4, ⟨.inl hfx, lt_of_block hx4⟩, mp, mk, xs', av', pf', D1', D2', i4.wide (fun q hq hl => ⟨hq.imp (fun h => h.1) (fun h => by omega), hl⟩)⟩)
  clear hx hi bw bd b1 z1 h hv hA hfit x1 hd hf16 hFB hxB xc hxl hFl h16 h1
  go_enter Try.func13, Try.ntmps13
  go_upto_region 3 with fail
  rw [← hw1, ← hB]
  clear hw1 hB
  go_region_held3 (fun w' => w'.cell? ⟨B, 0, none⟩ = some (sv s) ∧ w'.cell? ⟨B, 1, none⟩ = some (sv k) ∧ w'.cell? ⟨B, 2, none⟩ = some (.int .i64 (fi : Int)) ∧ w'.cell? ⟨B, 3, none⟩ = some (.slice ea en ec))
    (first | with_reducible exact unhide c0 | with_reducible exact unhide c11 | with_reducible exact (unhide c3).1)
    ((first
      | (go_at_call 25; refine (unhide CN).mono ?_; rintro e w2 ⟨rfl, hw2⟩; have HW2 := hide hw2; have c11 := hide (unhide c1 w2 hw2); clear hw2)
      | (go_at_call 36; refine (unhide CK2 w2 (unhide HW2)).mono ?_; rintro e w3 ⟨rfl, hb3⟩; have c3 := hide (unhide c2 w3 hb3); clear hb3)))
  all_goals
    have c33 := unhide c3
    have CA3 := hide (unhide CA w3 c33.2.2)
    have CA3d := hide (unhide CA w3.drew (c33.2.2.drew))
    clear c3 c2 c1 c0 c11 HC CN CK2 HW2 CA
    have y0 := (unhide CA3).1
    have y1 := hide ((unhide CA3d).1)
    have y2 := hide c33.1
    obtain ⟨g0, g1, g2, g3⟩ := c33.1
    clear c33
    go_upto_region 8 with fail
    clear y0 g0 g1 g2 g3
    go_region_held3 (fun w' => w'.cell? ⟨x, 0, none⟩ = some (.pointer (some ⟨st, 0, none⟩)) ∧ w'.cell? ⟨B, 0, none⟩ = some (sv s) ∧ w'.cell? ⟨B, 1, none⟩ = some (sv k) ∧ w'.cell? ⟨B, 2, none⟩ = some (.int .i64 (fi : Int)) ∧ w'.cell? ⟨B, 3, none⟩ = some (.slice ea en ec))
      (first | exact ⟨unhide y1, unhide y2⟩ | exact unhide y4)
      ((go_at_call 37; refine (unhide CA3d).2.mono ?_; rintro e w4 ⟨rfl, h4, h5, h6⟩; have y4 := hide h4; have HE := hide (And.intro h5 h6); clear h4 h5 h6))
    go_wp2
    go_ret
    exact ⟨rfl, unhide HE⟩
end Go.Proofs.Ytabcmmhmghgliaa
