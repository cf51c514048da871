/-
  AllocApart: for every int and every slice of calls it returns true, and its arguments read as before. Conditions: none.
-/
import Derived.Test.YtakddbieldgblaaAopen
import Derived.Test.YtakddbieldgblaaApmath
import Derived.BigQuiet
namespace Go.Proofs.Ytakddbieldgblaa
open Go.ChangeShapes Go.WideShapes Go.ChangeAt Go.RowKit
set_option linter.unusedVariables false

def bls (f : Nat → Bool) (B : Nat) : List Value := (List.range B).map fun j => Value.bool (f j)
theorem bls_len (f : Nat → Bool) (B : Nat) : (bls f B).length = B := by simp [bls]
theorem bls_at (f : Nat → Bool) {B j : Nat} (h : j < B) : (bls f B)[j]? = some (Value.bool (f j)) := by simp [bls, h]
theorem bls_one (f : Nat → Bool) (B : Nat) : ∀ v ∈ bls f B, v.oneCell' = true := by
  intro v hv
  obtain ⟨n, _, rfl⟩ := List.mem_map.1 hv
  rfl
/-- A row of bools. -/
def BlRow (w : World) (g B : Nat) (f : Nat → Bool) : Prop := w.heap[g]? = some (.cells (bls f B).toArray 4 (0, 0))
theorem BlRow.cell {w : World} {g B : Nat} {f : Nat → Bool} (h : BlRow w g B f) {j : Nat} (hj : j < B) : w.cell? ⟨g, j, none⟩ = some (.bool (f j)) := by
  rw [cell_of_row _ _ _ _ _ _ h, List.getElem?_toArray, bls_at f hj]
theorem BlRow.frozen {w : World} {g B : Nat} {f : Nat → Bool} (h : BlRow w g B f) (j : Nat) : w.frozen? ⟨g, j, none⟩ = false := by simp [World.frozen?, show w.heap[g]? = _ from h]
theorem BlRow.of {w w' : World} {g B : Nat} {f : Nat → Bool} (h : BlRow w g B f) (e : w'.heap[g]? = w.heap[g]?) : BlRow w' g B f := e.trans h
theorem BlRow.set {w : World} {g B : Nat} {f : Nat → Bool} (h : BlRow w g B f) (k : Nat) (x : Bool) : BlRow (w.setCell ⟨g, k, none⟩ (.bool x)) g B (fun j => if j = k then x else f j) := by
  unfold BlRow
  rw [heap_setCell_same w g k _ _ _ h]
  congr 2
  apply Array.ext'
  rw [Array.toList_setIfInBounds]
  apply List.ext_getElem
  · simp [bls]
  · intro i h1 h2
    by_cases e : i = k
    · subst e; simp [bls]
    · rw [List.getElem_set_ne (fun h => e h.symm)]
      simp [bls, e]
theorem made_bools (n : Nat) : madeCells #[Value.bool false] n = (bls none? n).toArray := by
  apply Array.ext'
  rw [toList_madeCells_one]
  apply List.ext_getElem
  · simp [bls]
  · intro i h1 h2; simp [bls, none?]
theorem infoBool : (Try.prog.info? 4).map (fun i => (i.zero, i.size, i.bytes)) = some (some (.bool false), 1, 1) := by kernel_rfl
theorem run_make_bools (w : World) (m : Nat) (hm : m ≤ 512) : (Instr.makeSlice 48 (.int .i64 (m : Int)) (.int .i64 (m : Int))).run Try.prog w = .ok (.slice (some ⟨w.heap.size, 0, none⟩) m m) (w.alloc (.cells (bls none? m).toArray 4)) := by
  obtain ⟨i, hi, hh⟩ := Option.map_eq_some_iff.1 infoBool
  simp only [Prod.mk.injEq] at hh
  have h := run_make (P := Try.prog) w 48 4 i _ Try.underlying48 hi hh.1 .i64 .i64 m m (by omega) (Int.le_refl _) (by rw [hh.2.2]; omega) (by omega)
  rw [h, hh.2.1, Int.toNat_natCast, Nat.mul_one]
  show Result.ok _ (w.alloc (.cells (madeCells #[Value.bool false] m) 4)) = _
  rw [made_bools]

/-- A slice that reads as so many bools, in a block of its own. -/
def BSl (w : World) (v : Value) (B b nb : Nat) (f : Nat → Bool) : Prop :=
  ∃ g cap, v = .slice (some ⟨g, 0, none⟩) B cap ∧ B ≤ cap ∧ cap ≤ 9223372036854775807 ∧ g < w.heap.size ∧ g ≠ b ∧ g ≠ nb ∧ ∀ j, j < B → w.cell? ⟨g, j, none⟩ = some (.bool (f j))
theorem BSl.of {w w' : World} {v : Value} {B b nb : Nat} {f : Nat → Bool} (h : BSl w v B b nb f) (hs : w.heap.size ≤ w'.heap.size) (hk : ∀ q, q < w.heap.size → q ≠ b → q ≠ nb → w'.heap[q]? = w.heap[q]?) : BSl w' v B b nb f := by
  obtain ⟨g, cap, e, h1, h2, h3, h4, h5, h6⟩ := h
  exact ⟨g, cap, e, h1, h2, by omega, h4, h5, fun j hj => (World.cell?_of_block (hk g h3 h4 h5)).trans (h6 j hj)⟩

/-- Where the law stands between two calls. -/
structure PSt (w : World) (b nb B : Nat) (U V : Nat → Bool) (lv : Value) (X : World) : Prop where
  map : MapAt X b B U V
  now : BlRow X nb B U
  last : BSl X lv B b nb V
  old : w.grownBy X none
theorem PSt.step {w : World} {b nb B : Nat} {U V : Nat → Bool} {lv : Value} {X Y : World} (h : PSt w b nb B U V lv X) (hb : w.heap.size ≤ b) (hne : nb ≠ b) {U' V' : Nat → Bool} (hm : MapAt Y b B U' V') (hg : X.grownBy Y (some b)) : MapAt Y b B U' V' ∧ BlRow Y nb B U ∧ BSl Y lv B b nb V ∧ w.grownBy Y none :=
  ⟨hm, h.now.of (hg.block nb (lt_of_block h.now) (by simpa using hne)), h.last.of hg.size (fun q hq h1 _ => hg.block q hq (by simpa using h1)), h.old.andThen hg (fun j e => by cases e; exact .inl hb)⟩
theorem PSt.grown {w : World} {b nb B : Nat} {U V : Nat → Bool} {lv : Value} {X Y : World} (h : PSt w b nb B U V lv X) (hg : X.grownBy Y none) : PSt w b nb B U V lv Y :=
  ⟨h.map.grown hg (by simp), h.now.of (hg.block nb (lt_of_block h.now) (by simp)), h.last.of hg.size (fun q hq _ _ => hg.block q hq (by simp)), h.old.trans hg⟩

/-- Where the law stands among the runs that were taken: f is what it has marked. -/
structure QSt (w : World) (b nb B : Nat) (U V : Nat → Bool) (lv : Value) (base : Nat) (v : Value) (rs : List (Nat × Nat)) (f : Nat → Bool) (X : World) : Prop where
  map : MapAt X b B U V
  now : BlRow X nb B f
  last : BSl X lv B b nb V
  old : w.grownBy X none
  runs : ROwn X base v rs
theorem QSt.set {w : World} {b nb B : Nat} {U V : Nat → Bool} {lv : Value} {base : Nat} {v : Value} {rs : List (Nat × Nat)} {f : Nat → Bool} {X : World} (h : QSt w b nb B U V lv base v rs f X) (hb : nb ≠ b) (hw : w.heap.size ≤ nb) (k : Nat) (x : Bool) : QSt w b nb B U V lv base v rs (fun j => if j = k then x else f j) (X.setCell ⟨nb, k, none⟩ (.bool x)) :=
  ⟨h.map.of (Below.heap_setCell _ _ _ _ (fun e => hb e.symm)), h.now.set k x, h.last.of (by simp) (fun q hq _ h2 => Below.heap_setCell _ _ _ _ h2), h.old.andThen (setCell_grown X nb k _) (fun j e => by cases e; exact .inl hw), h.runs.kept (setCell_grown X nb k _) (fun q hq e => h.runs.ne hq h.now (by decide) (by simpa using e))⟩
theorem QSt.drewN {w : World} {b nb B : Nat} {U V : Nat → Bool} {lv : Value} {base : Nat} {v : Value} {rs : List (Nat × Nat)} {f : Nat → Bool} {X : World} (h : QSt w b nb B U V lv base v rs f X) (n : Nat) : QSt w b nb B U V lv base v rs f (X.drewN n) :=
  ⟨h.map.drewN n, h.now, h.last, grown_drewN h.old n, h.runs⟩

theorem AClL.at {w : World} {ao : Option Addr} {n cap : Nat} {l : List ACl} (h : AClL w (.slice ao n cap) l) {i : Nat} (hi : i < l.length) : ∃ b off, ao = some ⟨b, off, none⟩ ∧ AClAt w b (off + i * 3) l[i] := by
  obtain ⟨ao', cap', e, _, h4⟩ := h
  cases e
  obtain ⟨b, off, e2, _, h5⟩ := h4 (by omega)
  exact ⟨b, off, e2, h5 i hi⟩
theorem Give_one (w : World) (b B j : Nat) (v : Value) (U V : Nat → Bool) (h : MapAt w b B U V) (hj : j ≤ B) (hv : Rn w v [((j : Int), 1)]) :
    Calls Try.prog 17 #[.pointer (some ⟨b, 0, none⟩), v] w fun e w' => ((j < B ∧ U j = true ∧ e = .returned (.int .i64 0) ∧ MapAt w' b B (fun i => if i = j then false else U i) V) ∨ (¬ (j < B ∧ U j = true) ∧ e = .returned (.int .i64 51) ∧ MapAt w' b B U V)) ∧ w.grownBy w' (some b) := by
  refine (Give_any w b B v _ U V h hv).mono fun e w' h => ?_
  obtain ⟨h1, h2⟩ := h
  rw [give_one B j U hj] at h1
  refine ⟨?_, h2⟩
  rcases h1 with ⟨U', e1, e2, e3⟩ | ⟨e1, e2, e3⟩
  · split at e1
    · rename_i hc
      cases e1
      exact .inl ⟨hc.1, hc.2, e2, e3⟩
    · cases e1
  · split at e1
    · cases e1
    · rename_i hc
      exact .inr ⟨hc, e2, e3⟩

set_option maxRecDepth 100000 in
set_option maxHeartbeats 4000000 in
theorem Apart.walk (B0 : Int) (vs : Value) (ls : List ACl) (w : World) (hB0 : I64 B0) (hs : AClL w vs ls) :
    Calls Try.prog 5 #[.int .i64 B0, vs] w fun e w' => e = .returned (.bool true) ∧ Below w.heap.size w w' := by
  have HS := hide hs
  obtain ⟨so, scap, rfl, hs1, _⟩ := hs
  obtain ⟨b1, b2⟩ := hB0
  obtain ⟨ns, hns⟩ : ∃ n, n = ls.length := ⟨_, rfl⟩
  rw [← hns] at hs1 HS ⊢
  have Hns := hide hns
  have hsi : (ns : Int) ≤ 9223372036854775807 := by omega
  clear hns
  go_enter Try.func5, Try.ntmps5
  go_wp2_with fail
  refine (awake_ok _).mono ?_
  rintro e w1 ⟨rfl, g1⟩
  have G1 := hide g1
  clear g1
  go_wp2_with fail
  refine (Pick_any B0 513 w1 b1 b2 (by omega) (by omega)).mono ?_
  rintro e w1' ⟨B, rfl, hB, rfl⟩
  have hB5 : B ≤ 512 := by omega
  go_wp2_with fail
  refine (New_any B w1 hB5).mono ?_
  rintro e w2 ⟨rfl, m2, g2⟩
  obtain ⟨b, hb⟩ : ∃ b, b = w1.heap.size := ⟨_, rfl⟩
  rw [← hb] at m2 ⊢
  have mk1 := run_make_bools w2 B hB5
  have mk2 := run_make_bools (w2.alloc (.cells (bls none? B).toArray 4)) B hB5
  rw [World.size_alloc] at mk2
  have hP : PSt w b (w2.heap.size + 1) B none? none? (.slice (some ⟨w2.heap.size, 0, none⟩) B B) ((w2.alloc (.cells (bls none? B).toArray 4)).alloc (.cells (bls none? B).toArray 4)) := by
    have hbl := m2.lt
    have hg : w2.grownBy ((w2.alloc (.cells (bls none? B).toArray 4)).alloc (.cells (bls none? B).toArray 4)) none := (World.grownBy_alloc _ _ _).trans (World.grownBy_alloc _ _ _)
    refine ⟨m2.grown hg (by simp), ?_, ⟨w2.heap.size, B, rfl, by omega, by omega, by simp; omega, by omega, by omega, fun j hj => ?_⟩, ((unhide G1).trans g2).trans hg⟩
    · have := heap_alloc_new (w2.alloc (.cells (bls none? B).toArray 4)) (.cells (bls none? B).toArray 4)
      rw [World.size_alloc] at this
      exact this
    · have h1 : ((w2.alloc (.cells (bls none? B).toArray 4)).alloc (.cells (bls none? B).toArray 4)).heap[w2.heap.size]? = some (.cells (bls none? B).toArray 4) := (Below.heap_alloc _ _ _ (by simp)).trans (heap_alloc_new _ _)
      rw [cell_of_row _ _ _ _ _ _ h1, List.getElem?_toArray, bls_at _ hj]
  have hnbb : w2.heap.size + 1 ≠ b := by have := m2.lt; omega
  obtain ⟨nb, hnb⟩ : ∃ nb, nb = w2.heap.size + 1 := ⟨_, rfl⟩
  obtain ⟨X1, hX1⟩ : ∃ X1, X1 = w2.alloc (.cells (bls none? B).toArray 4) := ⟨_, rfl⟩
  obtain ⟨X2, hX2⟩ : ∃ X2, X2 = X1.alloc (.cells (bls none? B).toArray 4) := ⟨_, rfl⟩
  rw [← hX1, ← hX2] at hP
  rw [← hX1] at mk1 mk2
  rw [← hX2] at mk2
  rw [← hnb] at hP mk2 hnbb
  have HP := hide hP
  have HB : Hid (w.heap.size ≤ b) := hide (by rw [hb]; exact (unhide G1).size)
  have HNB := hide hnbb
  have HNW : Hid (w.heap.size ≤ nb) := hide (by have h5 := (unhide G1).size; have h6 := g2.size; omega)
  clear m2 g2 hb G1 hP hX1 hX2 hnb hnbb
  have hBi : (B : Int) ≤ 512 := by omega
  go_wp2
  go_loopw [7, 9] (fun lv i wr => ∃ (k : Nat) (U V : Nat → Bool), i = .int .i64 (k : Int) ∧ k ≤ 60 ∧ PSt w b nb B U V lv wr) (fun _ i _ => 60 - (intOf i).toNat)
  case atStart => exact ⟨0, none?, none?, rfl, by omega, unhide HP⟩
  case round =>
    obtain ⟨k, U, V, rfl, hk, hst⟩ := hrel
    clear HP mk1 mk2
    by_cases hlt : k < ns ∧ k < 60
    · have hl1 : (k : Int) < (ns : Int) := by omega
      have hl2 : (k : Int) < 60 := by omega
      have hkl : k < ls.length := by rw [← unhide Hns]; exact hlt.1
      obtain ⟨pb, off, rfl, hat0⟩ := (unhide HS).at hkl
      have hat := hat0.kept hst.old
      have c0 := hat.c0
      have c1 := hat.c1
      have i0 := hat.i0
      have i1 := hat.i1
      have HP := hide hst
      clear hlt hat hat0 hst
      go_wp2_with fail
      refine (Pick_any _ 3 wr i0.1 i0.2 (by omega) (by omega)).mono ?_
      rintro e wr' ⟨q, rfl, hq, rfl⟩
      have hq3 : q = 0 ∨ q = 1 ∨ q = 2 := by omega
      rcases hq3 with rfl | rfl | rfl
      · go_wp2_with fail
        refine (Pick_any _ 40 wr i1.1 i1.2 (by omega) (by omega)).mono ?_
        rintro e wr' ⟨n, rfl, hn4, rfl⟩
        go_wp2_with fail
        refine (Free_any wr b B U V (unhide HP).map).mono ?_
        rintro e y1 ⟨rfl, gy1⟩
        have HP1 := hide ((unhide HP).grown gy1)
        have htt := runsOf_total B U V
        clear gy1 c0 c1 HP
        go_wp2_with fail
        refine (Take_any y1 b B n U V (unhide HP1).map (by omega)).mono ?_
        rintro e y2 ⟨⟨v3, h3⟩, m3, g3⟩
        obtain ⟨_, n3, l3, o3⟩ := (unhide HP1).step (unhide HB) (unhide HNB) m3 g3
        have hfi : (total (runsOf B U V) : Int) ≤ 512 := by omega
        rcases h3 with ⟨rfl, hle, ho⟩ | ⟨rfl, hgt, rfl⟩
        · have hu : takeU B n U V = marks U (cut n (runsOf B U V)) := by rw [takeU, if_pos hle]
          rw [hu] at m3
          have HFB := hide (free_behind B n U V hle)
          have HTC : Hid (total (cut n (runsOf B U V)) = n) := hide (total_cut _ _ hle)
          have H1 : Hid (∀ x ∈ cut n (runsOf B U V), 1 ≤ x.2 ∧ x.1 + x.2 ≤ 512) := hide (fun x hx => ⟨cut_pos _ _ (fun y hy => (runsOf_in hB5 y hy).1) x hx, cut_in _ _ 512 (fun y hy => (runsOf_in hB5 y hy).2) x hx⟩)
          obtain ⟨rs, hrs⟩ : ∃ rs, rs = cut n (runsOf B U V) := ⟨_, rfl⟩
          have HTF : Hid (∀ (i : Nat) (hi : i < rs.length) (t : Nat), t < rs[i].2 → rs[i].1 + t < B ∧ V (rs[i].1 + t) = false ∧ mark (marks U (rs.take i)) (rs[i].1, t) (rs[i].1 + t) = false) := hide (by subst hrs; exact fun i hi t ht => taken_free B n U V i hi t ht)
          rw [← hrs] at m3 HFB HTC H1 ho
          have hbd : ∀ x ∈ rs, x.1 ≤ 512 ∧ x.2 ≤ 512 := fun x hx => by have := unhide H1 x hx; omega
          have hrn := ho.rn hbd
          obtain ⟨ao, cap, rfl, q1, q2, _, _⟩ := hrn
          have hml : (rs.map toI).length = rs.length := by simp
          obtain ⟨m, hm0⟩ : ∃ m, m = rs.length := ⟨_, rfl⟩
          rw [hml, ← hm0] at q1 ho ⊢
          have Hm := hide hm0
          have hmi : (m : Int) ≤ 9223372036854775807 := by omega
          have HQ0 : Hid (QSt w b nb B (marks U rs) V u7 y1.heap.size (.slice ao m cap) rs U y2) := hide ⟨m3, n3, l3, o3, ho⟩
          have hlei : (n : Int) ≤ (total (runsOf B U V) : Int) := by omega
          have hle' : (total (runsOf B U V) : Int) - (n : Int) = ((total (runsOf B U V) - n : Nat) : Int) := by omega
          obtain ⟨fr, hfr⟩ : ∃ fr, fr = total (runsOf B U V) := ⟨_, rfl⟩
          rw [← hfr] at hlei hle' HFB hfi ⊢
          have HLE := hide hle'
          have HBD := hide hbd
          clear m3 n3 l3 o3 g3 hu HP1 ho hrs hm0 hml hbd hle hfr htt hle'
          go_wp2
          go_loopw [14, 15] (fun many i wr => ∃ r : Nat, i = .int .i64 (r : Int) ∧ many = .int .i64 ((total (rs.take r) : Nat) : Int) ∧ r ≤ m ∧ QSt w b nb B (marks U rs) V u7 y1.heap.size (.slice ao m cap) rs (marks U (rs.take r)) wr) (fun _ i _ => m - (intOf i).toNat)
          case atStart => exact ⟨0, rfl, rfl, by omega, unhide HQ0⟩
          case round =>
            obtain ⟨r, rfl, rfl, hr, hq⟩ := hrel
            clear HQ0
            have htl : total (rs.take r) ≤ 512 := by have h5 := total_le_of_prefix (List.take_prefix r rs); have := unhide HTC; omega
            by_cases hlr : r < m
            · have hl3 : (r : Int) < (m : Int) := by omega
              have hrl : r < rs.length := by rw [← unhide Hm]; exact hlr
              obtain ⟨ao', cap', e', _, _, _, h4⟩ := hq.runs.rn (unhide HBD)
              have hml : (rs.map toI).length = rs.length := by simp
              obtain ⟨pb2, off2, hao, hpb, hcs⟩ := h4 (by omega)
              injection e' with ea eb ec
              have hao2 := ea.trans hao
              subst hao2
              clear hcs h4 ea eb ec hao
              have HRD : Hid (∀ X, ROwn X y1.heap.size (.slice (some ⟨pb2, off2, none⟩) m cap) rs → X.cell? ⟨pb2, off2 + r * 2, none⟩ = some (.int .i64 (rs[r].1 : Int)) ∧ X.cell? ⟨pb2, off2 + r * 2 + 1, none⟩ = some (.int .i64 (rs[r].2 : Int))) := hide (fun X hX => by
                obtain ⟨ao3, cap3, e3, _, _, _, h5⟩ := hX.rn (unhide HBD)
                injection e3 with f1 f2 f3
                have hml3 : (rs.map toI).length = rs.length := by simp
                obtain ⟨pb3, off3, e4, _, h6⟩ := h5 (by omega)
                have f4 := f1.trans e4
                cases f4
                have := h6 r (by omega)
                simpa [toI] using this)
              have hin := unhide H1 rs[r] (List.getElem_mem hrl)
              have HTR : Hid (∀ t, t < rs[r].2 → rs[r].1 + t < B ∧ V (rs[r].1 + t) = false ∧ mark (marks U (rs.take r)) (rs[r].1, t) (rs[r].1 + t) = false) := hide (unhide HTF r hrl)
              have HMS : Hid (mark (marks U (rs.take r)) rs[r] = marks U (rs.take (r + 1)) ∧ total (rs.take (r + 1)) = total (rs.take r) + rs[r].2) := hide (by
                rw [List.take_succ_eq_append_getElem hrl, marks_snoc, total_append]
                simp [total])
              obtain ⟨x, hx⟩ : ∃ x, x = rs[r] := ⟨_, rfl⟩
              rw [← hx] at HRD hin HTR HMS
              obtain ⟨x1, x2⟩ := x
              simp only at HRD hin HTR HMS
              obtain ⟨c0, c1⟩ := unhide HRD _ hq.runs
              obtain ⟨tt, htt0⟩ : ∃ tt, tt = total (rs.take r) := ⟨_, rfl⟩
              obtain ⟨f0, hf0⟩ : ∃ f0, f0 = marks U (rs.take r) := ⟨_, rfl⟩
              rw [← htt0] at HMS htl ⊢
              rw [← hf0] at HMS HTR hq
              have HQ := hide hq
              have b1' : (x1 : Int) ≤ 512 := by omega
              have b2' : (x2 : Int) ≤ 512 := by omega
              clear hx htt0 hf0 hq hml hlr
              go_wp2
              go_loopw [14, 16] (fun many j wr => ∃ t : Nat, j = .int .i64 ((x1 + t : Nat) : Int) ∧ many = .int .i64 ((tt + t : Nat) : Int) ∧ t ≤ x2 ∧ QSt w b nb B (marks U rs) V u7 y1.heap.size (.slice (some ⟨pb2, off2, none⟩) m cap) rs (mark f0 (x1, t)) wr) (fun _ j _ => x1 + x2 - (intOf j).toNat)
              case atStart => exact ⟨0, rfl, rfl, by omega, by rw [mark_nil]; exact unhide HQ⟩
              case round =>
                obtain ⟨t, rfl, rfl, ht, hq⟩ := hrel
                clear HQ c0 c1
                obtain ⟨c0, c1⟩ := unhide HRD _ hq.runs
                obtain ⟨jj, hjj⟩ : ∃ jj, jj = x1 + t := ⟨_, rfl⟩
                obtain ⟨mm, hmm⟩ : ∃ mm, mm = tt + t := ⟨_, rfl⟩
                rw [← hjj, ← hmm]
                have hji : (jj : Int) ≤ 512 := by omega
                have hmmi : (mm : Int) ≤ 1024 := by omega
                by_cases htx : t < x2
                · have d1 : decide ((jj : Int) < (x1 : Int) + (x2 : Int)) = true := decide_eq_true (by omega)
                  obtain ⟨hjB, hVj, hMj⟩ := unhide HTR t htx
                  rw [← hjj] at hjB hVj hMj
                  obtain ⟨gL, capL, hu7, e1, e2, e3, e4, e5, e6⟩ := hq.last
                  have cN := hq.now.cell hjB
                  rw [hMj] at cN
                  have cV := e6 jj hjB
                  rw [hVj] at cV
                  have cF := hq.now.frozen jj
                  have hjBi : (jj : Int) < (B : Int) := by omega
                  have HQ2 : Hid (∀ N, QSt w b nb B (marks U rs) V u7 y1.heap.size (.slice (some ⟨pb2, off2, none⟩) m cap) rs (mark f0 (x1, t + 1)) ((wr.drewN N).setCell ⟨nb, jj, none⟩ (.bool true))) := hide (fun N => by
                    have := (hq.drewN N).set (unhide HNB) (unhide HNW) jj true
                    rw [hjj, mark_step] at this
                    rw [hjj]; exact this)
                  have HJ := hide hjj
                  have HMm := hide hmm
                  subst hu7
                  clear hq hjj hmm e6
                  go_wp2_with fail
                  go_quiet (fail)
                  go_wp2
                  go_roundw
                  case rel => exact ⟨t + 1, by have := unhide HJ; congr 1; omega, by have := unhide HMm; congr 1; omega, by omega, unhide HQ2 _⟩
                  case measure => have := unhide HJ; simp [intOf]; omega
                · have d1 : decide ((jj : Int) < (x1 : Int) + (x2 : Int)) = false := decide_eq_false (by omega)
                  obtain rfl : t = x2 := by omega
                  have HQ2 : Hid (∀ N, QSt w b nb B (marks U rs) V u7 y1.heap.size (.slice (some ⟨pb2, off2, none⟩) m cap) rs (marks U (rs.take (r + 1))) (wr.drewN N)) := hide (fun N => by
                    have := hq.drewN N
                    rw [(unhide HMS).1] at this
                    exact this)
                  have HT2 : Hid (total (rs.take (r + 1)) = mm) := hide (by rw [(unhide HMS).2, hmm])
                  clear hq hjj hmm
                  go_wp2_with fail
                  go_quiet (fail)
                  go_wp2
                  go_roundw
                  case rel => exact ⟨r + 1, rfl, by rw [unhide HT2], by omega, unhide HQ2 _⟩
                  case measure => simp [intOf]; omega
            · obtain rfl : r = m := by omega
              have hl3 : ¬ (r : Int) < (r : Int) := by omega
              have htk : rs.take r = rs := List.take_of_length_le (by have := unhide Hm; omega)
              rw [htk] at hq htl ⊢
              rw [unhide HTC] at htl ⊢
              have HQ := hide hq
              clear hq hlr htk
              go_wp2_with fail
              refine (Free_any _ b B (marks U rs) V (unhide HQ).map).mono ?_
              rintro e y5 ⟨rfl, g5⟩
              rw [unhide HFB]
              have hfe : (((fr - n : Nat) : Int) != (fr : Int) - (n : Int)) = false := by rw [unhide HLE]; simp
              have HP5 : Hid (PSt w b nb B (marks U rs) V u7 y5) := hide (PSt.grown ⟨(unhide HQ).map, (unhide HQ).now, (unhide HQ).last, (unhide HQ).old⟩ g5)
              have hLE2 := unhide HLE
              clear g5 HQ
              go_wp2
              go_roundw
              case rel => exact ⟨k + 1, marks U rs, V, rfl, by omega, unhide HP5⟩
              case measure => simp [intOf]; omega
        · have hu : takeU B n U V = U := by rw [takeU, if_neg (by omega)]
          rw [hu] at m3
          have HP3 : Hid (PSt w b nb B U V u7 y2) := hide ⟨m3, n3, l3, o3⟩
          have hgi : ¬ (n : Int) ≤ (total (runsOf B U V) : Int) := by omega
          clear m3 n3 l3 o3 g3 hu HP1
          go_wp2
          go_loopw [14, 15] (fun many i wr => i = .int .i64 0 ∧ many = .int .i64 0 ∧ wr = y2) (fun _ _ _ => 0)
          case atStart => exact ⟨rfl, rfl, rfl⟩
          case round =>
            obtain ⟨rfl, rfl, rfl⟩ := hrel
            go_wp2
            go_roundw
            case rel => exact ⟨k + 1, U, V, rfl, by omega, unhide HP3⟩
            case measure => simp [intOf]; omega
      · have hB1 : (B : Int) + 1 ≤ 513 := by omega
        go_wp2_with fail
        refine (Pick_any _ ((B : Int) + 1) wr i1.1 i1.2 (by omega) (by omega)).mono ?_
        rintro e wr' ⟨z, rfl, hz, rfl⟩
        go_wp2_with fail
        have P1 := (unhide HP).grown (World.grownBy_alloc wr (.cells #[.int .i64 (z : Int), .int .i64 1] 36) none)
        refine (Give_one (wr.alloc (.cells #[.int .i64 (z : Int), .int .i64 1] 36)) b B z _ U V P1.map (by omega) (Rn.one wr (z : Int) 1 (by simp only [fits]; omega))).mono ?_
        rintro e w3 ⟨h3, g3⟩
        rcases h3 with ⟨hz1, hUz, rfl, m3⟩ | ⟨hno, rfl, m3⟩
        · obtain ⟨_, n3, l3, o3⟩ := P1.step (unhide HB) (unhide HNB) m3 g3
          have cU := n3.cell hz1
          rw [hUz] at cU
          have cf := n3.frozen z
          have hzi : (z : Int) < (B : Int) := by omega
          have HN3 : Hid (PSt w b nb B (fun i => if i = z then false else U i) V u7 (w3.setCell ⟨nb, z, none⟩ (.bool false))) := hide ⟨m3.of (Below.heap_setCell _ _ _ _ (fun e => unhide HNB e.symm)), n3.set z false, l3.of (by simp) (fun q hq _ h2 => Below.heap_setCell _ _ _ _ h2), o3.andThen (setCell_grown w3 nb z _) (fun j e => by cases e; exact .inl (unhide HNW))⟩
          clear m3 g3 n3 l3 o3 P1 c0 c1 HP
          go_wp2
          go_roundw
          case rel => exact ⟨k + 1, _, V, rfl, by omega, unhide HN3⟩
          case measure => simp [intOf]; omega
        · obtain ⟨_, n3, l3, o3⟩ := P1.step (unhide HB) (unhide HNB) m3 g3
          have HN3 : Hid (PSt w b nb B U V u7 w3) := hide ⟨m3, n3, l3, o3⟩
          by_cases hz1 : z < B
          · have hUz : U z = false := by
              cases h : U z with
              | false => rfl
              | true => exact absurd ⟨hz1, h⟩ hno
            have cU := n3.cell hz1
            rw [hUz] at cU
            have hzi : (z : Int) < (B : Int) := by omega
            clear m3 g3 n3 l3 o3 P1 c0 c1 HP hno
            go_wp2
            go_roundw
            case rel => exact ⟨k + 1, _, V, rfl, by omega, unhide HN3⟩
            case measure => simp [intOf]; omega
          · have hzi : ¬ (z : Int) < (B : Int) := by omega
            clear m3 g3 n3 l3 o3 P1 c0 c1 HP hno
            go_wp2
            go_roundw
            case rel => exact ⟨k + 1, _, V, rfl, by omega, unhide HN3⟩
            case measure => simp [intOf]; omega
      · go_wp2_with fail
        refine (Commit_any wr b B U V (unhide HP).map).mono ?_
        rintro e y ⟨⟨v3, rfl⟩, m3, g3⟩
        obtain ⟨_, n3, l3, o3⟩ := (unhide HP).step (unhide HB) (unhide HNB) m3 g3
        have hnl := lt_of_block n3
        have hbl := m3.lt
        have HY : Hid ((y.alloc (.cells #[] 4)).ownsRow y.heap.size 4 1 (.slice (some ⟨y.heap.size, 0, none⟩) 0 0) 0 []) := hide ⟨rfl, .inr ⟨y.heap.size, 0, #[], rfl, Nat.le_refl _, heap_alloc_new _ _, by omega, by simp [maxLen], rfl, rfl⟩⟩
        have HC : Hid (∀ j u, (bls U B)[j]? = some u → (y.alloc (.cells #[] 4)).cell? ((⟨nb, 0, none⟩ : Addr).add j) = some u) := hide (fun j u hj => by
          have hjB : j < B := by have := (List.getElem?_eq_some_iff.1 hj).1; rwa [bls_len] at this
          rw [bls_at U hjB] at hj
          cases hj
          rw [addr_add, Nat.zero_add]
          exact (World.grownBy_alloc y _ none).cell (n3.cell hjB) (by simp))
        have HB3 : Hid (y.heap.size ≤ (y.alloc (.cells #[] 4)).heap.size) := hide (by simp)
        have HM3 := hide m3
        have HN3 := hide n3
        have HO3 := hide o3
        obtain ⟨i00, hi, hz0, hz1, hz2⟩ := info_parts infoBool
        have HBl := hide (bls_len U B)
        have HO1 := hide (bls_one U B)
        clear m3 g3 n3 l3 o3 c0 c1 HP
        go_wp2_with (at_builtin; refine wpList_append_own _ rfl (.tmp 54) (.tmp 55) 48 rfl y.heap.size 4 i00 (.bool false) 1 1 Try.underlying48 hi hz0 hz1 hz2 rfl (by decide) (.slice (some ⟨y.heap.size, 0, none⟩) 0 0) 0 [] rfl (unhide HY) ⟨nb, 0, none⟩ B B (bls U B) rfl (by rw [unhide HBl, Nat.mul_one]) (unhide HC) (unhide HO1) (by unfold maxLen; omega) (by omega) (unhide HB3) ?_; intro v' y2 ho hgr hnil; have HO2 := hide ho; have HG2 := hide hgr; have HNi := hide hnil; clear ho hgr hnil)
        have hg2 : y.grownBy y2 none := (World.grownBy_alloc y (.cells #[] 4) none).andThen (unhide HG2) (fun j e => by cases e; exact .inl (Nat.le_refl _))
        have HP2 : Hid (PSt w b nb B U U v' y2) := hide (by
          refine ⟨(unhide HM3).grown hg2 (by simp), (unhide HN3).of (hg2.block nb hnl (by simp)), ?_, (unhide HO3).trans hg2⟩
          rcases (unhide HO2).2 with ⟨e, _⟩ | ⟨g, cap, cur, e, hbg, hgb, hn, hm, hs, ht⟩
          · exact absurd ((unhide HNi).1 e).1 (fun h => by cases h)
          · refine ⟨g, cap, by rw [e, Nat.zero_add], by omega, by unfold maxLen at hm; omega, lt_of_block hgb, by omega, by omega, fun j hj => ?_⟩
            rw [cell_of_row _ _ _ _ _ _ hgb]
            have e2 : (cur.toList.take ((0 + B) * 1))[j]? = (bls U B)[j]? := by rw [ht]; simp
            rw [List.getElem?_take_of_lt (by omega), bls_at U hj] at e2
            simpa using e2)
        clear HM3 HN3 HO3 HO2 HG2 HNi HY HC hg2
        go_roundw
        case rel => exact ⟨k + 1, U, U, rfl, by omega, unhide HP2⟩
        case measure => simp [intOf]; omega
    · have HP := hide hst
      clear hst
      have hout : ¬ ((k : Int) < (ns : Int) ∧ (k : Int) < 60) := by omega
      have HL : Hid (∀ K : Prop, ((¬ (k : Int) < (ns : Int)) → K) → (((k : Int) < (ns : Int) ∧ ¬ (k : Int) < 60) → K) → K) := hide (fun K h1 h2 => by
        by_cases e : (k : Int) < (ns : Int)
        · exact h2 ⟨e, fun h => hout ⟨e, h⟩⟩
        · exact h1 e)
      clear hlt hout
      refine unhide HL _ ?_ ?_
      all_goals intro hx
      all_goals try obtain ⟨hx1, hx2⟩ := hx
      all_goals go_wp2_with fail
      all_goals refine (Commit_any wr b B U V (unhide HP).map).mono ?_
      all_goals rintro e y ⟨⟨v3, rfl⟩, m3, g3⟩
      all_goals obtain ⟨_, n3, l3, o3⟩ := (unhide HP).step (unhide HB) (unhide HNB) m3 g3
      all_goals have HM3 := hide m3
      all_goals have HN3 := hide n3
      all_goals have HO3 := hide o3
      all_goals clear m3 g3 n3 l3 o3 HP
      all_goals go_wp2
      all_goals
        go_loopw [19, 20] (fun many i wr => ∃ t : Nat, i = .int .i64 (t : Int) ∧ many = .int .i64 ((((List.range t).filter U).length : Nat) : Int) ∧ t ≤ B ∧ wr = y) (fun _ i _ => B - (intOf i).toNat)
        case atStart => exact ⟨0, rfl, rfl, by omega, rfl⟩
        case round =>
          obtain ⟨t, rfl, rfl, ht, rfl⟩ := hrel
          have hle : ((List.range t).filter U).length ≤ t := by have := List.length_filter_le U (List.range t); simpa using this
          obtain ⟨cn, hcn⟩ : ∃ cn, cn = ((List.range t).filter U).length := ⟨_, rfl⟩
          rw [← hcn] at hle ⊢
          have HCn := hide hcn
          clear hcn
          by_cases htB : t < B
          · have hti : (t : Int) < (B : Int) := by omega
            have cU := (unhide HN3).cell htB
            have hci : (cn : Int) ≤ 512 := by omega
            have ht5 : (t : Int) ≤ 512 := by omega
            cases hU : U t with
            | true =>
              rw [hU] at cU
              have HC2 : Hid (cn + 1 = ((List.range (t + 1)).filter U).length) := hide (by rw [List.range_succ, List.filter_append, List.length_append, ← unhide HCn]; simp [hU])
              go_wp2
              go_roundw
              case rel => exact ⟨t + 1, rfl, by rw [← unhide HC2]; rfl, by omega, trivial⟩
              case measure => simp [intOf]; omega
            | false =>
              rw [hU] at cU
              have HC2 : Hid (cn = ((List.range (t + 1)).filter U).length) := hide (by rw [List.range_succ, List.filter_append, List.length_append, ← unhide HCn]; simp [hU])
              go_wp2
              go_roundw
              case rel => exact ⟨t + 1, rfl, by rw [← unhide HC2], by omega, trivial⟩
              case measure => simp [intOf]; omega
          · obtain rfl : t = B := by omega
            have hti : ¬ (t : Int) < (t : Int) := by omega
            have hfl : total (runsOf t U U) + cn = t := by rw [unhide HCn]; exact free_last t U
            go_wp2_with fail
            refine (Free_any _ b t U U (unhide HM3)).mono ?_
            rintro e y2 ⟨rfl, g2⟩
            have heq : (total (runsOf t U U) : Int) = (t : Int) - (cn : Int) := by omega
            rw [heq]
            have HG := hide ((unhide HO3).trans g2)
            clear g2 heq hfl
            go_wp2
            go_ret
            exact ⟨by simp, below_of_grown (unhide HG)⟩

set_option maxRecDepth 100000 in
theorem Apart.lifted (os : Os) (started : os.Started) (H : Type) (enc : TypeId × Value → H) :
    ReturnsInHanded {} Try.checked os 5 .any (Rows.allocApartSpec.pre6 enc Try.prog Try.f5 Rows.allocApartRow.domain false) (Rows.allocApartSpec.post enc Try.prog Try.f5 false true false false) := by
  refine returnsInHanded_of_change (C := Try.checked) own_knob started (by kernel_rfl) Try.func5
    (ChangeSpec.witness6 (enc := enc) (C := Try.checked) false ⟨#[], #[.int .i64 0, .slice none 0 0], []⟩ 8 (by kernel_rfl) (by kernel_rfl) (by kernel_rfl) (by kernel_rfl)) ?_
  intro W base args ds gs before hval0 hW hcnd _
  have hval : ∀ (j : Nat) t v, Try.f5.params[j]? = some t → args[j]? = some v → Value.okWide Try.prog W .any base t v := hval0
  have hW' := hW
  obtain ⟨p, q, hA0, hV, rfl, hfz, hnd⟩ := hW
  have hA : DataW.TrodAll enc Try.prog W 0 (fun _ => true) true Try.f5.params.toList args.toList ds p := hA0
  rw [Try.params5] at hA hval
  obtain ⟨v0, v1, d0, d1, p0, p1, rfl, rfl, rfl, h0, h1⟩ := trodAll_two hA
  obtain ⟨rfl, rfl⟩ := trodVars_none hV
  obtain ⟨a0, rfl, rfl, rfl, w0⟩ := open_int Try.underlying3 (hval 0 3 v0 rfl rfl) h0
  have k1 := h1
  have lt1 : ∀ x ∈ p1, x.block < W.heap.size := by obtain ⟨m, hm⟩ := k1; exact DataW.trod_lt m _ _ _ hm
  obtain ⟨a1, len1, cap1, rfl⟩ := okWide_slice Try.underlying22 (hval 1 22 v1 rfl rfl)
  obtain ⟨l1, hl1⟩ := open_acalls h1
  have b0 := bounds_i64 w0
  clear hA0 hval0
  refine (Apart.walk a0 _ l1 W ⟨by omega, by omega⟩ hl1).mono fun e W' ⟨he, bel⟩ => ?_
  subst he
  exact ⟨_, rfl, _, _, _, [], _, [], hW', trodAll_mk1 (shut_bool Try.underlying4 _), (trodAll_cons_mk (shut_int Try.underlying3 w0) (trodAll_cons_mk (Below.trod laid_out (by kernel_rfl) (of_decide_eq_true (by kernel_rfl)) k1 bel lt1) trodAll_mk0)), rfl, bel.frame _, fun h => by cases h⟩

theorem allocApart_holds : Rows.AllocApartSaid :=
  OpenClaim.holds_of_wide 5 Try.f5 rfl rfl rfl rfl rfl rfl rfl ⟨rfl, rfl, rfl, rfl, rfl⟩ rfl rfl rfl rfl rfl (by kernel_rfl) Try.func5 (by kernel_rfl)
    (of_decide_eq_true (by kernel_rfl)) (by unfold Func.isWrapper; first | (rw [if_pos (by decide +kernel)]; kernel_rfl) | (rw [if_neg (by decide +kernel)]; exact ⟨rfl, rfl⟩))
    (fun os started H enc _ => Apart.lifted os started H enc)
#print axioms allocApart_holds
end Go.Proofs.Ytakddbieldgblaa
