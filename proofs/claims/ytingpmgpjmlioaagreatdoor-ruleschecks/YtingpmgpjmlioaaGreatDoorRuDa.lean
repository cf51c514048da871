/-
  DERIVED. The walks of handlerOf, need and allHold.
-/
import Derived.Test.YtingpmgpjmlioaaGreatDoorRuT
import Derived.Test.YtingpmgpjmlioaaGreatDoorRuY
namespace Go.Proofs.YtingpmgpjmlioaaGreatDoor
open Go.RowKit
set_option linter.unusedVariables false

theorem boxes2 (w : World) (o1 o2 : Obj) : ((w.alloc o1).alloc o2).heap[w.heap.size]? = some o1 ∧ ((w.alloc o1).alloc o2).heap[w.heap.size + 1]? = some o2 := by
  constructor
  · exact (Below.heap_alloc _ _ _ (by simp)).trans (heap_alloc_new w _)
  · have := heap_alloc_new (w.alloc o1) o2
    rwa [World.size_alloc] at this
theorem boxes3 (w : World) (o1 o2 o3 : Obj) : (((w.alloc o1).alloc o2).alloc o3).heap[w.heap.size]? = some o1 ∧ (((w.alloc o1).alloc o2).alloc o3).heap[w.heap.size + 1]? = some o2 ∧ (((w.alloc o1).alloc o2).alloc o3).heap[w.heap.size + 2]? = some o3 := by
  obtain ⟨h1, h2⟩ := boxes2 w o1 o2
  refine ⟨(Below.heap_alloc _ _ _ (by simp; omega)).trans h1, (Below.heap_alloc _ _ _ (by simp)).trans h2, ?_⟩
  have := heap_alloc_new ((w.alloc o1).alloc o2) o3
  rwa [World.size_alloc, World.size_alloc] at this
theorem below2 (w : World) (o1 o2 : Obj) : Below w.heap.size w ((w.alloc o1).alloc o2) := ((Below.refl _ w).alloc (Nat.le_refl _) _).alloc (by simp) _
theorem below3 (w : World) (o1 o2 o3 : Obj) : Below w.heap.size w (((w.alloc o1).alloc o2).alloc o3) := (below2 w o1 o2).alloc (below2 w o1 o2).size _
abbrev put3 (w : World) (q : Nat) (x0 x1 x2 : Value) : World := ((w.setCell ⟨q, 0, none⟩ x0).setCell ⟨q, 1, none⟩ x1).setCell ⟨q, 2, none⟩ x2
theorem row_put3 {w : World} {q : Nat} {y0 y1 y2 : Value} {t : TypeId} (h : w.heap[q]? = some (.cells #[y0, y1, y2] t (0, 0))) (x0 x1 x2 : Value) : (put3 w q x0 x1 x2).heap[q]? = some (.cells #[x0, x1, x2] t (0, 0)) := by
  rw [heap_setCell_same _ q 2 _ _ _ (heap_setCell_same _ q 1 _ _ _ (heap_setCell_same w q 0 _ _ _ h))]
  rfl
theorem below_put3 {B : Nat} {a w : World} (h : Below B a w) {q : Nat} (hq : B ≤ q) (x0 x1 x2 : Value) : Below B a (put3 w q x0 x1 x2) :=
  ((h.setCell (p := ⟨q, 0, none⟩) hq _).setCell (p := ⟨q, 1, none⟩) hq _).setCell (p := ⟨q, 2, none⟩) hq _
theorem cells3 {w : World} {q : Nat} {y0 y1 y2 : Value} {t : TypeId} (h : w.heap[q]? = some (.cells #[y0, y1, y2] t (0, 0))) : w.cell? ⟨q, 0, none⟩ = some y0 ∧ w.cell? ⟨q, 1, none⟩ = some y1 ∧ w.cell? ⟨q, 2, none⟩ = some y2 ∧ ∀ i, w.frozen? ⟨q, i, none⟩ = false :=
  ⟨(cell_of_row _ _ _ _ _ _ h).trans rfl, (cell_of_row _ _ _ _ _ _ h).trans rfl, (cell_of_row _ _ _ _ _ _ h).trans rfl, fun i => by simp [World.frozen?, h]⟩
theorem rowKept {B : Nat} {w w' : World} {q : Nat} {o : Obj} (h : w.heap[q]? = some o) (hb : Below B w w') (hB : w.heap.size ≤ B) : w'.heap[q]? = some o := (hb.block q (by have := (Array.getElem?_eq_some_iff.1 h).1; omega)).trans h

abbrev ha0 : Array Value := #[.string ⟨#[]⟩, .slice none 0 0, .slice none 0 0]
theorem sizeHandler : (Tryz.prog.info? 62).map (·.size) = some 3 := by kernel_rfl
/-- What handlerOf comes to. -/
def EndsH (w : World) (r : Option HaV) (e : Ending) (w' : World) : Prop :=
  (match r with
    | some h => e = .returned (.agg h.v)
    | none => e = pan 136) ∧ Below w.heap.size w w'
theorem find_at {hs : List HaV} {cmd : List UInt8} {k : Nat} {h : HaV} (hn : ∀ a ∈ hs.take k, a.cmd ≠ cmd) (hk : hs[k]? = some h) (he : h.cmd = cmd) : hs.find? (fun h => h.cmd == cmd) = some h := by
  obtain ⟨hl, hx⟩ := List.getElem?_eq_some_iff.1 hk
  rw [List.find?_eq_some_iff_getElem]
  refine ⟨by simpa using he, k, hl, hx, fun j hj => ?_⟩
  have := hn (hs[j]'(by omega)) (by
    rw [List.mem_iff_getElem?]
    exact ⟨j, by rw [List.getElem?_take_of_lt hj, List.getElem?_eq_getElem (by omega)]⟩)
  simpa using this
theorem find_none {hs : List HaV} {cmd : List UInt8} (hn : ∀ a ∈ hs, a.cmd ≠ cmd) : hs.find? (fun h => h.cmd == cmd) = none := by
  rw [List.find?_eq_none]; intro a ha; simpa using hn a ha
theorem take_ne {hs : List HaV} {cmd : List UInt8} {k : Nat} {h : HaV} (hn : ∀ a ∈ hs.take k, a.cmd ≠ cmd) (hk : hs[k]? = some h) (he : h.cmd ≠ cmd) : ∀ a ∈ hs.take (k + 1), a.cmd ≠ cmd := by
  intro u hu
  rw [List.take_add_one, hk] at hu
  rcases List.mem_append.1 hu with hu | hu
  · exact hn u hu
  · simp at hu; rw [hu]; exact he

set_option maxRecDepth 20000 in
set_option maxHeartbeats 4000000 in
theorem handlerOf_any (ha : Option Addr) (hc : Nat) (hs : List HaV) (va : Option Addr) (vn vc : Nat) (cmd : List UInt8) (w : World) (ht : SlOf 3 HaR w (.slice ha hs.length hc) hs) :
    Calls Tryz.prog 35 #[.agg (rulV ha hs.length hc va vn vc), sv cmd] w (EndsH w (hs.find? (fun h => h.cmd == cmd))) := by
  obtain ⟨-, hl1, hl2⟩ := ht.len
  have hb2 := below2 w (.cells (rulV ha hs.length hc va vn vc) 25) (.cells ha0 62)
  obtain ⟨hR2, hE2⟩ := boxes2 w (.cells (rulV ha hs.length hc va vn vc) 25) (.cells ha0 62)
  obtain ⟨w2, hw2⟩ : ∃ w2, w2 = (w.alloc (.cells (rulV ha hs.length hc va vn vc) 25)).alloc (.cells ha0 62) := ⟨_, rfl⟩
  rw [← hw2] at hb2 hR2 hE2
  have HW := hide hw2
  have HB2 := hide hb2
  have HE2 := hide hE2
  have HT := hide (ht.grown (fun _ _ _ _ _ => HaR.grown) hb2)
  obtain ⟨r0, -⟩ : w2.cell? ⟨w.heap.size, 0, none⟩ = some (.slice ha hs.length hc) ∧ True := ⟨(cell_of_row _ _ _ _ _ _ hR2).trans rfl, trivial⟩
  obtain ⟨R, hR⟩ : ∃ R, R = hs.find? (fun h => h.cmd == cmd) := ⟨_, rfl⟩
  rw [← hR]
  have HR := hide hR
  obtain ⟨N, hN⟩ : ∃ N, N = hs.length := ⟨_, rfl⟩
  have HN := hide hN
  rw [← hN] at hl1 r0 HT HW ⊢
  obtain ⟨B, hB⟩ : ∃ B, B = w.heap.size := ⟨_, rfl⟩
  have HBe := hide hB
  have hBw : w.heap.size ≤ B + 1 := by omega
  rw [← hB] at r0
  rw [← hB] at HE2
  clear ht hR hN hw2 hb2 hR2 hE2 hB
  go_enter Tryz.func35, Tryz.ntmps35
  go_upto_region 1 with fail
  rw [show (w.alloc (.cells #[Value.slice ha N hc, .slice va vn vc] 25)).alloc (.cells #[Value.string ⟨#[]⟩, .slice none 0 0, .slice none 0 0] 62) = w2 from (unhide HW).symm]
  rw [← unhide HBe]
  go_wp2_with fail
  clear r0
  go_loopw [6, 10] (fun _ i wr => ∃ (k : Nat), k ≤ N ∧ i = .int .i64 k ∧ Hid (∀ a ∈ hs.take k, a.cmd ≠ cmd) ∧ Hid (Below w2.heap.size w2 wr)) (fun _ i _ => N - (intOf i).toNat)
  case atStart => exact ⟨0, by omega, rfl, hide (fun u hu => by simp at hu), hide (Below.refl _ _)⟩
  case round =>
    obtain ⟨k, hk, rfl, HA, HB⟩ := hrel
    by_cases hlt : k < N
    · obtain ⟨h, huk⟩ : ∃ u, hs[k]? = some u := ⟨_, List.getElem?_eq_getElem (by have := unhide HN; omega)⟩
      obtain ⟨b, off, rfl, -, d0, d1, d2, -⟩ := ((unhide HT).grown (fun _ _ _ _ _ => HaR.grown) (unhide HB)).at huk
      go_upto_region 4 with fail
      have hb4 : Below wr.heap.size wr (wr.alloc (.cells h.v 62)) := (Below.refl _ _).alloc (Nat.le_refl _) _
      have hx4 : (wr.alloc (.cells h.v 62)).heap[wr.heap.size]? = some (.cells h.v 62) := heap_alloc_new _ _
      have hb24 := (unhide HB).trans (hb4.mono (unhide HB).size)
      have he4 := rowKept (unhide HE2) hb24 (Nat.le_refl _)
      obtain ⟨w4, hw4⟩ : ∃ w4, w4 = wr.alloc (.cells h.v 62) := ⟨_, rfl⟩
      rw [show wr.alloc (.cells #[Value.string ⟨h.cmd.toArray⟩, .slice h.na h.needs.length h.nc, .slice h.ca h.cases.length h.cc] 62) = w4 from hw4.symm]
      rw [← hw4] at hx4 hb24 he4
      obtain ⟨p4, hp4⟩ : ∃ p4, p4 = wr.heap.size := ⟨_, rfl⟩
      rw [← hp4] at hx4 ⊢
      clear hb4 hw4 hp4 d0 d1 d2
      obtain ⟨x0, x1, x2, -⟩ := cells3 hx4
      have HB4 := hide hb24
      clear hx4 hb24
      by_cases hx : h.cmd = cmd
      · have HF := hide ((unhide HR).trans (find_at (unhide HA) huk hx))
        obtain ⟨e0, e1, e2, ef⟩ := cells3 he4
        have HP := hide (row_put3 he4 (sv h.cmd) (.slice h.na h.needs.length h.nc) (.slice h.ca h.cases.length h.cc))
        have HBP := hide (below_put3 (unhide HB2 |>.trans ((unhide HB4).mono (unhide HB2).size)) hBw (sv h.cmd) (.slice h.na h.needs.length h.nc) (.slice h.ca h.cases.length h.cc))
        subst hx
        clear huk he4
        go_wp2_with fail
        exact bodyPost_ret (results_cell_row rfl _ _ (B + 1) 62 h.v (0, 0) _ rfl (unhide HP) Tryz.underlying62 rfl sizeHandler) rfl ⟨by rw [unhide HF], unhide HBP⟩
      · have hx' : (h.cmd == cmd) = false := by simp [hx]
        have HA2 := hide (take_ne (unhide HA) huk hx)
        clear huk he4
        go_wp2_with fail
        go_roundw
        case rel => exact ⟨k + 1, by omega, by go_num, HA2, HB4⟩
        case measure => simp [intOf]; omega
    · have HF := hide ((unhide HR).trans (find_none (hs := hs) (cmd := cmd) (fun u hu => unhide HA u (by rw [List.take_of_length_le (by have := unhide HN; omega)]; exact hu))))
      go_wp2_with fail
      exact ⟨rfl, by rw [unhide HF]; exact ⟨rfl, (unhide HB2).trans ((unhide HB).mono (unhide HB2).size)⟩⟩

/-! ### need -/
/-- What need comes to. -/
def EndsU (w : World) (r : Except Int Unit) (e : Ending) (w' : World) : Prop :=
  (match r with
    | .ok _ => e = .returned (.tuple #[])
    | .error n => e = pan n) ∧ Below w.heap.size w w'

set_option maxRecDepth 20000 in
set_option maxHeartbeats 4000000 in
theorem need_any (S : Sc) (a : Option Addr) (c : Nat) (l : List Ne) (w : World) (hl : SlOf 2 NeAt w (.slice a l.length c) l) (hS : S.at w) :
    Calls Tryz.prog 36 #[.agg (scv S), .slice a l.length c] w (EndsU w (needR S.given l)) := by
  obtain ⟨-, hl1, hl2⟩ := hl.len
  have hb2 : Below w.heap.size w (w.alloc (.cells (scv S) 82)) := (Below.refl _ _).alloc (Nat.le_refl _) _
  have hs2 := SBox.new w S
  have hg63 : S.given.length ≤ 9223372036854775807 := by
    obtain ⟨_, _, e, h1, h2, _⟩ := hS.gv
    cases e; omega
  obtain ⟨w2, hw2⟩ : ∃ w2, w2 = w.alloc (.cells (scv S) 82) := ⟨_, rfl⟩
  rw [← hw2] at hb2 hs2
  have HW := hide hw2
  have HB2 := hide hb2
  have HS2 := hide hs2
  have HL := hide (hl.grown (fun _ _ _ _ _ => NeAt.grown) hb2)
  have HG : Hid (∀ (W : World) (nm : List UInt8), Below w2.heap.size w2 W → Calls Tryz.prog 78 #[.slice S.ga S.given.length S.gc, sv nm] W fun e w' => e = .returned (.tuple #[.agg (fv (getA S.given nm)), .bool (hasF S.given nm)]) ∧ Below W.heap.size W w') := hide (fun W nm hW => Get_any _ _ _ _ nm W ((hS.gv.below hb2 (Nat.le_refl _)).below hW (Nat.le_refl _)))
  obtain ⟨R, hR⟩ : ∃ R, R = needR S.given l := ⟨_, rfl⟩
  rw [← hR]
  have HR := hide hR
  clear hR
  obtain ⟨N, hN⟩ : ∃ N, N = l.length := ⟨_, rfl⟩
  obtain ⟨M, hM⟩ : ∃ M, M = S.given.length := ⟨_, rfl⟩
  obtain ⟨G, hG⟩ : ∃ G, G = S.given := ⟨_, rfl⟩
  obtain ⟨s0, s1, s2, s3, -⟩ := hs2.cells
  have HS3 : Hid (∀ W, Below w2.heap.size w2 W → W.cell? ⟨w.heap.size, 2, none⟩ = some (.slice S.ga M S.gc)) := hide (fun W hW => by
    have := (hs2.below hW (Nat.le_refl _)).cells.2.2.1
    rwa [← hM] at this)
  rw [← hN] at hl1 HL ⊢
  rw [← hM] at s2 hg63 HG
  rw [← hG] at HG
  have HN := hide hN
  obtain ⟨B, hB⟩ : ∃ B, B = w.heap.size := ⟨_, rfl⟩
  have HBe := hide hB
  rw [← hB] at s0 s1 s2 s3 HS3
  obtain ⟨st, sl, gl, sa, sc, ga, gc, mp⟩ := S
  simp only at s0 s1 s2 s3 hM hG hg63 HG HS3 HR
  simp only [scv] at HW ⊢
  subst hG
  rw [← hM] at HW ⊢
  have HM := hide hM
  clear hl hS hw2 hb2 hs2 hN hB HS2 s0 s1 s3 hM
  go_enter Tryz.func36, Tryz.ntmps36
  go_upto_region 1 with fail
  rw [show w.alloc (.cells #[Value.string ⟨st.toArray⟩, .slice sa sl.length sc, .slice ga M gc, .map (some mp)] 82) = w2 from (unhide HW).symm]
  rw [← unhide HBe]
  by_cases hne : M = N
  · subst hne
    go_wp2_with fail
    clear s2
    go_loopw [5, 6, 7, 17] (fun _ _ _ i wr => ∃ (k : Nat), k ≤ M ∧ i = .int .i64 k ∧ Hid ((l.take k).all (needOk G) = true) ∧ Hid (Below w2.heap.size w2 wr)) (fun _ _ _ i _ => M - (intOf i).toNat)
    case atStart => exact ⟨0, by omega, rfl, hide (by simp), hide (Below.refl _ _)⟩
    case round =>
      obtain ⟨k, hk, rfl, HA, HB⟩ := hrel
      by_cases hlt : k < M
      · obtain ⟨⟨nm, tx⟩, huk⟩ : ∃ u, l[k]? = some u := ⟨_, List.getElem?_eq_getElem (by have := unhide HN; omega)⟩
        obtain ⟨b, off, rfl, -, d0, d1⟩ := ((unhide HL).grown (fun _ _ _ _ _ => NeAt.grown) (unhide HB)).at huk
        simp only at d0 d1
        go_upto_region 6 with fail
        have hb4 : Below wr.heap.size wr (wr.alloc (.cells #[sv nm, .bool tx] 96)) := (Below.refl _ _).alloc (Nat.le_refl _) _
        have hx4 : (wr.alloc (.cells #[sv nm, .bool tx] 96)).heap[wr.heap.size]? = some (.cells #[sv nm, .bool tx] 96) := heap_alloc_new _ _
        have hb24 := (unhide HB).trans (hb4.mono (unhide HB).size)
        obtain ⟨w4, hw4⟩ : ∃ w4, w4 = wr.alloc (.cells #[sv nm, .bool tx] 96) := ⟨_, rfl⟩
        rw [show wr.alloc (.cells #[Value.string ⟨nm.toArray⟩, .bool tx] 96) = w4 from hw4.symm]
        rw [← hw4] at hx4 hb24
        obtain ⟨p4, hp4⟩ : ∃ p4, p4 = wr.heap.size := ⟨_, rfl⟩
        rw [← hp4] at hx4 ⊢
        have x0 : w4.cell? ⟨p4, 0, none⟩ = some (sv nm) := (cell_of_row _ _ _ _ _ _ hx4).trans rfl
        have HX4 := hide hx4
        have HB4 := hide hb24
        have s2 := unhide HS3 w4 hb24
        have HC := hide (unhide HG w4 nm hb24)
        clear hb4 hw4 hp4 d0 d1 hx4 hb24
        obtain ⟨F, hF⟩ : ∃ F, F = getA G nm := ⟨_, rfl⟩
        obtain ⟨H, hH⟩ : ∃ H, H = hasF G nm := ⟨_, rfl⟩
        rw [← hF, ← hH] at HC
        have HOk := hide (show needOk G ⟨nm, tx⟩ = (H && (F.text == tx)) by unfold needOk; rw [hF, hH])
        clear hF hH
        obtain ⟨fn, ft, fi, fz⟩ := F
        go_upto_region 7 with (go_at_call 78; refine (unhide HC).mono ?_; rintro e w5 ⟨rfl, b5⟩; have HB5 := hide ((unhide HB4).trans (b5.mono (unhide HB4).size)); have HX5 := hide (rowKept (unhide HX4) b5 (Nat.le_refl _)); clear b5)
        have hb6 : Below w5.heap.size w5 (w5.alloc (.cells (fv ⟨fn, ft, fi, fz⟩) 48)) := (Below.refl _ _).alloc (Nat.le_refl _) _
        have hx6 := rowKept (unhide HX5) hb6 (Nat.le_refl _)
        have hf6 := FBox.new w5 ⟨fn, ft, fi, fz⟩
        have HB6 := hide ((unhide HB5).trans (hb6.mono (unhide HB5).size))
        obtain ⟨w6, hw6⟩ : ∃ w6, w6 = w5.alloc (.cells (fv ⟨fn, ft, fi, fz⟩) 48) := ⟨_, rfl⟩
        rw [show w5.alloc (.cells #[Value.string ⟨fn.toArray⟩, .bool ft, .int .i64 fi, .string ⟨fz.toArray⟩] 48) = w6 from hw6.symm]
        rw [← hw6] at hx6 hf6 HB6
        obtain ⟨p6, hp6⟩ : ∃ p6, p6 = w5.heap.size := ⟨_, rfl⟩
        rw [← hp6] at hf6 ⊢
        have x1 : w6.cell? ⟨p4, 1, none⟩ = some (.bool tx) := (cell_of_row _ _ _ _ _ _ hx6).trans rfl
        obtain ⟨-, f1, -, -, -⟩ := hf6.cells
        simp only at f1
        clear hb6 hw6 hp6 hx6 hf6 x0 s2
        cases H with
        | false =>
          have HF := hide (show needR G l = .error 137 by
            unfold needR
            rw [if_neg (by simp only [ne_eq, Decidable.not_not]; exact (unhide HM).symm.trans (unhide HN)), if_neg]
            rw [all_bad huk (unhide HOk)]; simp)
          clear huk
          go_wp2_with fail
          exact ⟨rfl, by rw [unhide HR, unhide HF]; exact ⟨rfl, (unhide HB2).trans ((unhide HB6).mono (unhide HB2).size)⟩⟩
        | true =>
          by_cases hft : ft = tx
          · have HA2 := hide (all_snoc huk (show needOk G ⟨nm, tx⟩ = true by rw [unhide HOk]; simp [hft]) (unhide HA))
            subst hft
            clear huk HOk
            cases ft
            all_goals
              go_wp2_with fail
              go_roundw
              case rel => exact ⟨k + 1, by omega, by go_num, HA2, HB6⟩
              case measure => simp [intOf]; omega
          · have HF := hide (show needR G l = .error 137 by
              unfold needR
              rw [if_neg (by simp only [ne_eq, Decidable.not_not]; exact (unhide HM).symm.trans (unhide HN)), if_neg]
              rw [all_bad huk (show needOk G ⟨nm, tx⟩ = false by rw [unhide HOk]; simp [hft])]; simp)
            clear huk HOk
            cases ft <;> cases tx
            all_goals first
              | exact absurd rfl hft
              | (clear hft
                 go_wp2_with fail
                 exact ⟨rfl, by rw [unhide HR, unhide HF]; exact ⟨rfl, (unhide HB2).trans ((unhide HB6).mono (unhide HB2).size)⟩⟩)
      · have HF := hide (show needR G l = .ok () by
          unfold needR
          rw [if_neg (by simp only [ne_eq, Decidable.not_not]; exact (unhide HM).symm.trans (unhide HN)), if_pos]
          have := unhide HA
          rwa [List.take_of_length_le (by have := unhide HN; omega)] at this)
        go_wp2_with fail
        go_end0
        exact ⟨by rw [unhide HR, unhide HF], (unhide HB2).trans ((unhide HB).mono (unhide HB2).size)⟩
  · have HF := hide (show needR G l = .error 137 by
      unfold needR
      rw [if_pos (by rw [← unhide HM, ← unhide HN]; exact hne)])
    have hne' : ((M : Int) != (N : Int)) = true := by simp; omega
    clear hne
    go_wp2_with fail
    exact ⟨rfl, by rw [unhide HR, unhide HF]; exact ⟨rfl, unhide HB2⟩⟩
end Go.Proofs.YtingpmgpjmlioaaGreatDoor
