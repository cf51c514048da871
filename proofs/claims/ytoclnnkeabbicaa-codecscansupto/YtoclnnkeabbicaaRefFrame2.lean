/-
  DERIVED. The walk of the document's Frame, where its data are there.
-/
import Derived.Test.YtoclnnkeabbicaaRefFrame
import Derived.Test.YtoclnnkeabbicaaNew
import Derived.Deep.Cut
import Derived.Deep.CutRange
import Derived.Deep.Light
namespace Go.Proofs.Ytoclnnkeabbicaa
open Go.RowKit
set_option linter.unusedVariables false

/-- An append to an empty slice without room, as one step of a region that draws. -/
theorem step_append_new {ops : Array Oper} {o : Oper} {a : Act} {w : World} {K : Act → World → Prop} {Q : Exit → Act → World → Prop} {E : Prop}
    (hg : o.guard = none) (s x : Operand) (ho : o.op = .call { callee := .builtin .append, args := #[s, x], argTypes := #[22, 22] })
    (g0 : Nat) (hs : a.eval s = .slice (some ⟨g0, 0, none⟩) 0 0)
    (ad : Addr) (n c : Nat) (m : List UInt8) (hx : a.eval x = .slice (some ad) n c) (hy : Sl w (.slice (some ad) n c) m) (hlen : m.length ≤ 140737488355328) (hg0 : g0 < w.heap.size)
    (hK : ∀ a' n' c' w', NewSl w' w.heap.size (.slice a' n' c') m → Below w.heap.size w w' → K (a.put o.dst (.slice a' n' c')) w') :
    if Region.wanted o (yielded ops a.tmps) = true then Oper.wp Try.prog o a w K Q else E := by
  have hw : Region.wanted o (yielded ops a.tmps) = true := by simp [Region.wanted, hg]
  rw [if_pos hw]
  obtain ⟨i0, hi, hz0, hz1, hz2⟩ := info_parts Try.info5
  obtain ⟨ao, cap, e, h1, h2, h4⟩ := hy
  cases e
  have hnews : ∀ j u, (m.map bv)[j]? = some u → w.cell? (ad.add j) = some u := by
    intro j u hj
    rw [List.getElem?_map] at hj
    by_cases hjl : j < m.length
    · rw [List.getElem?_eq_getElem hjl] at hj
      simp only [Option.map_some, Option.some.injEq] at hj
      subst hj
      obtain ⟨b, off, e, _, hc⟩ := h4 (by omega)
      cases e
      rw [addr_add]; exact hc j hjl
    · rw [List.getElem?_eq_none (by omega)] at hj; cases hj
  by_cases hm : m = []
  · subst hm
    have hrun := run_append_room_cells (P := Try.prog) w 22 o.type 5 i0 Try.underlying22 hi g0 0 0 0 ad 0 c [] (by simp) (fun j u hj => by simp at hj) (fun u hu => by simp at hu) (by omega) (fun j hj => by simp at hj) (fun j hj => by simp at hj)
    unfold Oper.wp
    simp [execOp, ho, resolve, invoke, builtin, hs, hx, Result.andThen]
    rw [hrun]
    refine hK _ _ _ _ ⟨⟨_, _, rfl, by simp, by simp [maxLen], fun h => absurd rfl h⟩, .inl rfl⟩ ?_
    exact Below.refl _ _
  · have hmp : 0 < m.length := List.length_pos_iff.2 hm
    obtain ⟨v', w', hrun, r1, r2⟩ := run_append_arg_grows (P := Try.prog) w 22 o.type 5 i0 (.int .u8 0) 1 1 Try.underlying22 hi hz0 hz1 hz2 rfl (by decide) ⟨g0, 0, none⟩ 0 0 [] (by simp) (fun j u hj => by simp at hj) ad m.length c (m.map bv) (by simp) hnews (by omega) (by unfold maxLen; omega) (by omega)
    have hown : Own w' w.heap.size v' m := by simpa [Own] using r1
    obtain ⟨a', n', c', rfl⟩ := own_slice hown
    unfold Oper.wp
    simp [execOp, ho, resolve, invoke, builtin, hs, hx, hrun, Result.andThen]
    exact hK _ _ _ _ ⟨hown.sl, .inr hown⟩ ((Below.refl _ _).grown r2 (Nat.le_refl _) (fun k hk => by cases hk))

/-- What reading a frame answers. -/
def FrRead (l : List UInt8) (w : World) (o : Ending) (w' : World) : Prop :=
  ∃ a m c, o = .returned (.tuple #[.agg #[bv (frKind l), .slice a m c], .int .i64 (frK l : Nat), .int .i64 (frE l : Nat)]) ∧ NewSl w' w.heap.size (.slice a m c) (frD l) ∧ Below w.heap.size w w'

theorem fr_read {l : List UInt8} {n k : Nat} (hr : rd (l.drop 5) = (n, k, 0)) (hn : n ≤ 2000) (hkn : 5 + k + n ≤ l.length) :
    (rd4 l = crc ((l.drop 4).take (5 + k + n - 4)) → frE l = 0 ∧ frK l = 5 + (k + n) ∧ frKind l = l.getD 4 0 ∧ frD l = ((l.drop 5).drop k).take n) ∧
    (¬ rd4 l = crc ((l.drop 4).take (5 + k + n - 4)) → frE l = 11 ∧ frK l = 0 ∧ frKind l = 0 ∧ frD l = []) := by
  have hE : pcE (l.drop 5) 2000 = 0 := by
    unfold pcE
    rw [hr]
    simp only [List.length_drop]
    rw [if_neg (by simp), if_neg (by omega), if_neg (by omega)]
  have hK : pcK (l.drop 5) 2000 = k + n := by unfold pcK; rw [if_pos hE, hr]
  have hD : pcD (l.drop 5) 2000 = ((l.drop 5).drop k).take n := by unfold pcD; rw [if_pos hE, hr]
  have e : 1 + (k + n) = 5 + k + n - 4 := by omega
  constructor
  · intro h
    have hf : frE l = 0 := by unfold frE; rw [if_neg (by omega), hE, if_neg (by simp), hK, e, if_neg (by simpa using h)]
    refine ⟨hf, ?_, ?_, ?_⟩
    · unfold frK; rw [if_pos hf, hK]
    · unfold frKind; rw [if_pos hf]
    · unfold frD; rw [if_pos hf, hD]
  · intro h
    have hf : frE l = 11 := by unfold frE; rw [if_neg (by omega), hE, if_neg (by simp), hK, e, if_pos h]
    refine ⟨hf, ?_, ?_, ?_⟩
    · unfold frK; rw [hf]; rfl
    · unfold frKind; rw [hf]; rfl
    · unfold frD; rw [hf]; rfl

theorem bel_new2 {w w2 : World} {o o' : Obj} (h : Below ((w.alloc o).alloc o').drew.heap.size ((w.alloc o).alloc o').drew w2) : Below w.heap.size w w2 :=
  ((((Below.refl w.heap.size w).alloc (Nat.le_refl _) o).alloc (by simp) o').drew).trans (h.mono (by show w.heap.size ≤ ((w.alloc o).alloc o').heap.size; simp; omega))
theorem bel_new1 {w w2 : World} {o : Obj} (h : Below (w.alloc o).drew.heap.size (w.alloc o).drew w2) : Below w.heap.size w w2 :=
  (((Below.refl w.heap.size w).alloc (Nat.le_refl _) o).drew).trans (h.mono (by show w.heap.size ≤ (w.alloc o).heap.size; simp))

/-- What stands behind the frame's laying. -/
def FrRel (w w1 : World) (c4 : UInt8) (d : List UInt8) (s9 : Value) (wx : World) : Prop :=
  ∃ g a m c, s9 = .pointer (some ⟨g, 0, none⟩) ∧ w1.heap.size ≤ g ∧ g < wx.heap.size ∧ wx.cell? ⟨g, 0, none⟩ = some (bv c4) ∧ wx.cell? ⟨g, 1, none⟩ = some (.slice a m c) ∧ NewSl wx (w.heap.size + 1) (.slice a m c) d ∧ Below w1.heap.size w1 wx

theorem rel_set {w w1 w2 : World} {o o' : Obj} {g : Nat} {x y : Value} {a2 : Option Addr} {n2 c2 : Nat} {d : List UInt8} {c4 : UInt8} (hN : NewSl w2 ((w1.alloc o).alloc o').drew.heap.size (.slice a2 n2 c2) d)
    (hB : Below ((w1.alloc o).alloc o').drew.heap.size ((w1.alloc o).alloc o').drew w2) (hg : w1.heap.size ≤ g) (hg2 : g < w1.heap.size + 1 + 1) (hw : w.heap.size + 1 ≤ w1.heap.size) (f1 : w2.cell? ⟨g, 0, none⟩ = some x) (f2 : w2.cell? ⟨g, 1, none⟩ = some y) :
    FrRel w w1 c4 d (.pointer (some ⟨g, 0, none⟩)) ((w2.setCell ⟨g, 0, none⟩ (bv c4)).setCell ⟨g, 1, none⟩ (.slice a2 n2 c2)) := by
  have hs : ((w1.alloc o).alloc o').drew.heap.size = w1.heap.size + 1 + 1 := by show ((w1.alloc o).alloc o').heap.size = _; simp
  have hN' := (hN.setCell (p := ⟨g, 0, none⟩) (by rw [hs]; exact hg2) (bv c4)).setCell (p := ⟨g, 1, none⟩) (by rw [hs]; exact hg2) (.slice a2 n2 c2)
  have hs2 := hB.size
  rw [hs] at hs2
  refine ⟨g, a2, n2, c2, rfl, hg, by simp; omega, ?_, ?_, hN'.mono (by rw [hs]; omega), ?_⟩
  · exact (World.cell?_setCell_other (w2.setCell ⟨g, 0, none⟩ (bv c4)) ⟨g, 1, none⟩ ⟨g, 0, none⟩ _ (by simp)).trans (World.cell?_setCell_same w2 _ _ f1)
  · exact World.cell?_setCell_same _ _ _ (u := y) ((World.cell?_setCell_other w2 ⟨g, 0, none⟩ ⟨g, 1, none⟩ _ (by simp)).trans f2)
  · exact ((bel_new2 hB).setCell (p := ⟨g, 0, none⟩) hg _).setCell (p := ⟨g, 1, none⟩) hg _

theorem rel_new {w w1 w2 : World} {o : Obj} {a2 : Option Addr} {n2 c2 : Nat} {d : List UInt8} {c4 : UInt8} (hN : NewSl w2 (w1.alloc o).drew.heap.size (.slice a2 n2 c2) d)
    (hB : Below (w1.alloc o).drew.heap.size (w1.alloc o).drew w2) (hw : w.heap.size + 1 ≤ w1.heap.size) :
    FrRel w w1 c4 d (.pointer (some ⟨w2.heap.size, 0, none⟩)) (w2.alloc (.cells #[bv c4, .slice a2 n2 c2] 37)) := by
  have hs : (w1.alloc o).drew.heap.size = w1.heap.size + 1 := by show (w1.alloc o).heap.size = _; simp
  have hs2 := hB.size
  rw [hs] at hs2
  refine ⟨w2.heap.size, a2, n2, c2, rfl, by omega, by simp, by simp, by simp, (hN.below ((Below.refl w2.heap.size w2).alloc (Nat.le_refl _) _) (Nat.le_refl _)).mono (by rw [hs]; omega), ?_⟩
  exact (bel_new1 hB).alloc (by omega) _

set_option maxHeartbeats 4000000 in
set_option maxRecDepth 100000 in
theorem rFrame_good (b off cap : Nat) (l : List UInt8) (n k : Nat) (w : World) (hb : b < w.heap.size) (h1 : l.length ≤ cap) (h2 : cap ≤ 9223372036854775807)
    (hc : ∀ i, (h : i < l.length) → w.cell? ⟨b, off + i, none⟩ = some (bv l[i])) (hr : rd (l.drop 5) = (n, k, 0)) (hn : n ≤ 2000) (hk : 1 ≤ k) (hkn : 5 + k + n ≤ l.length) :
    Calls Try.prog 20 #[.slice (some ⟨b, off, none⟩) l.length cap] w (FrRead l w) := by
  have HFR := hide (fr_read hr hn hkn)
  have hcap : ¬ cap = 5 := by omega
  have H5 := hide ((Sl.from b off cap l hb h1 h2 hc 5 (by omega)).alloc (.cells #[.int .u8 0, .slice none 0 0] 37))
  have HS4 := hide (Sl.cut b off cap l hb h1 h2 hc 4 (5 + k + n - 4) (by omega))
  have HSL := hide (Sl.mk b off cap l hb h1 h2 hc)
  have hc4 := hc 4 (by omega)
  obtain ⟨c4, hc4e⟩ : ∃ c, c = l[4] := ⟨_, rfl⟩
  rw [← hc4e] at hc4
  have HC4 : Hid (l.getD 4 0 = c4) := hide (by rw [hc4e, List.getD_eq_getElem?_getD, List.getElem?_eq_getElem (by omega)]; rfl)
  have HR := hide hr
  obtain ⟨d, hd⟩ : ∃ d, d = ((l.drop 5).drop k).take n := ⟨_, rfl⟩
  have hdl : d.length = n := by rw [hd]; simp; omega
  have HD : Hid (Sl w (.slice (some (if cap = 5 + k then ⟨b, off, none⟩ else ⟨b, off + (5 + k), none⟩)) n (cap - (5 + k))) d) := hide (by
    by_cases h5 : cap = 5 + k
    · rw [if_pos h5]
      obtain rfl : n = 0 := by omega
      obtain rfl : d = [] := List.eq_nil_of_length_eq_zero hdl
      exact Sl.mk b off _ [] hb (by simp) (by omega) (fun i hi => by simp at hi)
    · rw [if_neg h5, hd, List.drop_drop]
      exact Sl.cut b off cap l hb h1 h2 hc (5 + k) n (by omega))
  have HDE := hide hd
  have HDL := hide hdl
  have hdl2 : d.length ≤ 2000 := by omega
  clear hc hr hc4e hd hdl
  have i4 : (4 : Int) < (l.length : Int) := by omega
  have q5 : (5 + (k : Int)).toNat = 5 + k := by omega
  have q1 : IntKind.i64.wrap (n : Int) = (n : Int) := by rw [IntKind.wrap_i64]; omega
  have q2 : IntKind.i64.wrap (5 + (k : Int) + (n : Int)) = 5 + (k : Int) + (n : Int) := by rw [IntKind.wrap_i64]; omega
  have q3 : (0 : Int) ≤ 5 + (k : Int) + (n : Int) ∧ 5 + (k : Int) + (n : Int) ≤ (cap : Int) := by omega
  have q4 : (0 : Int) ≤ 5 + (k : Int) ∧ 5 + (k : Int) ≤ max (5 + (k : Int) + (n : Int)) 0 := by omega
  have q6 : (5 + (k : Int) + (n : Int)).toNat - (5 + k) = n := by omega
  by_cases hcap2 : cap = 5 + k
  · have HD2 := unhide HD
    rw [if_pos hcap2] at HD2
    have HD3 := hide HD2
    have hT : (cap = 5 + k) = True := eq_true hcap2
    clear HD2 HD hcap2
    go_enter Try.func20, Try.ntmps20
    go_upto_region 11 with (go_at_call 12; refine (rUint_at _ _ n k 0 _ (by simpa [hcap] using unhide H5) (unhide HR)).mono ?_; rintro e w1 ⟨rfl, b1⟩; have s1 := b1.size; simp at s1; have z0 := (b1.cell (p := ⟨w.heap.size, 0, none⟩) (by simp)); have z1 := (b1.cell (p := ⟨w.heap.size, 1, none⟩) (by simp)); have y0 := (b1.frozen (p := ⟨w.heap.size, 0, none⟩) (by simp)); have y1 := (b1.frozen (p := ⟨w.heap.size, 1, none⟩) (by simp)); simp at z0 z1 y0 y1; have HB := hide (((Below.refl w.heap.size w).alloc (Nat.le_refl _) (.cells #[.int .u8 0, .slice none 0 0] 37)).trans (b1.mono (by simp))); have c41 := ((unhide HB).cell (p := ⟨b, off + 4, none⟩) hb).trans hc4; clear b1)
    have HDW := hide ((unhide HD3).below (unhide HB) (Nat.le_refl _))
    have hlt2 : w1.heap.size < w1.heap.size + 1 + 1 := by omega
    have hlt1 : w1.heap.size + 1 < w1.heap.size + 1 + 1 := by omega
    have hle1 : w1.heap.size ≤ w1.heap.size + 1 := by omega
    have hle0 : w1.heap.size ≤ w1.heap.size := by omega
    have c42 : ∀ o, (w1.alloc o).cell? ⟨b, off + 4, none⟩ = some (bv c4) := fun o => (((Below.refl w1.heap.size w1).alloc (Nat.le_refl _) o).cell (p := ⟨b, off + 4, none⟩) (by show b < w1.heap.size; omega)).trans c41
    have c43 : ∀ o o', ((w1.alloc o).alloc o').cell? ⟨b, off + 4, none⟩ = some (bv c4) := fun o o' => ((((Below.refl w1.heap.size w1).alloc (Nat.le_refl _) o).alloc (by simp) o').cell (p := ⟨b, off + 4, none⟩) (by show b < w1.heap.size; omega)).trans c41
    go_cut [9] from 40 to 52 (fun s9 wx => FrRel w w1 c4 d s9 wx)
    case first =>
      go_region_law (refine step_append_new rfl (.tmp 43) (.tmp 50) rfl _ rfl _ _ _ d rfl (by first | exact Sl.drew (Sl.alloc (unhide HDW) _) | exact Sl.drew (Sl.alloc (Sl.alloc (unhide HDW) _) _)) (by omega) (by simp <;> omega) ?_; intro a2 n2 c2 w2 new2 b2; have HN2 := hide new2; have HB2 := hide b2; have s2 := b2.size; have f9 : w2.cell? ⟨b, off + 4, none⟩ = some (bv c4) := (b2.cell (p := ⟨b, off + 4, none⟩) (by simp <;> omega)).trans (by first | exact c42 _ | exact c43 _ _); have f10 : ∀ o, (w2.alloc o).cell? ⟨b, off + 4, none⟩ = some (bv c4) := fun o => (((Below.refl w2.heap.size w2).alloc (Nat.le_refl _) o).cell (p := ⟨b, off + 4, none⟩) (by show b < w2.heap.size; simp at s2; omega)).trans f9; have f1 := fun hh => b2.cell (p := ⟨w1.heap.size, 0, none⟩) hh; have f2 := fun hh => b2.cell (p := ⟨w1.heap.size, 1, none⟩) hh; have f3 := fun hh => b2.frozen (p := ⟨w1.heap.size, 0, none⟩) hh; have f4 := fun hh => b2.frozen (p := ⟨w1.heap.size, 1, none⟩) hh; have f5 := fun hh => b2.cell (p := ⟨w1.heap.size + 1, 0, none⟩) hh; have f6 := fun hh => b2.cell (p := ⟨w1.heap.size + 1, 1, none⟩) hh; have f7 := fun hh => b2.frozen (p := ⟨w1.heap.size + 1, 0, none⟩) hh; have f8 := fun hh => b2.frozen (p := ⟨w1.heap.size + 1, 1, none⟩) hh; simp [hlt2] at s2 f1 f2 f3 f4 f5 f6 f7 f8; clear new2 b2)
      all_goals (go_wp2_with fail; go_meet; go_light)
      all_goals
        first
        | exact rel_new (unhide HN2) (unhide HB2) s1
        | exact rel_set (g := w1.heap.size + 1) (unhide HN2) (unhide HB2) hle1 hlt1 s1 f5 f6
        | exact rel_set (g := w1.heap.size) (unhide HN2) (unhide HB2) hle0 hlt2 s1 f1 f2
    case rest =>
      obtain ⟨g, a, m, c, rfl, hg1, hg2, cg0, cg1, hsl, hbl⟩ := hcut
      have hb1 := hide ((unhide HB).trans (hbl.mono (by omega)))
      have z0' := (hbl.cell (p := ⟨w.heap.size, 0, none⟩) (by show w.heap.size < w1.heap.size; omega)).trans z0
      have z1' := (hbl.cell (p := ⟨w.heap.size, 1, none⟩) (by show w.heap.size < w1.heap.size; omega)).trans z1
      have y0' := (hbl.frozen (p := ⟨w.heap.size, 0, none⟩) (by show w.heap.size < w1.heap.size; omega)).trans y0
      have y1' := (hbl.frozen (p := ⟨w.heap.size, 1, none⟩) (by show w.heap.size < w1.heap.size; omega)).trans y1
      have HL := hide ((unhide HSL).below (unhide hb1) (Nat.le_refl _))
      have H4 := hide ((unhide HS4).below (unhide hb1) (Nat.le_refl _))
      have HSD := hide hsl
      clear z0 z1 y0 y1 hsl hbl HDW c41 hc4
      have hl4 : 4 ≤ l.length := by omega
      go_wp2_with (go_at_call 18; refine (rU32_at _ l _ (unhide HL) hl4).mono ?_; rintro e w3 ⟨rfl, rfl⟩)
      refine (rSum_any _ _ _ (unhide H4)).mono ?_
      rintro e w3 ⟨rfl, rfl⟩
      by_cases hcrc : rd4 l = crc ((l.drop 4).take (5 + k + n - 4))
      · have hne : ((rd4 l : Int) != (crc ((l.drop 4).take (5 + k + n - 4)) : Int)) = false := by rw [hcrc]; simp
        have HCR := hide hcrc
        clear hcrc
        go_wp2
        obtain ⟨e1, e2, e3, e4⟩ := (unhide HFR).1 (unhide HCR)
        refine bodyPost_ret (v := .tuple #[.agg #[bv c4, .slice a m c], .int .i64 (5 + (k + n) : Nat), .int .i64 0]) ?_ rfl ⟨a, m, c, by rw [e1, e2, e3, unhide HC4]; rfl, (by rw [e4, ← unhide HDE]; exact (((unhide HSD).setCell (p := ⟨w.heap.size, 0, none⟩) (by simp) _).setCell (p := ⟨w.heap.size, 1, none⟩) (by simp) _).mono (by omega)), ?_⟩
        · simp [results, Try.results20, go_sem, z0', z1']
          omega
        · exact (((unhide hb1).setCell (p := ⟨w.heap.size, 0, none⟩) (Nat.le_refl _) _).setCell (p := ⟨w.heap.size, 1, none⟩) (Nat.le_refl _) _)
      · have hne : ((rd4 l : Int) != (crc ((l.drop 4).take (5 + k + n - 4)) : Int)) = true := by rw [bne_iff_ne]; omega
        have HCR := hide hcrc
        clear hcrc
        go_wp2
        obtain ⟨e1, e2, e3, e4⟩ := (unhide HFR).2 (unhide HCR)
        refine bodyPost_ret (v := .tuple #[.agg #[.int .u8 0, .slice none 0 0], .int .i64 0, .int .i64 11]) ?_ rfl ⟨none, 0, 0, by rw [e1, e2, e3]; rfl, by rw [e4]; exact ⟨nil_sl _, .inl rfl⟩, ?_⟩
        · simp [results, Try.results20, go_sem, z0', z1']
        · exact (((unhide hb1).setCell (p := ⟨w.heap.size, 0, none⟩) (Nat.le_refl _) _).setCell (p := ⟨w.heap.size, 1, none⟩) (Nat.le_refl _) _)
  · have HD2 := unhide HD
    rw [if_neg hcap2] at HD2
    have HD3 := hide HD2
    clear HD2 HD
    go_enter Try.func20, Try.ntmps20
    go_upto_region 11 with (go_at_call 12; refine (rUint_at _ _ n k 0 _ (by simpa [hcap] using unhide H5) (unhide HR)).mono ?_; rintro e w1 ⟨rfl, b1⟩; have s1 := b1.size; simp at s1; have z0 := (b1.cell (p := ⟨w.heap.size, 0, none⟩) (by simp)); have z1 := (b1.cell (p := ⟨w.heap.size, 1, none⟩) (by simp)); have y0 := (b1.frozen (p := ⟨w.heap.size, 0, none⟩) (by simp)); have y1 := (b1.frozen (p := ⟨w.heap.size, 1, none⟩) (by simp)); simp at z0 z1 y0 y1; have HB := hide (((Below.refl w.heap.size w).alloc (Nat.le_refl _) (.cells #[.int .u8 0, .slice none 0 0] 37)).trans (b1.mono (by simp))); have c41 := ((unhide HB).cell (p := ⟨b, off + 4, none⟩) hb).trans hc4; clear b1)
    have HDW := hide ((unhide HD3).below (unhide HB) (Nat.le_refl _))
    have hlt2 : w1.heap.size < w1.heap.size + 1 + 1 := by omega
    have hlt1 : w1.heap.size + 1 < w1.heap.size + 1 + 1 := by omega
    have hle1 : w1.heap.size ≤ w1.heap.size + 1 := by omega
    have hle0 : w1.heap.size ≤ w1.heap.size := by omega
    have c42 : ∀ o, (w1.alloc o).cell? ⟨b, off + 4, none⟩ = some (bv c4) := fun o => (((Below.refl w1.heap.size w1).alloc (Nat.le_refl _) o).cell (p := ⟨b, off + 4, none⟩) (by show b < w1.heap.size; omega)).trans c41
    have c43 : ∀ o o', ((w1.alloc o).alloc o').cell? ⟨b, off + 4, none⟩ = some (bv c4) := fun o o' => ((((Below.refl w1.heap.size w1).alloc (Nat.le_refl _) o).alloc (by simp) o').cell (p := ⟨b, off + 4, none⟩) (by show b < w1.heap.size; omega)).trans c41
    go_cut [9] from 40 to 52 (fun s9 wx => FrRel w w1 c4 d s9 wx)
    case first =>
      go_region_law (refine step_append_new rfl (.tmp 43) (.tmp 50) rfl _ rfl _ _ _ d rfl (by first | exact Sl.drew (Sl.alloc (unhide HDW) _) | exact Sl.drew (Sl.alloc (Sl.alloc (unhide HDW) _) _)) (by omega) (by simp <;> omega) ?_; intro a2 n2 c2 w2 new2 b2; have HN2 := hide new2; have HB2 := hide b2; have s2 := b2.size; have f9 : w2.cell? ⟨b, off + 4, none⟩ = some (bv c4) := (b2.cell (p := ⟨b, off + 4, none⟩) (by simp <;> omega)).trans (by first | exact c42 _ | exact c43 _ _); have f10 : ∀ o, (w2.alloc o).cell? ⟨b, off + 4, none⟩ = some (bv c4) := fun o => (((Below.refl w2.heap.size w2).alloc (Nat.le_refl _) o).cell (p := ⟨b, off + 4, none⟩) (by show b < w2.heap.size; simp at s2; omega)).trans f9; have f1 := fun hh => b2.cell (p := ⟨w1.heap.size, 0, none⟩) hh; have f2 := fun hh => b2.cell (p := ⟨w1.heap.size, 1, none⟩) hh; have f3 := fun hh => b2.frozen (p := ⟨w1.heap.size, 0, none⟩) hh; have f4 := fun hh => b2.frozen (p := ⟨w1.heap.size, 1, none⟩) hh; have f5 := fun hh => b2.cell (p := ⟨w1.heap.size + 1, 0, none⟩) hh; have f6 := fun hh => b2.cell (p := ⟨w1.heap.size + 1, 1, none⟩) hh; have f7 := fun hh => b2.frozen (p := ⟨w1.heap.size + 1, 0, none⟩) hh; have f8 := fun hh => b2.frozen (p := ⟨w1.heap.size + 1, 1, none⟩) hh; simp [hlt2] at s2 f1 f2 f3 f4 f5 f6 f7 f8; clear new2 b2)
      all_goals (go_wp2_with fail; go_meet; go_light)
      all_goals
        first
        | exact rel_new (unhide HN2) (unhide HB2) s1
        | exact rel_set (g := w1.heap.size + 1) (unhide HN2) (unhide HB2) hle1 hlt1 s1 f5 f6
        | exact rel_set (g := w1.heap.size) (unhide HN2) (unhide HB2) hle0 hlt2 s1 f1 f2
    case rest =>
      obtain ⟨g, a, m, c, rfl, hg1, hg2, cg0, cg1, hsl, hbl⟩ := hcut
      have hb1 := hide ((unhide HB).trans (hbl.mono (by omega)))
      have z0' := (hbl.cell (p := ⟨w.heap.size, 0, none⟩) (by show w.heap.size < w1.heap.size; omega)).trans z0
      have z1' := (hbl.cell (p := ⟨w.heap.size, 1, none⟩) (by show w.heap.size < w1.heap.size; omega)).trans z1
      have y0' := (hbl.frozen (p := ⟨w.heap.size, 0, none⟩) (by show w.heap.size < w1.heap.size; omega)).trans y0
      have y1' := (hbl.frozen (p := ⟨w.heap.size, 1, none⟩) (by show w.heap.size < w1.heap.size; omega)).trans y1
      have HL := hide ((unhide HSL).below (unhide hb1) (Nat.le_refl _))
      have H4 := hide ((unhide HS4).below (unhide hb1) (Nat.le_refl _))
      have HSD := hide hsl
      clear z0 z1 y0 y1 hsl hbl HDW c41 hc4
      have hl4 : 4 ≤ l.length := by omega
      go_wp2_with (go_at_call 18; refine (rU32_at _ l _ (unhide HL) hl4).mono ?_; rintro e w3 ⟨rfl, rfl⟩)
      refine (rSum_any _ _ _ (unhide H4)).mono ?_
      rintro e w3 ⟨rfl, rfl⟩
      by_cases hcrc : rd4 l = crc ((l.drop 4).take (5 + k + n - 4))
      · have hne : ((rd4 l : Int) != (crc ((l.drop 4).take (5 + k + n - 4)) : Int)) = false := by rw [hcrc]; simp
        have HCR := hide hcrc
        clear hcrc
        go_wp2
        obtain ⟨e1, e2, e3, e4⟩ := (unhide HFR).1 (unhide HCR)
        refine bodyPost_ret (v := .tuple #[.agg #[bv c4, .slice a m c], .int .i64 (5 + (k + n) : Nat), .int .i64 0]) ?_ rfl ⟨a, m, c, by rw [e1, e2, e3, unhide HC4]; rfl, (by rw [e4, ← unhide HDE]; exact (((unhide HSD).setCell (p := ⟨w.heap.size, 0, none⟩) (by simp) _).setCell (p := ⟨w.heap.size, 1, none⟩) (by simp) _).mono (by omega)), ?_⟩
        · simp [results, Try.results20, go_sem, z0', z1']
          omega
        · exact (((unhide hb1).setCell (p := ⟨w.heap.size, 0, none⟩) (Nat.le_refl _) _).setCell (p := ⟨w.heap.size, 1, none⟩) (Nat.le_refl _) _)
      · have hne : ((rd4 l : Int) != (crc ((l.drop 4).take (5 + k + n - 4)) : Int)) = true := by rw [bne_iff_ne]; omega
        have HCR := hide hcrc
        clear hcrc
        go_wp2
        obtain ⟨e1, e2, e3, e4⟩ := (unhide HFR).2 (unhide HCR)
        refine bodyPost_ret (v := .tuple #[.agg #[.int .u8 0, .slice none 0 0], .int .i64 0, .int .i64 11]) ?_ rfl ⟨none, 0, 0, by rw [e1, e2, e3]; rfl, by rw [e4]; exact ⟨nil_sl _, .inl rfl⟩, ?_⟩
        · simp [results, Try.results20, go_sem, z0', z1']
        · exact (((unhide hb1).setCell (p := ⟨w.heap.size, 0, none⟩) (Nat.le_refl _) _).setCell (p := ⟨w.heap.size, 1, none⟩) (Nat.le_refl _) _)
/-- The document's Frame. -/
theorem rFrame_any (v : Value) (l : List UInt8) (w : World) (hv : Sl w v l) : Calls Try.prog 20 #[v] w (FrRead l w) := by
  by_cases h : l.length < 5
  · have hfe : frE l = 10 := by unfold frE; rw [if_pos h]
    have hfk : frK l = 0 := by unfold frK; rw [hfe]; rfl
    have hfd : frD l = [] := by unfold frD; rw [hfe]; rfl
    have hfi : frKind l = 0 := by unfold frKind; rw [hfe]; rfl
    refine (rFrame_short v l w hv h).mono ?_
    rintro e w' ⟨rfl, hb⟩
    exact ⟨none, 0, 0, by rw [hfe, hfk, hfi]; rfl, by rw [hfd]; exact ⟨nil_sl _, .inl rfl⟩, hb⟩
  · rcases hv.cases with ⟨rfl, ao, rfl⟩ | ⟨b, off, cap, rfl, h1, h2, h3, hc⟩
    · simp at h
    · by_cases hE : pcE (l.drop 5) 2000 = 0
      · obtain ⟨n, k, hr, hn, hkn, _⟩ := pc_zero hE
        have hk := (rd_facts (l.drop 5)).2.2.2 (by rw [hr])
        rw [hr] at hk
        simp only [List.length_drop] at hkn
        exact rFrame_good b off cap l n k w h3 h1 h2 hc hr (by omega) hk.1 (by omega)
      · obtain ⟨e1, e2, e3, e4⟩ := fr_err (by omega) rfl hE
        refine (rFrame_bad b off cap l _ w h3 h1 h2 hc (by omega) rfl hE).mono ?_
        rintro e w' ⟨rfl, hb⟩
        exact ⟨none, 0, 0, by rw [e1, e2, e4]; rfl, by rw [e3]; exact ⟨nil_sl _, .inl rfl⟩, hb⟩
end Go.Proofs.Ytoclnnkeabbicaa
