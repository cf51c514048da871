/-
  DERIVED. The walks of layBatch, checkBatch, PutBatch.
-/
import Derived.Test.YtkikfdbjfhgfoaaLayB
namespace Go.Proofs.Ytkikfdbjfhgfoaa
open Go.RowKit
set_option linter.unusedVariables false

abbrev bt (s k : List UInt8) (f : Int) (a : Option Addr) (n c : Nat) : Array Value := #[sv s, sv k, .int .i64 f, .slice a n c]

/-- An event whose texts and numbers are of this machine. -/
def fitE (e : Evn) : Prop := e.type.length ≤ 9223372036854775807 ∧ ∀ f ∈ e.fields, fits f ∧ fitN f

/-- A slice of events that reads as these. -/
def EvL (w : World) (v : Value) (es : List Evn) : Prop :=
  ∃ ao cap, v = .slice ao es.length cap ∧ es.length ≤ cap ∧ cap ≤ 9223372036854775807 ∧
    (es.length ≠ 0 → ∃ b off, ao = some ⟨b, off, none⟩ ∧ b < w.heap.size ∧ ∀ i, (h : i < es.length) →
      w.cell? ⟨b, off + i * 3, none⟩ = some (sv es[i].type) ∧ w.cell? ⟨b, off + i * 3 + 1, none⟩ = some (.int .i64 es[i].ver) ∧ ∃ a n c, w.cell? ⟨b, off + i * 3 + 2, none⟩ = some (.slice a n c) ∧ FdL w (.slice a n c) es[i].fields)

theorem EvL.below {B : Nat} {w w' : World} {v : Value} {es : List Evn} (h : EvL w v es) (hb : Below B w w') (hB : w.heap.size ≤ B) : EvL w' v es := by
  obtain ⟨ao, cap, rfl, h1, h2, h4⟩ := h
  refine ⟨ao, cap, rfl, h1, h2, fun hz => ?_⟩
  obtain ⟨b, off, e, hlt, hc⟩ := h4 hz
  refine ⟨b, off, e, by have := hb.size; omega, fun i hi => ?_⟩
  obtain ⟨c0, c1, a, n, c, c2, c3⟩ := hc i hi
  exact ⟨(hb.cell (p := ⟨b, off + i * 3, none⟩) (by show b < B; omega)).trans c0, (hb.cell (p := ⟨b, off + i * 3 + 1, none⟩) (by show b < B; omega)).trans c1, a, n, c, (hb.cell (p := ⟨b, off + i * 3 + 2, none⟩) (by show b < B; omega)).trans c2, c3.below hb hB⟩

set_option maxHeartbeats 4000000 in
theorem layBatch_any (s k : List UInt8) (fi : Int) (a : Option Addr) (n c : Nat) (es : List Evn) (w : World) (hs : okBatch ⟨s, k, fi, es⟩) (hes : ∀ e ∈ es, okEv e ∧ fitE e) (hv : EvL w (.slice a n c) es) :
    Calls Try.prog 21 #[.agg (bt s k fi a n c)] w fun e w' => ∃ v', e = .returned v' ∧ Own w' w.heap.size v' (layBt ⟨s, k, fi, es⟩) ∧ Below w.heap.size w w' := by
  obtain ⟨h1, h2, h3, h4, h5, h6⟩ := hs
  unfold okName at h1
  simp only at h1 h2 h3 h4 h5 h6
  obtain ⟨ao, cap, e, g1, g2, g4⟩ := id hv
  cases e
  obtain ⟨N, hN⟩ : ∃ N, N = es.length := ⟨_, rfl⟩
  have HG4 := hide g4
  have HES := hide hes
  have HN := hide hN
  rw [← hN] at g1 h5 h6 ⊢
  have hne : some w.heap.size ≠ (Value.slice none 0 0).ownBlock := by simp [Value.ownBlock]
  obtain ⟨w0, hw0⟩ : ∃ w0, w0 = w.alloc (.cells (bt s k fi a N c) 25) := ⟨_, rfl⟩
  have s0 : w.heap.size < w0.heap.size := by rw [hw0]; simp
  have z1 : w0.cell? ⟨w.heap.size, 1, none⟩ = some (sv k) := by rw [hw0]; simp
  have z2 : w0.cell? ⟨w.heap.size, 2, none⟩ = some (.int .i64 fi) := by rw [hw0]; simp
  have z3 : w0.cell? ⟨w.heap.size, 3, none⟩ = some (.slice a N c) := by rw [hw0]; simp
  have HE0 : Hid (Ext w w0 (.slice none 0 0) (.slice none 0 0)) := hide (by rw [hw0]; exact (Ext.refl _ _).alloc _)
  have HW0 := hide hw0
  clear hw0 g4 hes hN hv
  go_enter Try.func21, Try.ntmps21
  go_wp2_with fail
  rw [← unhide HW0]
  refine (layText_ext w.heap.size (.slice none 0 0) [] s w0 (by omega) (World.ownsRow_nil _ _ _ _) (by simp; omega)).mono ?_
  rintro e w1 ⟨v1, rfl, own1, e1⟩
  rw [List.nil_append] at own1
  have s1 := e1.1.size
  have y1 := (e1.cell (p := ⟨w.heap.size, 1, none⟩) s0 hne).trans z1
  have y2 := (e1.cell (p := ⟨w.heap.size, 2, none⟩) s0 hne).trans z2
  have y3 := (e1.cell (p := ⟨w.heap.size, 3, none⟩) s0 hne).trans z3
  have hne1 := e1.ne s0 hne
  have hl1 : (layT s).length ≤ 70 := by have := layT_len s; omega
  have HO1 := hide own1
  have HE1 := hide ((unhide HE0).trans e1)
  have HL1 := hide hl1
  clear own1 e1 z1 z2 z3 hl1 hne
  go_wp2_with fail
  refine (layText_ext w.heap.size v1 _ k w1 (by omega) (unhide HO1) (by have := unhide HL1; omega)).mono ?_
  rintro e w2 ⟨v2, rfl, own2, e2⟩
  have s2 := e2.1.size
  have x2 := (e2.cell (p := ⟨w.heap.size, 2, none⟩) (by show w.heap.size < w1.heap.size; omega) hne1).trans y2
  have x3 := (e2.cell (p := ⟨w.heap.size, 3, none⟩) (by show w.heap.size < w1.heap.size; omega) hne1).trans y3
  have hne2 := e2.ne (show w.heap.size < w1.heap.size by omega) hne1
  have hl2 : (layT s ++ layT k).length ≤ 140 := by have := layT_len k; have := unhide HL1; rw [List.length_append]; omega
  have HO2 := hide own2
  have HE2 := hide ((unhide HE1).trans e2)
  have HL2 := hide hl2
  clear own2 e2 y1 y2 y3 hl2 hne1
  have hwv : IntKind.u64.wrap fi = fi := by rw [IntKind.wrap_u64]; omega
  go_wp2_with fail
  refine (layUint_exs w.heap.size v2 _ _ fi.toNat w2 (by omega) (unhide HO2) (by have := unhide HL2; omega) (by omega) (by omega)).mono ?_
  rintro e w3 ⟨v3, rfl, own3, e3⟩
  have s3 := e3.1.size
  have u3 := (e3.cell (p := ⟨w.heap.size, 3, none⟩) (by show w.heap.size < w2.heap.size; omega) hne2).trans x3
  have hne3 := e3.ne (show w.heap.size < w2.heap.size by omega) hne2
  have hl3 : (layT s ++ layT k ++ lay fi.toNat).length ≤ 150 := by have := lay_len fi.toNat; have := unhide HL2; rw [List.length_append]; omega
  have HO3 := hide own3
  have HE3 := hide ((unhide HE2).trans e3)
  have HL3 := hide hl3
  clear own3 e3 x2 x3 hl3 hne2 hwv
  go_wp2_with fail
  refine (layUint_exs w.heap.size v3 _ _ N w3 (by omega) (unhide HO3) (by have := unhide HL3; omega) (by omega) (by simp)).mono ?_
  rintro e w4 ⟨v4, rfl, own4, e4⟩
  have s4 := e4.1.size
  have t3 := (e4.cell (p := ⟨w.heap.size, 3, none⟩) (by show w.heap.size < w3.heap.size; omega) hne3).trans u3
  obtain ⟨L, hL⟩ : ∃ L, L = layT s ++ layT k ++ lay fi.toNat ++ lay N := ⟨_, rfl⟩
  have hl4 : L.length ≤ 160 := by have := lay_len N; have := unhide HL3; rw [hL, List.length_append]; omega
  have own4' : Own w4 w.heap.size v4 (L ++ laysL layEv (es.take 0)) := by rw [hL]; simpa [laysL] using own4
  have HO4 := hide own4'
  have HE4 := hide ((unhide HE3).trans e4)
  have HL4 := hide hL
  clear own4 own4' e4 u3 hne3 hL HO1 HO2 HO3 HE0 HE1 HE2 HE3 HL1 HL2 HL3
  go_wp2_with fail
  go_loopw [3, 5, 27] (fun u _ i wr => ∃ q : Nat, q ≤ N ∧ i = .int .i64 q ∧ Own wr w.heap.size u (L ++ laysL layEv (es.take q)) ∧ Ext w wr (.slice none 0 0) u) (fun _ _ i _ => N - (intOf i).toNat)
  case atStart => exact ⟨0, by omega, rfl, unhide HO4, unhide HE4⟩
  case round =>
    obtain ⟨q, hq, rfl, hown, hext⟩ := hrel
    have HO := hide hown
    have HE := hide hext
    have hsr := hext.1.size
    have HBw := hide (hext.below (show Own w w.heap.size (.slice none 0 0) [] from World.ownsRow_nil _ _ _ _) (Nat.le_refl _))
    clear hown hext
    by_cases hlt : q < N
    · have hql : q < es.length := by have := unhide HN; omega
      obtain ⟨b, off, rfl, hbl, hc⟩ := unhide HG4 (by omega)
      obtain ⟨c0, c1, ea, en, ec, c2, c3⟩ := hc q hql
      obtain ⟨f, hf⟩ : ∃ f, f = es[q] := ⟨_, rfl⟩
      rw [← hf] at c0 c1 c3
      have d0 := ((unhide HBw).cell (p := ⟨b, off + q * 3, none⟩) hbl).trans c0
      have d1 := ((unhide HBw).cell (p := ⟨b, off + q * 3 + 1, none⟩) hbl).trans c1
      have d2 := ((unhide HBw).cell (p := ⟨b, off + q * 3 + 2, none⟩) hbl).trans c2
      have HT : Hid (laysL layEv (es.take (q + 1)) = laysL layEv (es.take q) ++ layEv f) := hide (by rw [take_succ_get es q hql, laysL_snoc, hf])
      have HFO := hide (unhide HES f (by rw [hf]; exact List.getElem_mem hql))
      have HFd := hide c3
      have hlk : (laysL layEv (es.take q)).length ≤ 5000 * 16 := by
        have := laysL_len (g := layEv) (m := 5000) (es.take q) (fun g hg => layEv_len (unhide HES g (List.mem_of_mem_take hg)).1)
        rw [List.length_take] at this
        omega
      have HLK := hide hlk
      obtain ⟨ft, fv', ff⟩ := f
      simp only at d0 d1 d2
      clear hf hc c0 c1 c2 c3 hlk
      go_wp2_with fail
      refine (layEvent_ext w.heap.size u3 _ ft fv' ea en ec ff _ (by simp; omega) (World.ownsRow.alloc (unhide HO) _) (unhide HFO).1 (fun g hg => ((unhide HFO).2.2 g hg).2) (fun w' hb' => (unhide HFd).below (((unhide HBw).alloc hsr _).trans hb') (Nat.le_refl _)) (by have := unhide HLK; rw [List.length_append]; omega)).mono ?_
      rintro e w5 ⟨v5, rfl, own5, e5⟩
      have HO5 : Hid (Own w5 w.heap.size v5 (L ++ laysL layEv (es.take (q + 1)))) := hide (by rw [unhide HT, ← List.append_assoc]; exact own5)
      have HE5 := hide (((unhide HE).alloc _).trans e5)
      clear own5 e5
      go_wp2
      go_roundw
      case rel => exact ⟨q + 1, by omega, by go_num, unhide HO5, unhide HE5⟩
      case measure => simp [intOf]; omega
    · have HR : Hid (Own wr w.heap.size u3 (layBt ⟨s, k, fi, es⟩)) := hide (by
        have := unhide HO
        rw [List.take_of_length_le (by have := unhide HN; omega), unhide HL4] at this
        have e : layBt ⟨s, k, fi, es⟩ = layT s ++ layT k ++ lay fi.toNat ++ lay N ++ laysL layEv es := by
          rw [unhide HN]; simp [layBt]
        rw [e]; exact this)
      go_wp2
      go_ret
      exact ⟨_, rfl, unhide HR, unhide HBw⟩
end Go.Proofs.Ytkikfdbjfhgfoaa
