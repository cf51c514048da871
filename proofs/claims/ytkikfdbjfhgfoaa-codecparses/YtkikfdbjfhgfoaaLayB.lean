/-
  DERIVED. The walks of layField, layEvent, layBatch.
-/
import Derived.Test.YtkikfdbjfhgfoaaLayX
import Derived.Test.YtkikfdbjfhgfoaaEvMath
import Derived.Test.YtkikfdbjfhgfoaaCheck
namespace Go.Proofs.Ytkikfdbjfhgfoaa
open Go.RowKit
set_option linter.unusedVariables false

theorem Own.new_ne {w : World} {base : Nat} {v : Value} {l : List UInt8} (h : Own w base v l) {k : Nat} (hk : w.heap.size ≤ k) : some k ≠ v.ownBlock := by
  rcases h.2 with ⟨rfl, _⟩ | ⟨g, cap, cur, rfl, _, hh, _⟩
  · simp [Value.ownBlock]
  · have := lt_of_block hh
    simp [Value.ownBlock]; omega
theorem Ext.ne {w w1 : World} {v v1 : Value} (h : Ext w w1 v v1) {k : Nat} (hk : k < w.heap.size) (hne : some k ≠ v.ownBlock) : some k ≠ v1.ownBlock := by
  rcases h.2 with e | e
  · rw [e]; exact hne
  · intro h'
    have := e k h'.symm
    omega

set_option maxHeartbeats 2000000 in
theorem layField_ext (base : Nat) (v : Value) (l : List UInt8) (f : Fld) (w : World) (hb : base ≤ w.heap.size) (hv : Own w base v l) (hf : okField f) (hn : fitN f) (hl : l.length ≤ 1000000) :
    Calls Try.prog 55 #[v, .agg (fv f)] w fun e w' => ∃ v', e = .returned v' ∧ Own w' base v' (l ++ layFld f) ∧ Ext w w' v v' := by
  obtain ⟨name, text, n, s⟩ := f
  obtain ⟨h1, h2, h3⟩ := hf
  unfold okName at h1
  unfold fitN at hn
  simp only at h1 h2 h3 hn
  have hne := hv.new_ne (Nat.le_refl _)
  obtain ⟨w0, hw0⟩ : ∃ w0, w0 = w.alloc (.cells (fv ⟨name, text, n, s⟩) 62) := ⟨_, rfl⟩
  have s0 : w.heap.size < w0.heap.size := by rw [hw0]; simp
  have z1 : w0.cell? ⟨w.heap.size, 1, none⟩ = some (.bool text) := by rw [hw0]; simp
  have z2 : w0.cell? ⟨w.heap.size, 2, none⟩ = some (.int .i64 n) := by rw [hw0]; simp
  have z3 : w0.cell? ⟨w.heap.size, 3, none⟩ = some (sv s) := by rw [hw0]; simp
  have HV0 : Hid (Own w0 base v l) := hide (by rw [hw0]; exact hv.alloc _)
  have HE0 : Hid (Ext w w0 v v) := hide (by rw [hw0]; exact (Ext.refl _ _).alloc _)
  have HW0 := hide hw0
  clear hw0 hv
  go_enter Try.func55, Try.ntmps55
  go_wp2_with fail
  rw [← unhide HW0]
  refine (layText_ext base v l name w0 (by omega) (unhide HV0) (by omega)).mono ?_
  rintro e w1 ⟨v1, rfl, own1, e1⟩
  have s1 := e1.1.size
  have y1 := (e1.cell (p := ⟨w.heap.size, 1, none⟩) s0 hne).trans z1
  have y2 := (e1.cell (p := ⟨w.heap.size, 2, none⟩) s0 hne).trans z2
  have y3 := (e1.cell (p := ⟨w.heap.size, 3, none⟩) s0 hne).trans z3
  have hne1 := e1.ne s0 hne
  have hA : ∀ o, Ext w1 (w1.alloc o).drew v1 v1 := fun o => ((Ext.refl w1 v1).alloc o).drew
  have y2a : ∀ o, (w1.alloc o).cell? ⟨w.heap.size, 2, none⟩ = some (.int .i64 n) := fun o => ((hA o).cell (p := ⟨w.heap.size, 2, none⟩) (by show w.heap.size < w1.heap.size; omega) hne1).trans y2
  have y3a : ∀ o, (w1.alloc o).cell? ⟨w.heap.size, 3, none⟩ = some (sv s) := fun o => ((hA o).cell (p := ⟨w.heap.size, 3, none⟩) (by show w.heap.size < w1.heap.size; omega) hne1).trans y3
  have HA := hide hA
  have HO1 := hide own1
  have HE1 := hide ((unhide HE0).trans e1)
  have hl1 : (l ++ layT name).length ≤ 1000070 := by have := layT_len name; rw [List.length_append]; omega
  have HL1 := hide hl1
  have hne1' := hide hne1
  have hs1 : w.heap.size < w1.heap.size := by omega
  have hb1 : base ≤ w1.heap.size := by omega
  clear own1 e1 z1 z2 z3 hA hl1 hne1 hne
  cases text with
  | true =>
    have hs := (h2 rfl).1
    go_wp2_with fail
    go_region_law (first | (refine step_append_ext rfl (.tmp 11) (.tmp 12) rfl base _ (l ++ layT name) rfl ?own _ _ _ [1] rfl ?sl ?hlen ?hbb ?_; (case own => exact World.ownsRow.alloc (unhide HO1) _); (case sl => exact Sl.drew (Sl.new w1 [1] (by simp [maxLen]) (0, 0))); (case hlen => have := unhide HL1; simp at this ⊢; omega); (case hbb => simp; omega); intro v2 w2 own2 e2; have HO2 := hide own2; have HE2 := hide ((unhide HA _).trans e2); have s2 := (unhide HE2).1.size; have y3b := ((unhide HE2).cell (p := ⟨w.heap.size, 3, none⟩) hs1 (unhide hne1')).trans y3; clear own2 e2) | (go_simp; go_wp2_with (go_at_call 43; refine (layText_ext base _ _ s _ ?hb2 (unhide HO2) ?hl2).mono ?_; (case hb2 => omega); (case hl2 => have := unhide HL1; simp at this ⊢; omega); rintro e w3 ⟨v3, rfl, own3, e3⟩; have HO3 := hide own3; have HE3 := hide ((unhide HE1).trans ((unhide HE2).trans e3)); clear own3 e3)))
    all_goals
      go_wp2
      go_ret
      exact ⟨v3, rfl, (by have := unhide HO3; simpa [layFld] using this), unhide HE3⟩
  | false =>
    go_wp2_with fail
    go_region_law (first | (refine step_append_ext rfl (.tmp 17) (.tmp 18) rfl base _ (l ++ layT name) rfl ?own _ _ _ [0] rfl ?sl ?hlen ?hbb ?_; (case own => exact World.ownsRow.alloc (unhide HO1) _); (case sl => exact Sl.drew (Sl.new w1 [0] (by simp [maxLen]) (0, 0))); (case hlen => have := unhide HL1; simp at this ⊢; omega); (case hbb => simp; omega); intro v2 w2 own2 e2; have HO2 := hide own2; have HE2 := hide ((unhide HA _).trans e2); have s2 := (unhide HE2).1.size; have y2b := ((unhide HE2).cell (p := ⟨w.heap.size, 2, none⟩) hs1 (unhide hne1')).trans y2; clear own2 e2) | (go_simp; go_wp2_with (go_at_call 39; refine (layInt_ext base _ _ n _ ?hb2 (unhide HO2) hn.1 hn.2 ?hl2).mono ?_; (case hb2 => omega); (case hl2 => have := unhide HL1; simp at this ⊢; omega); rintro e w3 ⟨v3, rfl, own3, e3⟩; have HO3 := hide own3; have HE3 := hide ((unhide HE1).trans ((unhide HE2).trans e3)); clear own3 e3)))
    all_goals
      go_wp2
      go_ret
      exact ⟨v3, rfl, (by have := unhide HO3; simpa [layFld] using this), unhide HE3⟩
theorem take_succ_get {α : Type} (l : List α) (k : Nat) (h : k < l.length) : l.take (k + 1) = l.take k ++ [l[k]] := List.take_succ_eq_append_getElem h

set_option maxHeartbeats 4000000 in
theorem layEvent_ext (base : Nat) (v : Value) (l : List UInt8) (t : List UInt8) (ver : Int) (a : Option Addr) (n c : Nat) (fs : List Fld) (w : World) (hb : base ≤ w.heap.size) (hv : Own w base v l) (hok : okEvent t ver fs) (hn : ∀ f ∈ fs, fitN f) (hfd : ∀ w', Below base w w' → FdL w' (.slice a n c) fs) (hl : l.length ≤ 900000) :
    Calls Try.prog 44 #[v, .agg (ev t ver a n c)] w fun e w' => ∃ v', e = .returned v' ∧ Own w' base v' (l ++ layEv ⟨t, ver, fs⟩) ∧ Ext w w' v v' := by
  obtain ⟨h1, h2, h3, h4, h5⟩ := hok
  unfold okName at h1
  obtain ⟨ao, cap, e, g1, g2, _⟩ := hfd w (Below.refl _ _)
  cases e
  obtain ⟨N, hN⟩ : ∃ N, N = fs.length := ⟨_, rfl⟩
  have HFD := hide hfd
  have HOK := hide (okAt_field h5)
  have HNF := hide hn
  have HN := hide hN
  have hlen : (laysL layFld fs).length ≤ 300 * N := by rw [hN]; exact laysL_len fs (fun f hf => layFld_len (okAt_field h5 f hf))
  have hne := hv.new_ne (Nat.le_refl _)
  have HV := hide hv
  rw [← hN] at g1 h4 ⊢
  obtain ⟨w0, hw0⟩ : ∃ w0, w0 = w.alloc (.cells (ev t ver a N c) 59) := ⟨_, rfl⟩
  have s0 : w.heap.size < w0.heap.size := by rw [hw0]; simp
  have z1 : w0.cell? ⟨w.heap.size, 1, none⟩ = some (.int .i64 ver) := by rw [hw0]; simp
  have z2 : w0.cell? ⟨w.heap.size, 2, none⟩ = some (.slice a N c) := by rw [hw0]; simp
  have HV0 : Hid (Own w0 base v l) := hide (by rw [hw0]; exact hv.alloc _)
  have HE0 : Hid (Ext w w0 v v) := hide (by rw [hw0]; exact (Ext.refl _ _).alloc _)
  have HW0 := hide hw0
  have HHL := hide hlen
  clear hw0 hv hfd h5 hn hN hlen
  go_enter Try.func44, Try.ntmps44
  go_wp2_with fail
  rw [← unhide HW0]
  refine (layText_ext base v l t w0 (by omega) (unhide HV0) (by omega)).mono ?_
  rintro e w1 ⟨v1, rfl, own1, e1⟩
  have s1 := e1.1.size
  have y1 := (e1.cell (p := ⟨w.heap.size, 1, none⟩) s0 hne).trans z1
  have y2 := (e1.cell (p := ⟨w.heap.size, 2, none⟩) s0 hne).trans z2
  have hne1 := e1.ne s0 hne
  have hl1 : (l ++ layT t).length ≤ 900070 := by have := layT_len t; rw [List.length_append]; omega
  have HO1 := hide own1
  have HE1 := hide ((unhide HE0).trans e1)
  have HL1 := hide hl1
  clear own1 e1 z1 z2 hne hl1
  have hwv : IntKind.u64.wrap ver = ver := by rw [IntKind.wrap_u64]; omega
  go_wp2_with fail
  refine (layUint_exs base v1 _ _ ver.toNat w1 (by omega) (unhide HO1) (by have := unhide HL1; omega) (by omega) (by omega)).mono ?_
  rintro e w2 ⟨v2, rfl, own2, e2⟩
  have s2 := e2.1.size
  have x2 := (e2.cell (p := ⟨w.heap.size, 2, none⟩) (by show w.heap.size < w1.heap.size; omega) hne1).trans y2
  have hne2 := e2.ne (show w.heap.size < w1.heap.size by omega) hne1
  have hl2 : (l ++ layT t ++ lay ver.toNat).length ≤ 900080 := by have := lay_len ver.toNat; have := unhide HL1; rw [List.length_append]; omega
  have HO2 := hide own2
  have HE2 := hide ((unhide HE1).trans e2)
  have HL2 := hide hl2
  clear own2 e2 y1 y2 hne1 hl2 hwv
  go_wp2_with fail
  refine (layUint_exs base v2 _ _ N w2 (by omega) (unhide HO2) (by have := unhide HL2; omega) (by omega) (by simp)).mono ?_
  rintro e w3 ⟨v3, rfl, own3, e3⟩
  have s3 := e3.1.size
  have x3 := (e3.cell (p := ⟨w.heap.size, 2, none⟩) (by show w.heap.size < w2.heap.size; omega) hne2).trans x2
  obtain ⟨L, hL⟩ : ∃ L, L = l ++ layT t ++ lay ver.toNat ++ lay N := ⟨_, rfl⟩
  have hl3 : L.length ≤ 900090 := by have := lay_len N; have := unhide HL2; rw [hL, List.length_append]; omega
  have own3' : Own w3 base v3 (L ++ laysL layFld (fs.take 0)) := by rw [hL]; simpa [laysL] using own3
  have HO3 := hide own3'
  have HE3 := hide ((unhide HE2).trans e3)
  have HL3 := hide hL
  clear own3 own3' e3 x2 hne2 hL HO1 HO2 HE0 HE1 HE2 HL1 HL2
  go_wp2_with fail
  go_loopw [0, 6, 25] (fun u _ i wr => ∃ k : Nat, k ≤ N ∧ i = .int .i64 k ∧ Own wr base u (L ++ laysL layFld (fs.take k)) ∧ Ext w wr v u) (fun _ _ i _ => N - (intOf i).toNat)
  case atStart => exact ⟨0, by omega, rfl, unhide HO3, unhide HE3⟩
  case round =>
    obtain ⟨k, hk, rfl, hown, hext⟩ := hrel
    have HO := hide hown
    have HE := hide hext
    have hsr := hext.1.size
    clear hown hext
    by_cases hlt : k < N
    · have hkl : k < fs.length := by have := unhide HN; omega
      obtain ⟨ao', cap', e', q1, q2, q4⟩ := unhide HFD wr ((unhide HE).below (unhide HV) hb)
      rw [← unhide HN] at e'
      cases e'
      obtain ⟨b, off, rfl, hbl, hc⟩ := q4 (by omega)
      obtain ⟨d0, d1, d2, d3⟩ := hc k hkl
      obtain ⟨f, hf⟩ : ∃ f, f = fs[k] := ⟨_, rfl⟩
      rw [← hf] at d0 d1 d2 d3
      have HT : Hid (laysL layFld (fs.take (k + 1)) = laysL layFld (fs.take k) ++ layFld f) := hide (by rw [take_succ_get fs k hkl, laysL_snoc, hf])
      have HFO := hide (unhide HOK f (by rw [hf]; exact List.getElem_mem hkl))
      have HFN := hide (unhide HNF f (by rw [hf]; exact List.getElem_mem hkl))
      have hlk : (laysL layFld (fs.take k)).length ≤ 300 * 16 := by
        have := laysL_len (g := layFld) (m := 300) (fs.take k) (fun g hg => layFld_len (unhide HOK g (List.mem_of_mem_take hg)))
        rw [List.length_take] at this
        omega
      have HLK := hide hlk
      obtain ⟨fn, ft, fi, fss⟩ := f
      simp only at d0 d1 d2 d3
      clear hf hc q1 q2 q4 hlk
      go_wp2_with fail
      refine (layField_ext base u0 _ ⟨fn, ft, fi, fss⟩ _ (by simp; omega) (World.ownsRow.alloc (unhide HO) _) (unhide HFO) (unhide HFN) (by have := unhide HLK; rw [List.length_append]; omega)).mono ?_
      rintro e w5 ⟨v5, rfl, own5, e5⟩
      have HO5 : Hid (Own w5 base v5 (L ++ laysL layFld (fs.take (k + 1)))) := hide (by rw [unhide HT, ← List.append_assoc]; exact own5)
      have HE5 := hide (((unhide HE).alloc _).trans e5)
      clear own5 e5
      go_wp2
      go_roundw
      case rel => exact ⟨k + 1, by omega, by go_num, unhide HO5, unhide HE5⟩
      case measure => simp [intOf]; omega
    · have HR : Hid (Own wr base u0 (l ++ layEv ⟨t, ver, fs⟩)) := hide (by
        have := unhide HO
        rw [List.take_of_length_le (by have := unhide HN; omega), unhide HL3] at this
        have e : l ++ layEv ⟨t, ver, fs⟩ = l ++ layT t ++ lay ver.toNat ++ lay N ++ laysL layFld fs := by
          rw [unhide HN]; simp [layEv]
        rw [e]; exact this)
      go_wp2
      go_ret
      exact ⟨_, rfl, unhide HR, unhide HE⟩
end Go.Proofs.Ytkikfdbjfhgfoaa
