/-
  DERIVED. The law's chain and awake.
-/
import Derived.Test.YtfgjbmpbailebaaDoorUpB
import Derived.Test.YtfgjbmpbailebaaDoorUpH
namespace Go.Proofs.YtfgjbmpbailebaaDoor
open Go.RowKit Go.Maps
set_option linter.unusedVariables false

abbrev cA : Chg := ⟨3, [110], [99, 111, 117, 110, 116], fld0⟩
abbrev cB : Chg := ⟨1, [], [], ⟨[117, 110, 105, 116], true, 0, [101, 97, 99, 104]⟩⟩
abbrev cC : Chg := ⟨5, [99, 111, 117, 110, 116], [], ⟨[], false, 100, []⟩⟩
abbrev tkn : List UInt8 := [116, 97, 107, 101, 110]
abbrev uA : Upc := ⟨tkn, 0, [cA]⟩
abbrev uB : Upc := ⟨tkn, 1, [cB, cC]⟩

theorem hp {W : World} {q : Nat} {o : Obj} (h : W.heap[q]? = some o) (p : Obj) : (W.alloc p).heap[q]? = some o :=
  (((Below.refl W.heap.size W).alloc (Nat.le_refl _) p).block q (Array.getElem?_eq_some_iff.1 h).1).trans h
theorem ch_one {W : World} {g : Nat} {c : Chg} (h : W.heap[g]? = some (.cells (cgv c) 49 (0, 0))) : ChL W (.slice (some ⟨g, 0, none⟩) 1 1) [c] :=
  ⟨_, _, rfl, by simp, by omega, fun _ => ⟨g, 0, rfl, lt_of_block h, fun i d hi => by
    rcases i with _ | i
    · simp at hi; subst hi
      exact ⟨(cell_of_row _ _ _ _ _ _ h).trans rfl, (cell_of_row _ _ _ _ _ _ h).trans rfl, (cell_of_row _ _ _ _ _ _ h).trans rfl, (cell_of_row _ _ _ _ _ _ h).trans rfl, (cell_of_row _ _ _ _ _ _ h).trans rfl, (cell_of_row _ _ _ _ _ _ h).trans rfl, (cell_of_row _ _ _ _ _ _ h).trans rfl⟩
    · simp at hi⟩⟩
theorem ch_two {W : World} {g : Nat} {c d : Chg} (h : W.heap[g]? = some (.cells (cgv c ++ cgv d) 49 (0, 0))) : ChL W (.slice (some ⟨g, 0, none⟩) 2 2) [c, d] :=
  ⟨_, _, rfl, by simp, by omega, fun _ => ⟨g, 0, rfl, lt_of_block h, fun i x hi => by
    rcases i with _ | _ | i
    · simp at hi; subst hi
      exact ⟨(cell_of_row _ _ _ _ _ _ h).trans rfl, (cell_of_row _ _ _ _ _ _ h).trans rfl, (cell_of_row _ _ _ _ _ _ h).trans rfl, (cell_of_row _ _ _ _ _ _ h).trans rfl, (cell_of_row _ _ _ _ _ _ h).trans rfl, (cell_of_row _ _ _ _ _ _ h).trans rfl, (cell_of_row _ _ _ _ _ _ h).trans rfl⟩
    · simp at hi; subst hi
      exact ⟨(cell_of_row _ _ _ _ _ _ h).trans rfl, (cell_of_row _ _ _ _ _ _ h).trans rfl, (cell_of_row _ _ _ _ _ _ h).trans rfl, (cell_of_row _ _ _ _ _ _ h).trans rfl, (cell_of_row _ _ _ _ _ _ h).trans rfl, (cell_of_row _ _ _ _ _ _ h).trans rfl, (cell_of_row _ _ _ _ _ _ h).trans rfl⟩
    · simp at hi⟩⟩
theorem up_two {W : World} {g g1 g2 : Nat} {u v : Upc} {n1 n2 : Nat} (h : W.heap[g]? = some (.cells #[sv u.type, .int .i64 u.frm, .slice (some ⟨g1, 0, none⟩) n1 n1, sv v.type, .int .i64 v.frm, .slice (some ⟨g2, 0, none⟩) n2 n2] 38 (0, 0))) (e1 : n1 = u.chs.length) (e2 : n2 = v.chs.length) (h1 : ChL W (.slice (some ⟨g1, 0, none⟩) n1 n1) u.chs) (h2 : ChL W (.slice (some ⟨g2, 0, none⟩) n2 n2) v.chs) : UpL W (.slice (some ⟨g, 0, none⟩) 2 2) [u, v] := by
  subst e1 e2
  refine ⟨_, _, rfl, by simp, by omega, fun _ => ⟨g, 0, rfl, lt_of_block h, fun i x hi => ?_⟩⟩
  rcases i with _ | _ | i
  · simp at hi; subst hi
    exact ⟨(cell_of_row _ _ _ _ _ _ h).trans rfl, (cell_of_row _ _ _ _ _ _ h).trans rfl, _, _, (cell_of_row _ _ _ _ _ _ h).trans rfl, h1⟩
  · simp at hi; subst hi
    exact ⟨(cell_of_row _ _ _ _ _ _ h).trans rfl, (cell_of_row _ _ _ _ _ _ h).trans rfl, _, _, (cell_of_row _ _ _ _ _ _ h).trans rfl, h2⟩
  · simp at hi

set_option maxHeartbeats 2000000 in
theorem chain_go (w : World) : Calls Tryd.prog 16 #[] w fun e w' => ∃ a c, e = .returned (.slice a 2 c) ∧ UpL w' (.slice a 2 c) [uA, uB] ∧ Below w.heap.size w w' := by
  obtain ⟨o1, ho1⟩ : ∃ o1, o1 = Obj.cells (cgv cA) 49 := ⟨_, rfl⟩
  obtain ⟨o2, ho2⟩ : ∃ o2, o2 = Obj.cells #[sv tkn, .int .i64 0, .slice (some ⟨w.heap.size, 0, none⟩) 1 1] 38 := ⟨_, rfl⟩
  obtain ⟨o3, ho3⟩ : ∃ o3, o3 = Obj.cells (fv cB.f) 30 := ⟨_, rfl⟩
  obtain ⟨o4, ho4⟩ : ∃ o4, o4 = Obj.cells (cgv cB ++ cgv cC) 49 := ⟨_, rfl⟩
  obtain ⟨o5, ho5⟩ : ∃ o5, o5 = Obj.cells #[sv tkn, .int .i64 1, .slice (some ⟨w.heap.size + 1 + 1 + 1, 0, none⟩) 2 2] 38 := ⟨_, rfl⟩
  obtain ⟨o6, ho6⟩ : ∃ o6, o6 = Obj.cells #[sv tkn, .int .i64 0, .slice (some ⟨w.heap.size, 0, none⟩) 1 1, sv tkn, .int .i64 1, .slice (some ⟨w.heap.size + 1 + 1 + 1, 0, none⟩) 2 2] 38 := ⟨_, rfl⟩
  have g1 : ((((((w.alloc o1).alloc o2).alloc o3).alloc o4).alloc o5).alloc o6).heap[w.heap.size]? = some o1 := hp (hp (hp (hp (hp (heap_alloc_new w o1) _) _) _) _) _
  have g4 : ((((((w.alloc o1).alloc o2).alloc o3).alloc o4).alloc o5).alloc o6).heap[w.heap.size + 1 + 1 + 1]? = some o4 := by
    have := heap_alloc_new (((w.alloc o1).alloc o2).alloc o3) o4
    rw [show (((w.alloc o1).alloc o2).alloc o3).heap.size = w.heap.size + 1 + 1 + 1 by simp] at this
    exact hp (hp this _) _
  have g6 : ((((((w.alloc o1).alloc o2).alloc o3).alloc o4).alloc o5).alloc o6).heap[w.heap.size + 1 + 1 + 1 + 1 + 1]? = some o6 := by
    have := heap_alloc_new (((((w.alloc o1).alloc o2).alloc o3).alloc o4).alloc o5) o6
    rwa [show (((((w.alloc o1).alloc o2).alloc o3).alloc o4).alloc o5).heap.size = w.heap.size + 1 + 1 + 1 + 1 + 1 by simp] at this
  have b1 : Below w.heap.size w (w.alloc o1) := (Below.refl _ _).alloc (Nat.le_refl _) _
  have b2 := b1.alloc b1.size o2
  have b3 := b2.alloc b2.size o3
  have b4 := b3.alloc b3.size o4
  have b5 := b4.alloc b4.size o5
  have HB := hide (b5.alloc b5.size o6)
  subst ho1 ho2 ho3 ho4 ho5 ho6
  have HU := hide (up_two (u := uA) (v := uB) g6 rfl rfl (ch_one g1) (ch_two g4))
  clear g1 g4 g6 b1 b2 b3 b4 b5
  go_enter Tryd.func16, Tryd.ntmps16
  go_wp2_with fail
  go_ret
  exact ⟨_, _, rfl, unhide HU, unhide HB⟩

theorem chain_apply : applyU [uA, uB] tkn 0 [⟨[110], false, 3, []⟩] = (2, [⟨[99, 111, 117, 110, 116], false, 300, []⟩, ⟨[117, 110, 105, 116], true, 0, [101, 97, 99, 104]⟩]) := by decide +kernel
theorem chain_latest : latestU [uA, uB] tkn = 2 := by decide +kernel
theorem chain_check : checkU [uA, uB] = 0 := by decide +kernel
theorem chain_fits : ∀ u ∈ [uA, uB], fitU u := by
  have h1 : fitC cA := ⟨by decide, by decide, by decide, by decide, ⟨by decide, by decide⟩, by decide, by decide⟩
  have h2 : fitC cB := ⟨by decide, by decide, by decide, by decide, ⟨by decide, by decide⟩, by decide, by decide⟩
  have h3 : fitC cC := ⟨by decide, by decide, by decide, by decide, ⟨by decide, by decide⟩, by decide, by decide⟩
  intro u hu
  simp only [List.mem_cons, List.not_mem_nil, or_false] at hu
  rcases hu with rfl | rfl
  · exact ⟨by decide, ⟨by decide, by decide⟩, fun c hc => by simp only [List.mem_cons, List.not_mem_nil, or_false] at hc; subst hc; exact h1⟩
  · exact ⟨by decide, ⟨by decide, by decide⟩, fun c hc => by simp only [List.mem_cons, List.not_mem_nil, or_false] at hc; rcases hc with rfl | rfl; exact h2; exact h3⟩
abbrev fN3 : Fld := ⟨[110], false, 3, []⟩

set_option maxHeartbeats 4000000 in
theorem vawake_go (w : World) (hva : Vars w) : Calls Tryd.prog 7 #[] w fun e w' => e = .returned (.bool true) ∧ Below w.heap.size w w' := by
  have HCh : Hid (∀ W, Calls Tryd.prog 16 #[] W fun e w' => ∃ a c, e = .returned (.slice a 2 c) ∧ UpL w' (.slice a 2 c) [uA, uB] ∧ Below W.heap.size W w') := hide chain_go
  have HAp : Hid (∀ W a c, Below w.heap.size w W → UpL W (.slice a 2 c) [uA, uB] → Calls Tryd.prog 8 #[.slice a 2 c, .agg (evv tkn 0 (.slice (some ⟨W.heap.size, 0, none⟩) 1 1))] (W.alloc (.cells (fv fN3) 30)) (ApPost (W.alloc (.cells (fv fN3) 30)) tkn (2, [⟨[99, 111, 117, 110, 116], false, 300, []⟩, ⟨[117, 110, 105, 116], true, 0, [101, 97, 99, 104]⟩]) 16)) := hide (fun W a c hW hU => by
    have hb : Below W.heap.size W (W.alloc (.cells (fv fN3) 30)) := (Below.refl _ _).alloc (Nat.le_refl _) _
    have := Apply_any a 2 c [uA, uB] tkn 0 (some ⟨W.heap.size, 0, none⟩) 1 [fN3] 16 (W.alloc (.cells (fv fN3) 30)) (hU.below hb (Nat.le_refl _)) chain_fits (by decide) (one_fdn W fN3) (fun f hf => by rw [List.mem_singleton.1 hf]; exact ⟨by decide, by decide, by decide, by decide⟩) (by decide) (by decide) (by decide) (by decide) ⟨by decide, by decide⟩ ((hva.below hW (Nat.le_refl _)).below hb (Nat.le_refl _))
    rw [chain_apply] at this
    exact this)
  have HLa : Hid (∀ W a c, UpL W (.slice a 2 c) [uA, uB] → Calls Tryd.prog 13 #[.slice a 2 c, sv tkn] W fun e w' => e = .returned (.int .i64 2) ∧ Below W.heap.size W w') := hide (fun W a c hU => by
    have := Latest_any a 2 c [uA, uB] tkn W hU chain_fits (by decide) (by decide)
    rwa [chain_latest] at this)
  have HCk : Hid (∀ W a c, UpL W (.slice a 2 c) [uA, uB] → Calls Tryd.prog 11 #[.slice a 2 c] W fun e w' => e = .returned (.int .i64 0) ∧ Below W.heap.size W w') := hide (fun W a c hU => by
    have := vCheck_any a 2 c [uA, uB] W hU chain_fits (by decide)
    rwa [chain_check] at this)
  have HBc := hide (Below.refl w.heap.size w)
  clear hva
  go_enter Tryd.func7, Tryd.ntmps7
  go_upto_region 2 with (first | (go_at_call 16; refine (unhide HCh _).mono ?_; rintro e w2 ⟨a2, c2, rfl, u2, b2⟩; have HU2 := hide u2; have HB2 := hide b2; clear u2 b2) | (go_at_call 8; refine (unhide HAp _ _ _ (unhide HB2) (unhide HU2)).mono ?_; rintro e w3 ⟨v3, rfl, o3, -, -, b3⟩; obtain ⟨va3, vc3, rfl, fd3⟩ := o3.fdn; have HF3 := hide fd3.1; have hb3 := ((unhide HB2).alloc (unhide HB2).size (.cells (fv fN3) 30)).trans (b3.mono ((unhide HB2).alloc (unhide HB2).size (.cells (fv fN3) 30)).size); have HB3 := hide hb3; clear o3 b3 fd3 hb3))
  obtain ⟨ao, cap, e, h1, h2, h4⟩ := id (unhide HF3)
  simp only [Value.slice.injEq] at e
  obtain ⟨rfl, -, rfl⟩ := e
  obtain ⟨b, off, rfl, hlt, hc⟩ := h4 (by simp)
  obtain ⟨a0, a1, a2, a3⟩ := hc 0 (by simp)
  obtain ⟨b0, b1, b2, b3⟩ := hc 1 (by simp)
  have HB4 := hide ((unhide HB3).alloc (unhide HB3).size (.cells (evv tkn 2 (.slice (some ⟨b, off, none⟩) 2 vc3)) 26))
  have hx := heap_alloc_new w3 (.cells (evv tkn 2 (.slice (some ⟨b, off, none⟩) 2 vc3)) 26)
  have x1 : (w3.alloc (.cells (evv tkn 2 (.slice (some ⟨b, off, none⟩) 2 vc3)) 26)).cell? ⟨w3.heap.size, 1, none⟩ = some (.int .i64 2) := (cell_of_row _ _ _ _ _ _ hx).trans rfl
  have x2 : (w3.alloc (.cells (evv tkn 2 (.slice (some ⟨b, off, none⟩) 2 vc3)) 26)).cell? ⟨w3.heap.size, 2, none⟩ = some (.slice (some ⟨b, off, none⟩) 2 vc3) := (cell_of_row _ _ _ _ _ _ hx).trans rfl
  have bb : Below w3.heap.size w3 (w3.alloc (.cells (evv tkn 2 (.slice (some ⟨b, off, none⟩) 2 vc3)) 26)) := (Below.refl _ _).alloc (Nat.le_refl _) _
  have n0 : (w3.alloc (.cells (evv tkn 2 (.slice (some ⟨b, off, none⟩) 2 vc3)) 26)).cell? ⟨b, off + 2, none⟩ = some (.int .i64 300) := cell_kept bb (Nat.le_refl _) a2
  have s1 : (w3.alloc (.cells (evv tkn 2 (.slice (some ⟨b, off, none⟩) 2 vc3)) 26)).cell? ⟨b, off + 1 * 4 + 3, none⟩ = some (sv [101, 97, 99, 104]) := cell_kept bb (Nat.le_refl _) b3
  obtain ⟨w4, hw4⟩ : ∃ w4, w4 = w3.alloc (.cells (evv tkn 2 (.slice (some ⟨b, off, none⟩) 2 vc3)) 26) := ⟨_, rfl⟩
  rw [← hw4] at HB4 x1 x2 n0 s1
  rw [show w3.alloc (.cells #[Value.string ⟨#[116, 97, 107, 101, 110]⟩, .int .i64 2, .slice (some ⟨b, off, none⟩) 2 vc3] 26) = w4 from hw4.symm]
  obtain ⟨P, hP⟩ : ∃ P, P = w3.heap.size := ⟨_, rfl⟩
  rw [← hP] at x1 x2 ⊢
  have HBd := HB4
  clear hw4 hP hx bb h4 hc a0 a1 a2 a3 b0 b1 b2 b3 HF3 hlt h1 HBc HAp HU2 HB2 HB3
  have hs1 : off + 1 * 4 + 3 = off + 4 + 3 := by omega
  go_wp2_with (first | (go_at_call 16; refine (unhide HCh _).mono ?_; rintro e w6 ⟨a6, c6, rfl, u6, b6⟩; have HU6 := hide u6; have HBd := hide ((unhide HBd).trans (b6.mono (unhide HBd).size)); clear u6 b6) | (go_at_call 13; refine (unhide HLa _ _ _ (unhide HU6)).mono ?_; rintro e w7 ⟨rfl, b7⟩; have HBd := hide ((unhide HBd).trans (b7.mono (unhide HBd).size)); clear b7) | (go_at_call 11; refine (unhide HCk _ _ _ (unhide HU6)).mono ?_; rintro e w8 ⟨rfl, b8⟩; have HBd := hide ((unhide HBd).trans (b8.mono (unhide HBd).size)); clear b8))
  go_ret
  exact ⟨rfl, unhide HBd⟩
end Go.Proofs.YtfgjbmpbailebaaDoor
