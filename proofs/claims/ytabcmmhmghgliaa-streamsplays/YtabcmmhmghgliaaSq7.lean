/-
  DERIVED. The law's own and held.
-/
import Derived.Test.YtabcmmhmghgliaaSq5
import Derived.Test.YtabcmmhmghgliaaXsame2
import Derived.BigQuiet
namespace Go.Proofs.Ytabcmmhmghgliaa
open Go.RowKit
set_option linter.unusedVariables false

set_option maxRecDepth 20000 in
set_option maxHeartbeats 8000000 in
theorem held_go (base : Nat) (ta : Option Addr) (tn tc : Nat) (la : Option Addr) (ln lc : Nat) (es : List Evn) (w : World) (ht : OwnL w base (.slice ta tn tc) es) (hl : EvL w (.slice la ln lc) es) :
    Calls Try.prog 18 #[.slice ta tn tc, .slice la ln lc] w fun e w' => e = .returned (.bool true) ∧ Below w.heap.size w w' := by
  have hn : ln = es.length := by obtain ⟨_, _, e, _⟩ := hl; cases e; rfl
  have htn : tn = ln := by obtain ⟨_, _, e⟩ := ht.sl; cases e; exact hn.symm
  subst htn
  have hnm : tn ≤ 9223372036854775807 := by obtain ⟨_, _, e, h1, h2, _⟩ := hl; cases e; omega
  have HN := hide hn
  have HT := hide ht
  have HL := hide hl
  have HB0 := hide (Below.refl w.heap.size w)
  clear ht hl hn
  go_enter Try.func18, Try.ntmps18
  go_wp2_with fail
  go_loopw [5, 6, 7] (fun i _ _ W => ∃ (j : Nat), j ≤ tn ∧ i = .int .i64 (j : Int) ∧ Hid (Below w.heap.size w W)) (fun i _ _ _ => tn - (intOf i).toNat)
  case atStart => exact ⟨0, by omega, rfl, HB0⟩
  case round =>
    clear HB0
    obtain ⟨j, hj, rfl, HB⟩ := hrel
    by_cases hlt : j < tn
    · obtain ⟨x, hx⟩ : ∃ x, es[j]? = some x := ⟨_, List.getElem?_eq_getElem (by have := unhide HN; omega)⟩
      obtain ⟨b, off, rfl, hb, c0, c1, fa, fn, fc, c2, c3⟩ := (unhide HL).get hx
      obtain ⟨b', g, gc, rfl, hb', e0, e1, e2, e3, e4, e5, e6, hg⟩ := (unhide HT).get hx
      obtain ⟨xt, xv, xf⟩ := x
      simp only at c0 c1 c3 e0 e1 e2 e3 e4 e5
      have hfn : fn = xf.length := by obtain ⟨_, _, e, _⟩ := c3; cases e; rfl
      subst hfn
      have SV : Hid (∀ W, Below w.heap.size w W → W.cell? ⟨b, off + j * 3, none⟩ = some (sv xt) ∧ W.cell? ⟨b, off + j * 3 + 1, none⟩ = some (.int .i64 xv) ∧ W.cell? ⟨b, off + j * 3 + 2, none⟩ = some (.slice fa xf.length fc) ∧ W.cell? ⟨b', j * 3, none⟩ = some (sv xt) ∧ W.cell? ⟨b', j * 3 + 1, none⟩ = some (.int .i64 xv) ∧ W.cell? ⟨b', j * 3 + 2, none⟩ = some (.slice (some ⟨g, 0, none⟩) xf.length gc)) := hide (fun W hW => ⟨keptQ hW c0, keptQ hW c1, keptQ hW c2, keptQ hW e0, keptQ hW e1, keptQ hW e2⟩)
      have SM : Hid (∀ W, Below w.heap.size w W → W.cell? ⟨g, xf.length * 4, none⟩ = some (sv [109, 105, 110, 101])) := hide (fun W hW => keptQ hW e4)
      have CS := hide (SameEvent_eq xt xv (some ⟨g, 0, none⟩) fa xf.length gc xf.length fc xf wr.drew ((e3.below (unhide HB) (Nat.le_refl _)).below (Below.refl _ wr).drew (Nat.le_refl _)) ((c3.below (unhide HB) (Nat.le_refl _)).below (Below.refl _ wr).drew (Nat.le_refl _)))
      have S0 := hide (unhide SV wr.drew (unhide HB).drew)
      have ik : (j : Int) < (tn : Int) := by omega
      have ik0 : ¬ (j : Int) < 0 := by omega
      obtain ⟨M, hM⟩ : ∃ M, M = xf.length := ⟨_, rfl⟩
      rw [← hM] at SV SM CS S0 e5
      clear c0 c1 c2 c3 e0 e1 e2 e3 e4 hx hM hb hb' hg
      go_upto_region 4 with fail
      go_region_held3 (fun w' => w'.cell? ⟨b, off + j * 3, none⟩ = some (sv xt) ∧ w'.cell? ⟨b, off + j * 3 + 1, none⟩ = some (.int .i64 xv) ∧ w'.cell? ⟨b, off + j * 3 + 2, none⟩ = some (.slice fa M fc) ∧ w'.cell? ⟨b', j * 3, none⟩ = some (sv xt) ∧ w'.cell? ⟨b', j * 3 + 1, none⟩ = some (.int .i64 xv) ∧ w'.cell? ⟨b', j * 3 + 2, none⟩ = some (.slice (some ⟨g, 0, none⟩) M gc))
        (first | with_reducible exact unhide S0 | with_reducible exact unhide S1)
        ((go_at_call 40; refine (unhide CS).mono ?_; rintro e w5 ⟨rfl, b5⟩; have HB5 := hide ((unhide HB).drew.trans (b5.mono (unhide HB).drew.size)); have S1 := hide (unhide SV w5 (unhide HB5)); clear b5))
      obtain ⟨z0, z1, z2, z3, z4, z5⟩ := unhide S1
      have z6 := unhide SM w5 (unhide HB5)
      clear SV SM CS S0 S1 HB
      go_wp2_with fail
      go_roundw
      case rel => exact ⟨j + 1, by omega, by go_num, HB5⟩
      case measure => simp [intOf]; omega
    · have ik : ¬ (j : Int) < (tn : Int) := by omega
      go_wp2
      go_ret
      exact ⟨rfl, unhide HB⟩
end Go.Proofs.Ytabcmmhmghgliaa
