/-
  DERIVED. The walk of firsts.
-/
import Derived.Test.YtfgjbmpbailebaaDoorUpF
namespace Go.Proofs.YtfgjbmpbailebaaDoor
open Go.RowKit Go.Maps
set_option linter.unusedVariables false

theorem take_snoc {us : List Upc} {k : Nat} {u : Upc} (h : us[k]? = some u) : us.take (k + 1) = us.take k ++ [u] := by
  rw [List.take_add_one, h]; rfl
theorem mmU (k : Nat) (w : World) : (Instr.makeMap 40 (some (.int .i64 (k : Nat)))).run Tryd.prog w = .ok (.map (some w.heap.size)) (w.alloc (.map #[] 0)) := by
  simp [Instr.makeMap, run_underlying Tryd.underlying40, asInt, asIntOf]

/-- Where firsts stands. -/
structure FsSt (w0 w : World) (m : Nat) (S : List Upc) : Prop where
  bel : Below w0.heap.size w0 w
  mp : FmAt w m S
  ge : w0.heap.size ≤ m
theorem FsSt.grown {w0 w w' : World} {m : Nat} {S : List Upc} (h : FsSt w0 w m S) (hb : Below w.heap.size w w') : FsSt w0 w' m S :=
  ⟨h.bel.trans (hb.mono h.bel.size), h.mp.below hb (Nat.le_refl _), h.ge⟩

set_option maxHeartbeats 4000000 in
theorem firsts_any (a : Option Addr) (n c : Nat) (us : List Upc) (w : World) (hv : UpL w (.slice a n c) us) (hfit : ∀ u ∈ us, fitU u) (hlen : us.length < 1000000000000000000) :
    Calls Tryd.prog 17 #[.slice a n c] w fun e w' => ∃ m, e = .returned (.map (some m)) ∧ FsSt w w' m us := by
  obtain ⟨rfl, hl1, hl2⟩ := hv.len
  obtain ⟨N, hN⟩ : ∃ N, N = us.length := ⟨_, rfl⟩
  have HN := hide hN
  have HV := hide hv
  have HFit := hide hfit
  have mm := mmU N w
  have HS : Hid (FsSt w (w.alloc (.map #[] 0)) w.heap.size (us.take 0)) := hide ⟨(Below.refl _ _).alloc (Nat.le_refl _) _, FmAt.made w, Nat.le_refl _⟩
  rw [← hN] at hl1 hlen ⊢
  obtain ⟨m, hm⟩ : ∃ m, m = w.heap.size := ⟨_, rfl⟩
  rw [← hm] at HS mm
  clear hv hfit hN hm
  go_enter Tryd.func17, Tryd.ntmps17
  go_wp2_with fail
  go_loopw [4, 5, 6, 7, 13] (fun _ _ _ _ i wr => ∃ (k : Nat), k ≤ N ∧ i = .int .i64 k ∧ Hid (FsSt w wr m (us.take k))) (fun _ _ _ _ i _ => N - (intOf i).toNat)
  case atStart => exact ⟨0, by omega, rfl, HS⟩
  case round =>
    obtain ⟨k, hk, rfl, HP⟩ := hrel
    clear HS mm
    by_cases hlt : k < N
    · have hkl : k < us.length := by have := unhide HN; omega
      obtain ⟨⟨tp, fr, chs⟩, huk⟩ : ∃ u, us[k]? = some u := ⟨_, List.getElem?_eq_getElem hkl⟩
      have hfu := unhide HFit _ (List.mem_of_getElem? huk)
      have hok : okKey tp fr := ⟨hfu.1, hfu.2.1⟩
      obtain ⟨b, off, rfl, hat⟩ := ((unhide HV).below (unhide HP).bel (Nat.le_refl _)).at huk
      obtain ⟨d0, d1, ca, cc, d2, -⟩ := hat
      simp only at d0 d1 d2
      have hlk : (us.take k).length = k := by simp; omega
      have hts := take_snoc huk
      have hsz := (unhide HP).bel.size
      obtain ⟨cn, hcn⟩ : ∃ cn, cn = chs.length := ⟨_, rfl⟩
      rw [← hcn] at d2
      have HSt : Hid (∀ W, Calls Tryd.prog 25 #[.agg (uv tp fr (.slice ca cn cc))] W fun e w' => e = .returned (stepV tp fr) ∧ Below W.heap.size W w') := hide (stepOf_any tp fr ca cn cc)
      clear hfu hcn
      cases hh : hasU (us.take k) tp fr with
      | true =>
        have HNx : Hid (∀ W, FsSt w W m (us.take k) → FsSt w W m (us.take (k + 1))) := hide (fun W h => ⟨h.bel, by rw [hts]; exact h.mp.same hh, h.ge⟩)
        have HH := hide hh
        clear huk hts hh
        go_upto_region 5 with fail
        have hb2 : Below wr.heap.size wr (wr.alloc (.cells (uv tp fr (.slice ca cn cc)) 38)) := (Below.refl _ _).alloc (Nat.le_refl _) _
        have HX2 := hide (UBx.new wr tp fr (.slice ca cn cc))
        have HP2 := hide ((unhide HP).grown hb2)
        obtain ⟨w2, hw2⟩ : ∃ w2, w2 = wr.alloc (.cells (uv tp fr (.slice ca cn cc)) 38) := ⟨_, rfl⟩
        rw [show wr.alloc (.cells #[Value.string ⟨tp.toArray⟩, .int .i64 fr, .slice ca cn cc] 38) = w2 from hw2.symm]
        rw [← hw2] at HX2 HP2
        obtain ⟨q, hq⟩ : ∃ q, q = wr.heap.size := ⟨_, rfl⟩
        rw [← hq] at HX2 ⊢
        obtain ⟨x0, x1, x2⟩ := (unhide HX2).cells
        clear hb2 hw2 hq d0 d1 d2 hsz
        go_wp2_with (go_at_call 25; refine (unhide HSt _).mono ?_; rintro e w3 ⟨rfl, b3⟩; have HP3 := hide ((unhide HP2).grown b3); have lk := (unhide HP3).mp.look hok; rw [unhide HH] at lk; clear b3)
        go_roundw
        case rel => exact ⟨k + 1, by omega, by go_num, hide (unhide HNx _ (unhide HP3))⟩
        case measure => simp [intOf]; omega
      | false =>
        have HPut : Hid (∀ W, FsSt w W m (us.take k) → ∃ w', (Instr.mapUpdate 40 (.map (some m)) (stepV tp fr) (.int .i64 (k : Nat))).run Tryd.prog W = .ok () w' ∧ FsSt w w' m (us.take (k + 1))) := hide (fun W h => by
          obtain ⟨w', hrun, hf, hg⟩ := h.mp.put (u := ⟨tp, fr, chs⟩) hok hh (by rw [hlk]; omega)
          rw [hlk] at hrun
          exact ⟨w', hrun, h.bel.grown hg h.bel.size (fun k e => by cases e; exact h.ge), by rw [hts]; exact hf, h.ge⟩)
        have HH := hide hh
        clear huk hts hh
        go_upto_region 5 with fail
        have hb2 : Below wr.heap.size wr (wr.alloc (.cells (uv tp fr (.slice ca cn cc)) 38)) := (Below.refl _ _).alloc (Nat.le_refl _) _
        have HX2 := hide (UBx.new wr tp fr (.slice ca cn cc))
        have HP2 := hide ((unhide HP).grown hb2)
        obtain ⟨w2, hw2⟩ : ∃ w2, w2 = wr.alloc (.cells (uv tp fr (.slice ca cn cc)) 38) := ⟨_, rfl⟩
        rw [show wr.alloc (.cells #[Value.string ⟨tp.toArray⟩, .int .i64 fr, .slice ca cn cc] 38) = w2 from hw2.symm]
        rw [← hw2] at HX2 HP2
        obtain ⟨q, hq⟩ : ∃ q, q = wr.heap.size := ⟨_, rfl⟩
        rw [← hq] at HX2 ⊢
        obtain ⟨x0, x1, x2⟩ := (unhide HX2).cells
        clear hb2 hw2 hq d0 d1 d2 hsz
        go_upto_region 7 with (go_at_call 25; refine (unhide HSt _).mono ?_; rintro e w3 ⟨rfl, b3⟩; have HP3 := hide ((unhide HP2).grown b3); have HX3 := hide ((unhide HX2).below b3 (Nat.le_refl _)); have lk := (unhide HP3).mp.look hok; rw [unhide HH] at lk; clear b3)
        clear x0 x1 x2 lk
        obtain ⟨x0, x1, x2⟩ := (unhide HX3).cells
        go_wp2_with (go_at_call 25; refine (unhide HSt _).mono ?_; rintro e w4 ⟨rfl, b4⟩; have HP4 := hide ((unhide HP3).grown b4); obtain ⟨w5, hrun, hp5⟩ := unhide HPut _ (unhide HP4); have HP5 := hide hp5; clear b4 hp5)
        go_roundw
        case rel => exact ⟨k + 1, by omega, by go_num, HP5⟩
        case measure => simp [intOf]; omega
    · have hkN : us.take k = us := List.take_of_length_le (by have := unhide HN; omega)
      rw [hkN] at HP
      clear hkN
      go_wp2_with fail
      go_ret
      exact ⟨_, rfl, unhide HP⟩
end Go.Proofs.YtfgjbmpbailebaaDoor
