/-
  DERIVED. The walks of Latest, tooMany, wrongHead, namesOf, wrongChange.
-/
import Derived.Test.YtfgjbmpbailebaaDoorUpG
import Derived.Test.YtfgjbmpbailebaaDoorUpN
namespace Go.Proofs.YtfgjbmpbailebaaDoor
open Go.RowKit Go.Maps
set_option linter.unusedVariables false

set_option maxHeartbeats 4000000 in
theorem Latest_any (a : Option Addr) (n c : Nat) (us : List Upc) (tp : List UInt8) (w : World) (hv : UpL w (.slice a n c) us) (hfit : ∀ u ∈ us, fitU u) (hlen : us.length < 100000000000000000) (htp : tp.length ≤ 9223372036854775807) :
    Calls Tryd.prog 13 #[.slice a n c, sv tp] w fun e w' => e = .returned (.int .i64 (latestU us tp : Nat)) ∧ Below w.heap.size w w' := by
  have HFi := hide (firsts_any a n c us w hv hfit (by omega))
  obtain ⟨N, hN⟩ : ∃ N, N = us.length := ⟨_, rfl⟩
  have HN := hide hN
  rw [← hN] at hlen
  clear hv hfit hN
  go_enter Tryd.func13, Tryd.ntmps13
  go_wp2_with (go_at_call 17; refine (unhide HFi).mono ?_; rintro e w2 ⟨m, rfl, f2⟩; have HF2 := hide f2; clear f2)
  go_loopw [6, 7, 8] (fun x _ _ wr => ∃ (k : Nat), k ≤ N ∧ x = .int .i64 k ∧ Hid (∀ j, j < k → (findU us tp (j : Int)).isSome) ∧ Hid (FsSt w wr m us)) (fun x _ _ _ => N + 1 - (intOf x).toNat)
  case atStart => exact ⟨0, by omega, rfl, hide (fun j h => by omega), HF2⟩
  case round =>
    obtain ⟨k, hk, rfl, HW, HF⟩ := hrel
    clear HF2 HFi
    have lk := (unhide HF).mp.look (t := tp) (v := (k : Int)) ⟨htp, by constructor <;> omega⟩
    obtain ⟨q, hq⟩ : ∃ q, q = idxU us tp (k : Int) := ⟨_, rfl⟩
    rw [← hq] at lk
    have hfu := hasU_find us tp (k : Int)
    cases hh : hasU us tp (k : Int) with
    | true =>
      rw [hh] at lk hfu
      have HW2 : Hid (∀ j, j < k + 1 → (findU us tp (j : Int)).isSome) := hide (fun j hj => by
        by_cases e : j = k
        · rw [e]; exact hfu
        · exact unhide HW j (by omega))
      have hk2 : k + 1 ≤ N := by
        have := ver_step (l := us) (t := tp) (k := k + 1) (by have := unhide HN; omega) (unhide HW2) (by omega)
        have := unhide HN
        omega
      clear hq hh hfu
      go_wp2_with fail
      go_roundw
      case rel => exact ⟨k + 1, hk2, by go_num, HW2, HF⟩
      case measure => simp [intOf]; omega
    | false =>
      rw [hh] at lk hfu
      have hfn : findU us tp (k : Int) = none := by
        cases hc : findU us tp (k : Int) with
        | none => rfl
        | some _ => rw [hc] at hfu; cases hfu
      have HE := hide (latest_at (by have := unhide HN; omega) (unhide HW) hfn)
      clear hq hh hfu hfn
      go_wp2_with fail
      go_ret
      exact ⟨by rw [unhide HE]; rfl, (unhide HF).bel⟩

/-! ### tooMany -/
theorem tooC_any (t : List UInt8) (v : Int) (a : Option Addr) (n c : Nat) (w : World) : Calls Tryd.prog 42 #[.agg (uv t v (.slice a n c))] w fun e w' => e = .returned (.bool (decide (16 < n))) ∧ Below w.heap.size w w' := by
  have HB := hide ((Below.refl w.heap.size w).alloc (Nat.le_refl _) (.cells (uv t v (.slice a n c)) 38))
  have e : decide (16 < n) = decide ((16 : Int) < (n : Int)) := by rw [decide_eq_decide]; omega
  rw [e]
  clear e
  go_enter Tryd.func42, Tryd.ntmps42
  go_wp2_with fail
  go_ret
  exact ⟨rfl, unhide HB⟩

def manyC (u : Upc) : Bool := decide (16 < u.chs.length)
set_option maxHeartbeats 4000000 in
theorem IndexFunc_any (a : Option Addr) (n c : Nat) (us : List Upc) (w : World) (hv : UpL w (.slice a n c) us) (hlen : us.length < 100000000000000000) :
    Calls Tryd.prog 55 #[.slice a n c, .func (.func 42) #[] #[]] w fun e w' => ∃ r : Int, e = .returned (.int .i64 r) ∧ decide (0 ≤ r) = us.any manyC ∧ Below w.heap.size w w' := by
  obtain ⟨rfl, hl1, hl2⟩ := hv.len
  obtain ⟨N, hN⟩ : ∃ N, N = us.length := ⟨_, rfl⟩
  have HN := hide hN
  have HV := hide hv
  rw [← hN] at hl1 hlen ⊢
  clear hv hN
  go_enter Tryd.func55, Tryd.ntmps55
  go_wp2_with fail
  go_loopw [5, 8] (fun _ i wr => ∃ (k : Nat), k ≤ N ∧ i = .int .i64 k ∧ Hid (∀ u ∈ us.take k, manyC u = false) ∧ Hid (Below w.heap.size w wr)) (fun _ i _ => N - (intOf i).toNat)
  case atStart => exact ⟨0, by omega, rfl, hide (fun u hu => by simp at hu), hide (Below.refl _ _)⟩
  case round =>
    obtain ⟨k, hk, rfl, HA, HB⟩ := hrel
    by_cases hlt : k < N
    · have hkl : k < us.length := by have := unhide HN; omega
      obtain ⟨⟨tp, fr, chs⟩, huk⟩ : ∃ u, us[k]? = some u := ⟨_, List.getElem?_eq_getElem hkl⟩
      obtain ⟨b, off, rfl, hat⟩ := ((unhide HV).below (unhide HB) (Nat.le_refl _)).at huk
      obtain ⟨d0, d1, ca, cc, d2, -⟩ := hat
      simp only at d0 d1 d2
      have hts := take_snoc huk
      have hmem := List.mem_of_getElem? huk
      obtain ⟨cn, hcn⟩ : ∃ cn, cn = chs.length := ⟨_, rfl⟩
      rw [← hcn] at d2
      have HC : Hid (∀ W, Calls Tryd.prog 42 #[.agg (uv tp fr (.slice ca cn cc))] W fun e w' => e = .returned (.bool (decide (16 < cn))) ∧ Below W.heap.size W w') := hide (tooC_any tp fr ca cn cc)
      cases hx : decide (16 < cn) with
      | true =>
        have HR : Hid (decide (0 ≤ (k : Int)) = us.any manyC) := hide (by
          rw [decide_eq_true (by omega), eq_comm, List.any_eq_true]
          exact ⟨_, hmem, by unfold manyC; rw [← hcn]; exact hx⟩)
        rw [hx] at HC
        clear hx hcn hts hmem huk
        go_wp2_with (go_at_call 42; refine (unhide HC _).mono ?_; rintro e w3 ⟨rfl, b3⟩; have HB3 := hide ((unhide HB).trans (b3.mono (unhide HB).size)); clear b3)
        go_ret
        exact ⟨_, rfl, unhide HR, unhide HB3⟩
      | false =>
        have HA2 : Hid (∀ u ∈ us.take (k + 1), manyC u = false) := hide (fun u hu => by
          rw [hts] at hu
          rcases List.mem_append.1 hu with hu | hu
          · exact unhide HA u hu
          · rw [List.mem_singleton.1 hu]; unfold manyC; rw [← hcn]; exact hx)
        rw [hx] at HC
        clear hx hcn hts hmem huk
        go_wp2_with (go_at_call 42; refine (unhide HC _).mono ?_; rintro e w3 ⟨rfl, b3⟩; have HB3 := hide ((unhide HB).trans (b3.mono (unhide HB).size)); clear b3)
        go_roundw
        case rel => exact ⟨k + 1, by omega, by go_num, HA2, HB3⟩
        case measure => simp [intOf]; omega
    · have HR : Hid (decide ((0 : Int) ≤ -1) = us.any manyC) := hide (by
        rw [decide_eq_false (by omega), eq_comm, List.any_eq_false]
        intro u hu
        rw [unhide HA u (by rw [List.take_of_length_le (by have := unhide HN; omega)]; exact hu)]
        simp)
      go_wp2_with fail
      go_ret
      exact ⟨_, rfl, unhide HR, unhide HB⟩

set_option maxHeartbeats 1000000 in
theorem ContainsFunc_any (a : Option Addr) (n c : Nat) (us : List Upc) (w : World) (hv : UpL w (.slice a n c) us) (hlen : us.length < 100000000000000000) :
    Calls Tryd.prog 41 #[.slice a n c, .func (.func 42) #[] #[]] w fun e w' => e = .returned (.bool (us.any manyC)) ∧ Below w.heap.size w w' := by
  have HI := hide (IndexFunc_any a n c us w hv hlen)
  obtain ⟨k, hk⟩ : ∃ k, k = us.any manyC := ⟨_, rfl⟩
  rw [← hk] at HI ⊢
  clear hv hk
  go_enter Tryd.func41, Tryd.ntmps41
  go_wp2_with (go_at_call 55; refine (unhide HI).mono ?_; rintro e w3 ⟨r, rfl, hr, b3⟩; have HB3 := hide b3; have HR := hide hr; clear b3 hr)
  go_ret
  exact ⟨by rw [← unhide HR]; rfl, unhide HB3⟩

set_option maxHeartbeats 1000000 in
theorem tooMany_any (a : Option Addr) (n c : Nat) (us : List Upc) (w : World) (hv : UpL w (.slice a n c) us) (hlen : us.length < 100000000000000000) :
    Calls Tryd.prog 23 #[.slice a n c] w fun e w' => e = .returned (.bool (manyU us)) ∧ Below w.heap.size w w' := by
  have HI := hide (ContainsFunc_any a n c us w hv hlen)
  obtain ⟨rfl, hl1, hl2⟩ := hv.len
  have e : manyU us = (decide ((64 : Int) < (us.length : Int)) || us.any manyC) := by
    unfold manyU
    rw [show decide (64 < us.length) = decide ((64 : Int) < (us.length : Int)) by rw [decide_eq_decide]; omega]
    rfl
  rw [e]
  obtain ⟨k, hk⟩ : ∃ k, k = us.any manyC := ⟨_, rfl⟩
  rw [← hk] at HI ⊢
  clear hv hk e
  by_cases h : (64 : Int) < us.length
  · have h' : decide ((64 : Int) < us.length) = true := decide_eq_true h
    rw [h', Bool.true_or]
    clear h
    go_enter Tryd.func23, Tryd.ntmps23
    go_wp2_with fail
    go_ret
    exact ⟨rfl, Below.refl _ _⟩
  · have h' : decide ((64 : Int) < us.length) = false := decide_eq_false h
    rw [h', Bool.false_or]
    clear h
    go_enter Tryd.func23, Tryd.ntmps23
    go_wp2_with (go_at_call 41; refine (unhide HI).mono ?_; rintro e w3 ⟨rfl, b3⟩; have HB3 := hide b3; clear b3)
    go_ret
    exact ⟨rfl, unhide HB3⟩

/-! ### wrongHead -/
set_option maxHeartbeats 2000000 in
theorem wrongHead_any (t : List UInt8) (v : Int) (chs : List Chg) (a : Option Addr) (n c : Nat) (w : World) (ht : t.length ≤ 9223372036854775807) : Calls Tryd.prog 24 #[.agg (uv t v (.slice a n c))] w fun e w' => e = .returned (.int .i64 (headE ⟨t, v, chs⟩)) ∧ Below w.heap.size w w' := by
  have HB := hide ((Below.refl w.heap.size w).alloc (Nat.le_refl _) (.cells (uv t v (.slice a n c)) 38))
  have HNm : Hid (∀ W, Calls Tryd.prog 43 #[sv t] W fun e w' => e = .returned (.bool (nameB t)) ∧ W = w') := hide (fun W => Name_any t W (by omega))
  unfold headE
  simp only
  cases hn : nameB t with
  | false =>
    rw [hn] at HNm
    rw [if_pos rfl]
    clear hn
    go_enter Tryd.func24, Tryd.ntmps24
    go_wp2_with (go_at_call 43; refine (unhide HNm _).mono ?_; rintro e w' ⟨rfl, rfl⟩)
    go_ret
    exact ⟨rfl, unhide HB⟩
  | true =>
    rw [hn] at HNm
    rw [if_neg (by simp)]
    clear hn
    by_cases h1 : v < 0
    · rw [if_pos (.inl h1)]
      have h1' : decide (v < 0) = true := decide_eq_true h1
      clear h1
      go_enter Tryd.func24, Tryd.ntmps24
      go_wp2_with (go_at_call 43; refine (unhide HNm _).mono ?_; rintro e w' ⟨rfl, rfl⟩)
      go_ret
      exact ⟨rfl, unhide HB⟩
    · have h1' : decide (v < 0) = false := decide_eq_false h1
      by_cases h2 : 1073741824 ≤ v
      · rw [if_pos (.inr h2)]
        have h2' : decide (1073741824 ≤ v) = true := decide_eq_true h2
        clear h1 h2
        go_enter Tryd.func24, Tryd.ntmps24
        go_wp2_with (go_at_call 43; refine (unhide HNm _).mono ?_; rintro e w' ⟨rfl, rfl⟩)
        go_ret
        exact ⟨rfl, unhide HB⟩
      · rw [if_neg (by omega)]
        have h2' : decide (1073741824 ≤ v) = false := decide_eq_false h2
        clear h1 h2
        go_enter Tryd.func24, Tryd.ntmps24
        go_wp2_with (go_at_call 43; refine (unhide HNm _).mono ?_; rintro e w' ⟨rfl, rfl⟩)
        go_ret
        exact ⟨rfl, unhide HB⟩
end Go.Proofs.YtfgjbmpbailebaaDoor
