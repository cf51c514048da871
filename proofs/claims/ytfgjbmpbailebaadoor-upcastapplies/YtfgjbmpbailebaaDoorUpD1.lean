/-
  DERIVED. The document's find, Latest, scaled.
-/
import Derived.Test.YtfgjbmpbailebaaDoorUpN
import Derived.Test.YtfgjbmpbailebaaDoorUpY
import Derived.Test.YtfgjbmpbailebaaDoorUpF
import Derived.BigQuiet
namespace Go.Proofs.YtfgjbmpbailebaaDoor
open Go.RowKit Go.Maps
set_option linter.unusedVariables false

def fndU (us : List Upc) (t : List UInt8) (v : Int) : Int := if hasU us t v then (idxU us t v : Nat) else -1
theorem fndU_at {us : List Upc} {t : List UInt8} {v : Int} {k : Nat} {u : Upc} (h : ∀ a ∈ us.take k, isU t v a = false) (hk : us[k]? = some u) (hu : isU t v u = true) : fndU us t v = (k : Int) := by
  have hlk := (List.getElem?_eq_some_iff.1 hk).1
  have hh : hasU us t v = true := List.any_eq_true.2 ⟨u, List.mem_of_getElem? hk, hu⟩
  unfold fndU
  rw [if_pos hh]
  obtain ⟨x, hx, hf, hb⟩ := idxU_at hh
  have hxu : isU t v x = true := List.find?_some hf
  have h1 : ¬ idxU us t v < k := fun hl => by
    have : x ∈ us.take k := by
      rw [List.mem_iff_getElem?]
      exact ⟨_, by rw [List.getElem?_take_of_lt hl]; exact hx⟩
    rw [h x this] at hxu; cases hxu
  have h2 : ¬ k < idxU us t v := fun hl => by
    have : u ∈ us.take (idxU us t v) := by
      rw [List.mem_iff_getElem?]
      exact ⟨k, by rw [List.getElem?_take_of_lt hl]; exact hk⟩
    rw [hb u this] at hu; cases hu
  omega
theorem fndU_none {us : List Upc} {t : List UInt8} {v : Int} (h : ∀ a ∈ us, isU t v a = false) : fndU us t v = -1 := by
  unfold fndU
  have : hasU us t v = false := by
    unfold hasU
    rw [List.any_eq_false]; intro a ha; rw [h a ha]; simp
  rw [this]; rfl
theorem take_snocU {us : List Upc} {k : Nat} {u : Upc} (h : us[k]? = some u) : us.take (k + 1) = us.take k ++ [u] := by
  rw [List.take_add_one, h]; rfl

set_option maxHeartbeats 4000000 in
theorem rvfind_any (a : Option Addr) (n c : Nat) (us : List Upc) (tp : List UInt8) (ver : Int) (w : World) (hv : UpL w (.slice a n c) us) (hlen : us.length < 100000000000000000) :
    Calls Tryd.prog 20 #[.slice a n c, sv tp, .int .i64 ver] w fun e w' => e = .returned (.int .i64 (fndU us tp ver)) ∧ w = w' := by
  obtain ⟨rfl, hl1, hl2⟩ := hv.len
  obtain ⟨N, hN⟩ : ∃ N, N = us.length := ⟨_, rfl⟩
  have HN := hide hN
  have HV := hide hv
  rw [← hN] at hl1 hlen ⊢
  clear hv hN
  go_enter Tryd.func20, Tryd.ntmps20
  go_wp2_with fail
  go_loopw [7] (fun i wr => ∃ (k : Nat), k ≤ N ∧ i = .int .i64 k ∧ Hid (∀ u ∈ us.take k, isU tp ver u = false) ∧ Hid (w = wr)) (fun i _ => N - (intOf i).toNat)
  case atStart => exact ⟨0, by omega, rfl, hide (fun u hu => by simp at hu), hide rfl⟩
  case round =>
    obtain ⟨k, hk, rfl, HA, HW⟩ := hrel
    by_cases hlt : k < N
    · have hkl : k < us.length := by have := unhide HN; omega
      obtain ⟨⟨ut, uf, chs⟩, huk⟩ : ∃ u, us[k]? = some u := ⟨_, List.getElem?_eq_getElem hkl⟩
      obtain ⟨b, off, rfl, hat⟩ := (unhide HV).at huk
      obtain ⟨d0, d1, ca, cc, d2, -⟩ := hat
      simp only at d0 d1 d2
      rw [unhide HW] at d0 d1 d2
      by_cases h1 : ut = tp
      · have h1' : (ut == tp) = true := by simp [h1]
        by_cases h2 : uf = ver
        · have h2' : (uf == ver) = true := by simp [h2]
          have HE := hide (fndU_at (unhide HA) huk (isU_iff.2 ⟨h1, h2⟩))
          clear h1 h2 huk
          go_wp2_with fail
          go_ret
          exact ⟨by rw [unhide HE]; rfl, unhide HW⟩
        · have h2' : (uf == ver) = false := by simp [h2]
          have HA2 : Hid (∀ u ∈ us.take (k + 1), isU tp ver u = false) := hide (fun u hu => by
            rw [take_snocU huk] at hu
            rcases List.mem_append.1 hu with hu | hu
            · exact unhide HA u hu
            · rw [List.mem_singleton.1 hu]; simp [isU, h2])
          clear h1 h2 huk
          go_wp2_with fail
          go_roundw
          case rel => exact ⟨k + 1, by omega, by go_num, HA2, HW⟩
          case measure => simp [intOf]; omega
      · have h1' : (ut == tp) = false := by simp [h1]
        have HA2 : Hid (∀ u ∈ us.take (k + 1), isU tp ver u = false) := hide (fun u hu => by
          rw [take_snocU huk] at hu
          rcases List.mem_append.1 hu with hu | hu
          · exact unhide HA u hu
          · rw [List.mem_singleton.1 hu]; simp [isU, h1])
        clear h1 huk
        go_wp2_with fail
        go_roundw
        case rel => exact ⟨k + 1, by omega, by go_num, HA2, HW⟩
        case measure => simp [intOf]; omega
    · have HE := hide (fndU_none (us := us) (t := tp) (v := ver) (fun u hu => unhide HA u (by rw [List.take_of_length_le (by have := unhide HN; omega)]; exact hu)))
      go_wp2_with fail
      go_ret
      exact ⟨by rw [unhide HE]; rfl, unhide HW⟩

theorem fndU_neg {us : List Upc} {t : List UInt8} {v : Int} (h : hasU us t v = false) : fndU us t v = -1 := by unfold fndU; rw [h]; rfl
theorem fndU_pos {us : List Upc} {t : List UInt8} {v : Int} (h : hasU us t v = true) : fndU us t v = (idxU us t v : Nat) := by unfold fndU; rw [if_pos h]

set_option maxHeartbeats 4000000 in
theorem rvLatest_any (a : Option Addr) (n c : Nat) (us : List Upc) (tp : List UInt8) (w : World) (hv : UpL w (.slice a n c) us) (hlen : us.length < 100000000000000000) :
    Calls Tryd.prog 14 #[.slice a n c, sv tp] w fun e w' => e = .returned (.int .i64 (latestU us tp : Nat)) ∧ w = w' := by
  obtain ⟨rfl, hl1, hl2⟩ := hv.len
  have HF : Hid (∀ v W, w = W → Calls Tryd.prog 20 #[.slice a us.length c, sv tp, .int .i64 v] W fun e w' => e = .returned (.int .i64 (fndU us tp v)) ∧ W = w') := hide (fun v W e => by subst e; exact rvfind_any a us.length c us tp v w hv hlen)
  obtain ⟨N, hN⟩ : ∃ N, N = us.length := ⟨_, rfl⟩
  have HN := hide hN
  rw [← hN] at hl1 hlen HF ⊢
  clear hv hN
  go_enter Tryd.func14, Tryd.ntmps14
  go_wp2_with fail
  go_loopw [5] (fun x wr => ∃ (k : Nat), k ≤ N ∧ x = .int .i64 k ∧ Hid (∀ j, j < k → (findU us tp (j : Int)).isSome) ∧ Hid (w = wr)) (fun x _ => N + 1 - (intOf x).toNat)
  case atStart => exact ⟨0, by omega, rfl, hide (fun j h => by omega), hide rfl⟩
  case round =>
    obtain ⟨k, hk, rfl, HW, HWr⟩ := hrel
    have hfu := hasU_find us tp (k : Int)
    have HFk := hide (unhide HF (k : Int) wr (unhide HWr))
    have hkN : decide ((k : Int) ≤ (N : Int)) = true := decide_eq_true (by omega)
    cases hh : hasU us tp (k : Int) with
    | true =>
      rw [hh] at hfu
      have HW2 : Hid (∀ j, j < k + 1 → (findU us tp (j : Int)).isSome) := hide (fun j hj => by
        by_cases e : j = k
        · rw [e]; exact hfu
        · exact unhide HW j (by omega))
      have hk2 : k + 1 ≤ N := by
        have := ver_step (l := us) (t := tp) (k := k + 1) (by have := unhide HN; omega) (unhide HW2) (by omega)
        have := unhide HN
        omega
      rw [fndU_pos hh] at HFk
      obtain ⟨q, hq⟩ : ∃ q, q = idxU us tp (k : Int) := ⟨_, rfl⟩
      rw [← hq] at HFk
      clear hh hfu hq
      go_wp2_with (go_at_call 20; refine (unhide HFk).mono ?_; rintro e w' ⟨rfl, rfl⟩)
      go_roundw
      case rel => exact ⟨k + 1, hk2, by go_num, HW2, HWr⟩
      case measure => simp [intOf]; omega
    | false =>
      rw [hh] at hfu
      have hfn : findU us tp (k : Int) = none := by
        cases hc : findU us tp (k : Int) with
        | none => rfl
        | some _ => rw [hc] at hfu; cases hfu
      have HE := hide (latest_at (by have := unhide HN; omega) (unhide HW) hfn)
      rw [fndU_neg hh] at HFk
      clear hh hfu hfn
      go_wp2_with (go_at_call 20; refine (unhide HFk).mono ?_; rintro e w' ⟨rfl, rfl⟩)
      go_ret
      exact ⟨by rw [unhide HE]; rfl, unhide HWr⟩

set_option maxHeartbeats 4000000 in
theorem rvscaled_any (a b : Int) (w : World) : Calls Tryd.prog 40 #[.int .i64 a, .int .i64 b] w fun e w' => e = .returned (timV (timesZ a b)) ∧ w = w' := by
  by_cases ha1 : 1000000000000000 < a
  · rw [timesZ_no (.inl (inB_no (by omega)))]
    have d1 : decide (1000000000000000 < a) = true := decide_eq_true ha1
    clear ha1
    go_enter Tryd.func40, Tryd.ntmps40
    go_wp2_with fail
    go_ret2
    exact ⟨rfl, rfl⟩
  have d1 : decide (1000000000000000 < a) = false := decide_eq_false ha1
  by_cases ha2 : a < -1000000000000000
  · rw [timesZ_no (.inl (inB_no (by omega)))]
    have d2 : decide (a < -1000000000000000) = true := decide_eq_true ha2
    clear ha1 ha2
    go_enter Tryd.func40, Tryd.ntmps40
    go_wp2_with fail
    go_ret2
    exact ⟨rfl, rfl⟩
  have d2 : decide (a < -1000000000000000) = false := decide_eq_false ha2
  by_cases hb1 : 1000000000000000 < b
  · rw [timesZ_no (.inr (.inl (inB_no (by omega))))]
    have d3 : decide (1000000000000000 < b) = true := decide_eq_true hb1
    clear ha1 ha2 hb1
    go_enter Tryd.func40, Tryd.ntmps40
    go_wp2_with fail
    go_ret2
    exact ⟨rfl, rfl⟩
  have d3 : decide (1000000000000000 < b) = false := decide_eq_false hb1
  by_cases hb2 : b < -1000000000000000
  · rw [timesZ_no (.inr (.inl (inB_no (by omega))))]
    have d4 : decide (b < -1000000000000000) = true := decide_eq_true hb2
    clear ha1 ha2 hb1 hb2
    go_enter Tryd.func40, Tryd.ntmps40
    go_wp2_with fail
    go_ret2
    exact ⟨rfl, rfl⟩
  have d4 : decide (b < -1000000000000000) = false := decide_eq_false hb2
  have hia : inB a = true := inB_iff.2 (by omega)
  have hib : inB b = true := inB_iff.2 (by omega)
  by_cases ha0 : a = 0
  · subst ha0
    have hz : inB (0 * b) = true := by rw [Int.zero_mul]; rfl
    rw [timesZ_yes hia hib hz, Int.zero_mul]
    clear ha1 ha2 hb1 hb2 hia hib hz d1 d2
    go_enter Tryd.func40, Tryd.ntmps40
    go_wp2_with fail
    go_ret2
    exact ⟨rfl, rfl⟩
  have a0 : (a == 0) = false := by simp [ha0]
  by_cases hb0 : b = 0
  · subst hb0
    have hz : inB (a * 0) = true := by rw [Int.mul_zero]; rfl
    rw [timesZ_yes hia hib hz, Int.mul_zero]
    clear ha1 ha2 hb1 hb2 hia hib hz d3 d4 ha0
    go_enter Tryd.func40, Tryd.ntmps40
    go_wp2_with fail
    go_ret2
    exact ⟨rfl, rfl⟩
  have b0 : (b == 0) = false := by simp [hb0]
  obtain ⟨A, hA⟩ : ∃ A, A = a.natAbs := ⟨_, rfl⟩
  obtain ⟨B, hB⟩ : ∃ B, B = b.natAbs := ⟨_, rfl⟩
  obtain ⟨Q, hQ⟩ : ∃ Q, Q = 1000000000000000 / B := ⟨_, rfl⟩
  have hBp : 0 < B := by omega
  have dv : (1000000000000000 : Int).tdiv (B : Int) = (Q : Int) := by rw [hQ, Int.tdiv_eq_ediv_of_nonneg (by omega)]; rfl
  have hQl : Q ≤ 1000000000000000 := by rw [hQ]; exact Nat.div_le_self _ _
  have wq : IntKind.i64.wrap (Q : Int) = (Q : Int) := by rw [IntKind.wrap_i64]; omega
  have nz : ((B : Int) == 0) = false := by rw [beq_eq_false_iff_ne]; omega
  have hle : A ≤ Q ↔ A * B ≤ 1000000000000000 := by rw [hQ]; exact Nat.le_div_iff_mul_le hBp
  have key : ∃ (r : Option Int) (t : Bool), timesZ a b = r ∧ decide ((Q : Int) < (A : Int)) = t ∧ decide (Q < A) = t ∧ (t = true → r = none) ∧ (t = false → r = some (IntKind.i64.wrap (a * b))) := by
    by_cases hAQ : A ≤ Q
    · have hyes : inB (a * b) = true := by rw [mul_abs, decide_eq_true_eq, ← hA, ← hB]; exact hle.1 hAQ
      have hz := inB_iff.1 hyes
      refine ⟨_, false, timesZ_yes hia hib hyes, decide_eq_false (by omega), decide_eq_false (by omega), fun h => (by cases h), fun _ => ?_⟩
      rw [IntKind.wrap_i64]
      congr 1
      omega
    · have hno : inB (a * b) = false := by rw [mul_abs, decide_eq_false_iff_not, ← hA, ← hB]; exact fun h => hAQ (hle.2 h)
      exact ⟨_, true, timesZ_no (.inr (.inr hno)), decide_eq_true (by omega), decide_eq_true (by omega), fun _ => rfl, fun h => (by cases h)⟩
  obtain ⟨r, t, hr, ht1, ht2, hrt, hrf⟩ := key
  rw [hr]
  obtain ⟨z, hz⟩ : ∃ z, IntKind.i64.wrap (a * b) = z := ⟨_, rfl⟩
  rw [hz] at hrf
  have na : IntKind.i64.wrap (-a) = -a := by rw [IntKind.wrap_i64]; omega
  have nb : IntKind.i64.wrap (-b) = -b := by rw [IntKind.wrap_i64]; omega
  have sa : (decide (a < 0) = true ∧ -a = (A : Int)) ∨ (decide (a < 0) = false ∧ a = (A : Int)) := by
    by_cases h : a < 0
    · exact .inl ⟨decide_eq_true h, by omega⟩
    · exact .inr ⟨decide_eq_false h, by omega⟩
  have sb : (decide (b < 0) = true ∧ -b = (B : Int)) ∨ (decide (b < 0) = false ∧ b = (B : Int)) := by
    by_cases h : b < 0
    · exact .inl ⟨decide_eq_true h, by omega⟩
    · exact .inr ⟨decide_eq_false h, by omega⟩
  clear ha1 ha2 hb1 hb2 hia hib hA hB hQ hle hQl hr
  cases t with
  | true =>
    obtain rfl := hrt rfl
    clear hrt hrf ha0 hb0
    rcases sa with ⟨sa, ea⟩ | ⟨sa, ea⟩ <;> rcases sb with ⟨sb, eb⟩ | ⟨sb, eb⟩
    · have na2 := na.trans ea
      have nb2 := nb.trans eb
      clear ea eb na nb
      go_enter Tryd.func40, Tryd.ntmps40
      go_wp2_with fail
      go_ret2
      exact ⟨rfl, rfl⟩
    · have na2 := na.trans ea
      clear ea na nb
      subst eb
      go_enter Tryd.func40, Tryd.ntmps40
      go_wp2_with fail
      go_ret2
      exact ⟨rfl, rfl⟩
    · have nb2 := nb.trans eb
      clear eb nb na
      subst ea
      go_enter Tryd.func40, Tryd.ntmps40
      go_wp2_with fail
      go_ret2
      exact ⟨rfl, rfl⟩
    · clear na nb
      subst ea eb
      go_enter Tryd.func40, Tryd.ntmps40
      go_wp2_with fail
      go_ret2
      exact ⟨rfl, rfl⟩
  | false =>
    obtain rfl := hrf rfl
    clear hrt hrf ha0 hb0
    rcases sa with ⟨sa, ea⟩ | ⟨sa, ea⟩ <;> rcases sb with ⟨sb, eb⟩ | ⟨sb, eb⟩
    · have na2 := na.trans ea
      have nb2 := nb.trans eb
      clear ea eb na nb
      go_enter Tryd.func40, Tryd.ntmps40
      go_wp2_with fail
      go_ret2
      exact ⟨rfl, rfl⟩
    · have na2 := na.trans ea
      clear ea na nb
      subst eb
      go_enter Tryd.func40, Tryd.ntmps40
      go_wp2_with fail
      go_ret2
      exact ⟨rfl, rfl⟩
    · have nb2 := nb.trans eb
      clear eb nb na
      subst ea
      go_enter Tryd.func40, Tryd.ntmps40
      go_wp2_with fail
      go_ret2
      exact ⟨rfl, rfl⟩
    · clear na nb
      subst ea eb
      go_enter Tryd.func40, Tryd.ntmps40
      go_wp2_with fail
      go_ret2
      exact ⟨rfl, rfl⟩
end Go.Proofs.YtfgjbmpbailebaaDoor
