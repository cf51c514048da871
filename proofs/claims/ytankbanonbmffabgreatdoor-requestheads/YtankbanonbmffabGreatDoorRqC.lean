/-
  DERIVED. The walks of all, and of what asks all bytes of a text.
-/
import Derived.Test.YtankbanonbmffabGreatDoorRqB
namespace Go.Proofs.YtankbanonbmffabGreatDoor
open Go.RowKit
set_option linter.unusedVariables false

theorem qenters_ok {f : FuncId} {fn : Func} {c : Code} (hf : Tryz.prog.funcs[f]? = some fn) (hname : (fn.name == "runtime.NumGoroutine") = false) (hb : fn.body = some c) (args : Array Value) (w : World) : (callFunc f args).run Tryz.prog w = .ok (.enter f args) w := enters_of hf hname hb args w

theorem qall_take_succ {s : List UInt8} {k : Nat} {c : UInt8} {p : UInt8 → Bool} (h : s[k]? = some c) (hp : p c = true) (ha : (s.take k).all p = true) : (s.take (k + 1)).all p = true := by
  rw [List.take_add_one, h]; simp [List.all_append, ha, hp]
theorem qall_false {s : List UInt8} {k : Nat} {c : UInt8} {p : UInt8 → Bool} (h : s[k]? = some c) (hp : p c = false) : s.all p = false := by
  rw [List.all_eq_false]; exact ⟨c, List.mem_of_getElem? h, by simp [hp]⟩

set_option maxHeartbeats 2000000 in
theorem qall_any (s : List UInt8) (f : FuncId) (p : UInt8 → Bool) (hen : ∀ args w, (callFunc f args).run Tryz.prog w = .ok (.enter f args) w) (hf : ∀ c W, Calls Tryz.prog f #[bv c] W fun e w' => e = .returned (.bool (p c)) ∧ w' = W) (w : World) (hs : s.length ≤ 9223372036854775000) :
    Calls Tryz.prog 32 #[qv s, .func (.func f) #[] #[]] w fun e w' => e = .returned (.bool (s.all p)) ∧ w' = w := by
  have HF := hide hf
  clear hf
  go_enter Tryz.func32, Tryz.ntmps32
  go_wp2_with fail
  go_loopw [5, 8] (fun _ i wr => ∃ k : Nat, k ≤ s.length ∧ i = .int .i64 k ∧ Hid ((s.take k).all p = true) ∧ Hid (wr = w)) (fun _ i _ => s.length - (intOf i).toNat)
  case atStart => exact ⟨0, by omega, rfl, hide rfl, hide rfl⟩
  case round =>
    obtain ⟨k, hk, rfl, HA, HW⟩ := hrel
    by_cases hlt : k < s.length
    · obtain ⟨d, hd⟩ : ∃ d, s[k]? = some d := ⟨_, List.getElem?_eq_getElem hlt⟩
      have HD := hide hd
      have hB := qbyte_at hd
      clear hd
      cases hp : p d with
      | true =>
        have HP := hide hp
        have HA' := hide (qall_take_succ (unhide HD) hp (unhide HA))
        clear hp
        go_wp2_with (refine (unhide HF d _).mono ?_; rintro e w' ⟨rfl, rfl⟩; rw [unhide HP])
        go_roundw
        case rel => exact ⟨k + 1, by omega, by go_num, HA', HW⟩
        case measure => simp [intOf]; omega
      | false =>
        have HP := hide hp
        have HX := hide (qall_false (unhide HD) hp)
        clear hp
        go_wp2_with (refine (unhide HF d _).mono ?_; rintro e w' ⟨rfl, rfl⟩; rw [unhide HP])
        go_ret
        rw [unhide HX]
        exact ⟨rfl, unhide HW⟩
    · have HX : Hid (s.all p = true) := hide (by have := unhide HA; rwa [List.take_of_length_le (by omega)] at this)
      go_wp2_with fail
      go_ret
      rw [unhide HX]
      exact ⟨rfl, unhide HW⟩

theorem qiso (s : List UInt8) (h : s ≠ []) : (⟨s.toArray⟩ : ByteArray).toList.isEmpty = false := by
  rw [Lib.toList_data]
  cases s with
  | nil => exact absurd rfl h
  | cons _ _ => rfl

theorem isMethod_any (s : List UInt8) (w : World) (hs : s.length ≤ 9223372036854775000) : Calls Tryz.prog 15 #[qv s] w fun e w' => e = .returned (.bool (qMethod s)) ∧ w' = w := by
  have HA := hide (qall_any s 33 capB (qenters_ok Tryz.func33 (by kernel_rfl) rfl) (fun c W => isCapital_any c W) w hs)
  unfold qMethod
  rcases s with _ | ⟨c, r⟩
  · go_enter Tryz.func15, Tryz.ntmps15
    go_wp2_with fail
    go_ret
    exact ⟨rfl, rfl⟩
  · obtain ⟨A, hA⟩ : ∃ A, A = (c :: r).all capB := ⟨_, rfl⟩
    rw [← hA] at HA ⊢
    clear hA hs
    go_enter Tryz.func15, Tryz.ntmps15
    go_wp2_with (go_at_call 32; refine (unhide HA).mono ?_; rintro e w' ⟨rfl, rfl⟩)
    go_ret
    exact ⟨rfl, rfl⟩
theorem isToken_any (s : List UInt8) (w : World) (hs : s.length ≤ 9223372036854775000) : Calls Tryz.prog 18 #[qv s] w fun e w' => e = .returned (.bool (qToken s)) ∧ w' = w := by
  have HA := hide (qall_any s 37 qTok (qenters_ok Tryz.func37 (by kernel_rfl) rfl) (fun c W => isTokenByte_any c W) w hs)
  unfold qToken
  rcases s with _ | ⟨c, r⟩
  · go_enter Tryz.func18, Tryz.ntmps18
    go_wp2_with fail
    go_ret
    exact ⟨rfl, rfl⟩
  · obtain ⟨A, hA⟩ : ∃ A, A = (c :: r).all qTok := ⟨_, rfl⟩
    rw [← hA] at HA ⊢
    clear hA hs
    go_enter Tryz.func18, Tryz.ntmps18
    go_wp2_with (go_at_call 32; refine (unhide HA).mono ?_; rintro e w' ⟨rfl, rfl⟩)
    go_ret
    exact ⟨rfl, rfl⟩
theorem isValue_any (s : List UInt8) (w : World) (hs : s.length ≤ 9223372036854775000) : Calls Tryz.prog 19 #[qv s] w fun e w' => e = .returned (.bool (s.all qVal)) ∧ w' = w := by
  have HA := hide (qall_any s 38 qVal (qenters_ok Tryz.func38 (by kernel_rfl) rfl) (fun c W => isValueByte_any c W) w hs)
  clear hs
  go_enter Tryz.func19, Tryz.ntmps19
  go_wp2_with (go_at_call 32; refine (unhide HA).mono ?_; rintro e w' ⟨rfl, rfl⟩)
  go_ret
  exact ⟨rfl, rfl⟩
theorem isLength_any (s : List UInt8) (w : World) (hs : s.length ≤ 9223372036854775000) : Calls Tryz.prog 23 #[qv s] w fun e w' => e = .returned (.bool (qLength s)) ∧ w' = w := by
  have HA := hide (qall_any s 45 digitB (qenters_ok Tryz.func45 (by kernel_rfl) rfl) (fun c W => isDigit_any c W) w hs)
  unfold qLength
  obtain ⟨A, hA⟩ : ∃ A, A = s.all digitB := ⟨_, rfl⟩
  rw [← hA] at HA ⊢
  clear hA hs
  by_cases h1 : 1 ≤ s.length
  · rw [decide_eq_true h1, Bool.true_and]
    by_cases h2 : s.length ≤ 9
    · rw [decide_eq_true h2, Bool.true_and]
      go_enter Tryz.func23, Tryz.ntmps23
      go_wp2_with (go_at_call 32; refine (unhide HA).mono ?_; rintro e w' ⟨rfl, rfl⟩)
      go_ret
      exact ⟨rfl, rfl⟩
    · have h2' : decide (s.length ≤ 9) = false := decide_eq_false h2
      rw [h2', Bool.false_and]
      have h2i : decide ((s.length : Int) ≤ 9) = false := decide_eq_false (by omega)
      clear h2 h2'
      go_enter Tryz.func23, Tryz.ntmps23
      go_wp2_with fail
      go_ret
      exact ⟨rfl, rfl⟩
  · have h1' : decide (1 ≤ s.length) = false := decide_eq_false h1
    rw [h1', Bool.false_and, Bool.false_and]
    have h1i : decide ((1 : Int) ≤ s.length) = false := decide_eq_false (by omega)
    clear h1 h1'
    go_enter Tryz.func23, Tryz.ntmps23
    go_wp2_with fail
    go_ret
    exact ⟨rfl, rfl⟩
theorem isSize_any (s : List UInt8) (w : World) (hs : s.length ≤ 9223372036854775000) : Calls Tryz.prog 64 #[qv s] w fun e w' => e = .returned (.bool (qSize s)) ∧ w' = w := by
  have HA := hide (qall_any s 54 qHex (qenters_ok Tryz.func54 (by kernel_rfl) rfl) (fun c W => isHex_any c W) w hs)
  unfold qSize
  obtain ⟨A, hA⟩ : ∃ A, A = s.all qHex := ⟨_, rfl⟩
  rw [← hA] at HA ⊢
  clear hA hs
  by_cases h1 : 1 ≤ s.length
  · rw [decide_eq_true h1, Bool.true_and]
    by_cases h2 : s.length ≤ 4
    · rw [decide_eq_true h2, Bool.true_and]
      go_enter Tryz.func64, Tryz.ntmps64
      go_wp2_with (go_at_call 32; refine (unhide HA).mono ?_; rintro e w' ⟨rfl, rfl⟩)
      go_ret
      exact ⟨rfl, rfl⟩
    · have h2' : decide (s.length ≤ 4) = false := decide_eq_false h2
      rw [h2', Bool.false_and]
      have h2i : decide ((s.length : Int) ≤ 4) = false := decide_eq_false (by omega)
      clear h2 h2'
      go_enter Tryz.func64, Tryz.ntmps64
      go_wp2_with fail
      go_ret
      exact ⟨rfl, rfl⟩
  · have h1' : decide (1 ≤ s.length) = false := decide_eq_false h1
    rw [h1', Bool.false_and, Bool.false_and]
    have h1i : decide ((1 : Int) ≤ s.length) = false := decide_eq_false (by omega)
    clear h1 h1'
    go_enter Tryz.func64, Tryz.ntmps64
    go_wp2_with fail
    go_ret
    exact ⟨rfl, rfl⟩
end Go.Proofs.YtankbanonbmffabGreatDoor
