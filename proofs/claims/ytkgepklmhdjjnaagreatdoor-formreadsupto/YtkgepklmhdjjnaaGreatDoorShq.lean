/-
  DERIVED. eachPart with Read's closure.
-/
import Derived.Test.YtkgepklmhdjjnaaGreatDoorShl
namespace Go.Proofs.YtkgepklmhdjjnaaGreatDoor
open Go.RowKit Go.Maps
set_option linter.unusedVariables false

/-- A text cut at each byte c. -/
def splitA (c : UInt8) : List UInt8 → List (List UInt8)
  | [] => [[]]
  | d :: r => if d = c then [] :: splitA c r else match splitA c r with
    | p :: ps => (d :: p) :: ps
    | [] => [[d]]
theorem splitA_cut (c : UInt8) (s : List UInt8) : splitA c s = (cutA c s).1 :: (match (cutA c s).2 with | none => [] | some r => splitA c r) := by
  induction s with
  | nil => rfl
  | cons d r ih =>
    by_cases h : d = c
    · rw [splitA, cutA, if_pos h, if_pos h]
    · rw [splitA, cutA, if_neg h, if_neg h, ih]

/-- Parts gone through from the left. -/
def foldParts (S : List Fld) : List (List UInt8) → Except Int (List Fld)
  | [] => .ok S
  | p :: ps => match readStep S p with
    | .error e => .error e
    | .ok S' => foldParts S' ps
/-- What Read gathers. -/
def readAll (t : List UInt8) : Except Int (List Fld) := if t = [] then .ok [] else foldParts [] (splitA 38 t)

theorem cutA_lt {c : UInt8} {s p r : List UInt8} (h : cutA c s = (p, some r)) : r.length < s.length := by
  rcases cutA_index c s with ⟨_, h2⟩ | ⟨i, _, h2, h3⟩
  · rw [h2] at h; cases h
  · rw [h3] at h; cases h; simp; omega

theorem readStep_err {S : List Fld} {p : List UInt8} {e : Int} (h : readStep S p = .error e) : e ≠ 0 := by
  unfold readStep at h
  split at h
  · cases h; decide
  · split at h
    · rename_i e' he; cases h; exact readP_err he
    · split at h
      · cases h; decide
      · cases h
theorem readStep_len {S S' : List Fld} {p : List UInt8} (h : readStep S p = .ok S') (hl : S.length ≤ 16) : S'.length ≤ 16 := by
  unfold readStep at h
  split at h
  · cases h
  · split at h
    · cases h
    · split at h
      · cases h
      · cases h; simp; omega

def strLen : Value → Nat
  | .string s => s.size
  | _ => 0
def leftM (t : Value) : Value → Nat
  | .bool true => strLen t + 1
  | _ => 0

def EachPost (w0 : World) (C m : Nat) (r : Except Int (List Fld)) (e : Ending) (w' : World) : Prop :=
  e = .returned (.int .i64 (errS r)) ∧ ∃ S, RdSt w0 w' C m S ∧ (∀ S', r = .ok S' → S = S')

/-- Where eachPart stands: the text that is left, and whether there is one. -/
def PartSt (w0 : World) (C m : Nat) (all : Except Int (List Fld)) (t m' : Value) (wr : World) : Prop :=
  ∃ (tl : List UInt8) (more : Bool) (S : List Fld), t = sv tl ∧ m' = .bool more ∧ tl.length ≤ 140737488355328 ∧ S.length ≤ 16 ∧ all = foldParts S (if more then splitA 38 tl else []) ∧ RdSt w0 wr C m S

set_option maxHeartbeats 4000000 in
theorem eachPart_any (w0 w : World) (C m : Nat) (text : List UInt8) (h : RdSt w0 w C m []) (hva : Vars w0) (hp : text.length ≤ 140737488355328) :
    Calls Tryz.prog 36 #[sv text, .func (.func 37) #[] #[.pointer (some ⟨C, 0, none⟩)]] w (EachPost w0 C m (readAll text)) := by
  have H0 : Hid (PartSt w0 C m (readAll text) (sv text) (.bool (!text.isEmpty)) w) := hide (by
    refine ⟨text, !text.isEmpty, [], rfl, rfl, hp, by simp, ?_, h⟩
    unfold readAll
    rcases text with _ | ⟨c, r⟩
    · rfl
    · simp)
  have HVa := hide hva
  have SEG : ∀ args W, (callFunc 37 args).run Tryz.prog W = .ok (.enter 37 args) W := enters_of Tryz.func37 (by kernel_rfl) rfl
  obtain ⟨all, hall⟩ : ∃ all, all = readAll text := ⟨_, rfl⟩
  rw [← hall] at H0 ⊢
  clear h hva hall
  go_enter Tryz.func36, Tryz.ntmps36
  go_wp2_with fail
  go_loopw [0, 5, 6, 7] (fun t m' _ _ wr => PartSt w0 C m all t m' wr) (fun t m' _ _ _ => leftM t m')
  case atStart => exact unhide H0
  case round =>
    obtain ⟨tl, more, S, rfl, rfl, htl, hSl, hall, hst⟩ := hrel
    cases more with
    | false =>
      have HF : Hid (all = .ok S) := hide hall
      have HS := hide hst
      clear hall hst
      go_wp2_with fail
      go_ret
      rw [unhide HF]
      exact ⟨rfl, S, unhide HS, fun S' e => by cases e; rfl⟩
    | true =>
      have HS := hide hst
      rw [if_pos rfl, splitA_cut] at hall
      have hcl := cutA_len 38 tl
      have HC : Hid (∀ W, Calls Tryz.prog 83 #[sv tl, .string ⟨#[38]⟩] W fun e w' => e = .returned (cutV (cutA 38 tl)) ∧ Below W.heap.size W w') := hide (fun W => Cut_any tl 38 W (by omega))
      obtain ⟨cp, hcp⟩ : ∃ cp, cp = cutA 38 tl := ⟨_, rfl⟩
      rw [← hcp] at hall hcl HC
      obtain ⟨part, rest⟩ := cp
      have hlt : ∀ r, rest = some r → r.length < tl.length := fun r e => cutA_lt (by rw [← hcp, e])
      simp only at hall hcl
      clear hst hcp
      have HStep : Hid (∀ W, RdSt w0 W C m S → Calls Tryz.prog 37 #[sv part, .pointer (some ⟨C, 0, none⟩)] W (StepPost w0 C m S (readStep S part))) := hide (fun W hW => ReadC_any w0 W C m S part hW (unhide HVa) (by omega) hSl)
      rw [foldParts] at hall
      cases hr : readStep S part with
      | error e =>
        rw [hr] at hall HStep
        have HF : Hid (all = .error e) := hide hall
        have he : (e != 0) = true := by simp [readStep_err hr]
        clear hall hr
        go_wp2_with (first | (go_at_call 83; refine (unhide HC _).mono ?_; rintro e' w1 ⟨rfl, b1⟩; have HS1 := hide ((unhide HS).grown b1); clear b1) | (go_at_call 37; refine (unhide HStep _ (unhide HS1)).mono ?_; rintro e' w2 ⟨rfl, hs2⟩; simp only [errS, restS] at hs2 ⊢; have HS2 := hide hs2; clear hs2))
        go_ret
        rw [unhide HF]
        exact ⟨rfl, S, unhide HS2, fun S' e => by cases e⟩
      | ok S2 =>
        rw [hr] at hall HStep
        have hl2 := readStep_len hr hSl
        have HF := hide hall
        clear hall hr
        go_wp2_with (first | (go_at_call 83; refine (unhide HC _).mono ?_; rintro e' w1 ⟨rfl, b1⟩; have HS1 := hide ((unhide HS).grown b1); clear b1) | (go_at_call 37; refine (unhide HStep _ (unhide HS1)).mono ?_; rintro e' w2 ⟨rfl, hs2⟩; simp only [errS, restS] at hs2 ⊢; have HS2 := hide hs2; clear hs2))
        go_roundw
        case rel => exact ⟨rest.getD [], rest.isSome, S2, rfl, rfl, by omega, hl2, (by rw [unhide HF]; cases rest <;> rfl), unhide HS2⟩
        case measure =>
          cases rest with
          | none => simp [leftM]
          | some r =>
            have := hlt r rfl
            show r.length + 1 < tl.length + 1
            omega
end Go.Proofs.YtkgepklmhdjjnaaGreatDoor
