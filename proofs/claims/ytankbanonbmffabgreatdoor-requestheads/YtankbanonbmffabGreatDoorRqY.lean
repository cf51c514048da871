/-
  DERIVED. Requests, plain: what is taken is within its limits; what is refused has one of four numbers.
-/
import Derived.Test.YtankbanonbmffabGreatDoorRqAw
namespace Go.Proofs.YtankbanonbmffabGreatDoor
set_option linter.unusedVariables false

theorem then_inv {α β : Type} {r : Rs α} {s : List UInt8} {f : α → List UInt8 → Rs β} {b : β} {k : Nat} (h : r.then s f = .ok b k) : ∃ a n m, r = .ok a n ∧ f a (s.drop n) = .ok b m ∧ k = n + m := by
  cases r with
  | no e => cases h
  | ok a n =>
    simp only [Rs.then] at h
    cases hf : f a (s.drop n) with
    | no e => rw [hf] at h; cases h
    | ok b' m => rw [hf] at h; cases h; exact ⟨a, n, m, rfl, hf, rfl⟩
theorem then_inv_no {α β : Type} {r : Rs α} {s : List UInt8} {f : α → List UInt8 → Rs β} {e : Int} (h : r.then s f = .no e) : r = .no e ∨ ∃ a n, r = .ok a n ∧ f a (s.drop n) = .no e := by
  cases r with
  | no e' => cases h; exact .inl rfl
  | ok a n =>
    simp only [Rs.then] at h
    cases hf : f a (s.drop n) with
    | no e' => rw [hf] at h; cases h; exact .inr ⟨a, n, rfl, hf⟩
    | ok b' m => rw [hf] at h; cases h

/-- The numbers of what is not taken. -/
def qStat (e : Int) : Prop := e = 0 ∨ e = 400 ∨ e = 413 ∨ e = 431 ∨ e = 501
theorem line_stat {k : Nat} {s : List UInt8} {e : Int} (h : qLine k s = .no e) : qStat e := by
  rcases qLine_no _ _ _ h with h | h | h
  · exact .inl h
  · exact .inr (.inl h)
  · exact .inr (.inr (.inr (.inl h)))
theorem first_stat {l : List UInt8} {e : Int} (h : qFirst l = .error e) : qStat e := by
  unfold qFirst at h
  split at h
  · split at h
    · split at h
      · cases h
      · cases h; simp [qStat]
    · cases h; simp [qStat]
  · cases h; simp [qStat]
theorem first_method {l m p q : List UInt8} (h : qFirst l = .ok (m, p, q)) : m = qGET ∨ m = qPOST := by
  unfold qFirst at h
  split at h
  · split at h
    · split at h
      · rename_i hm
        cases h
        simpa using hm
      · cases h
    · cases h
  · cases h
theorem headers_stat : ∀ (k : Nat) (hs : List Hd) (s : List UInt8) (e : Int), qHeaders k hs s = .no e → qStat e
  | 0, hs, s, e, h => by cases h; simp [qStat]
  | k + 1, hs, s, e, h => by
    rcases then_inv_no (show (qLine 0 s).then s _ = _ from h) with h | ⟨l, n, _, h⟩
    · exact line_stat h
    · split at h
      · cases h
      · split at h
        · split at h
          · exact headers_stat _ _ _ _ h
          · cases h; simp [qStat]
        · cases h; simp [qStat]
theorem head_stat {hs : List Hd} {e : Int} (h : qHead hs = .error e) : qStat e := by
  unfold qHead at h
  repeat' (split at h)
  all_goals first
    | cases h; done
    | (cases h; simp [qStat])
theorem head_host {hs : List Hd} {o : Option Nat} (h : qHead hs = .ok o) : (qGet hs qhost).2 = 1 ∧ ∀ n, o = some n → n ≤ 1000 := by
  unfold qHead at h
  split at h
  · rename_i h1
    refine ⟨h1, fun n hn => ?_⟩
    repeat' (split at h)
    all_goals cases h
    all_goals cases hn
    all_goals omega
  · cases h
theorem end_stat {s : List UInt8} {e : Int} (h : qEnd s = .no e) : qStat e := by
  rcases s with _ | ⟨b, _ | ⟨c, r⟩⟩
  · cases h; simp [qStat]
  · simp only [qEnd] at h; split at h <;> cases h <;> simp [qStat]
  · simp only [qEnd] at h
    split at h
    · split at h
      · cases h
      · cases h; simp [qStat]
    · cases h; simp [qStat]
theorem take_stat {n : Nat} {s : List UInt8} {e : Int} (h : qTake n s = .no e) : qStat e := by
  unfold qTake at h
  split at h
  · cases h
  · cases h; simp [qStat]
theorem take_len {n k : Nat} {s a : List UInt8} (h : qTake n s = .ok a k) : a.length = n := by
  unfold qTake at h
  split at h
  · cases h; simp; omega
  · cases h
theorem chunks_stat : ∀ (k : Nat) (b s : List UInt8) (e : Int), qChunks k b s = .no e → qStat e
  | 0, b, s, e, h => by cases h; simp [qStat]
  | k + 1, b, s, e, h => by
    rcases then_inv_no (show (qLine 0 s).then s _ = _ from h) with h | ⟨l, n, _, h⟩
    · exact line_stat h
    · split at h
      · split at h
        · rcases then_inv_no h with h | ⟨m, n2, _, h⟩
          · exact line_stat h
          · split at h
            · cases h
            · cases h; simp [qStat]
        · split at h
          · rcases then_inv_no h with h | ⟨x, n2, _, h⟩
            · exact take_stat h
            · rcases then_inv_no h with h | ⟨y, n3, _, h⟩
              · exact end_stat h
              · exact chunks_stat _ _ _ _ h
          · cases h; simp [qStat]
      · cases h; simp [qStat]
theorem chunks_len : ∀ (k : Nat) (b s a : List UInt8) (n : Nat), qChunks k b s = .ok a n → b.length ≤ 1000 → a.length ≤ 1000
  | 0, b, s, a, n, h, _ => by cases h
  | k + 1, b, s, a, n, h, hb => by
    obtain ⟨l, n1, n2, _, h, _⟩ := then_inv (show (qLine 0 s).then s _ = _ from h)
    split at h
    · split at h
      · obtain ⟨m, n3, n4, _, h, _⟩ := then_inv h
        split at h
        · cases h; exact hb
        · cases h
      · split at h
        · rename_i hle
          obtain ⟨x, n3, n4, hx, h, _⟩ := then_inv h
          obtain ⟨y, n5, n6, _, h, _⟩ := then_inv h
          exact chunks_len _ _ _ _ _ h (by rw [List.length_append, take_len hx]; exact hle)
        · cases h
    · cases h
theorem body_stat {o : Option Nat} {s : List UInt8} {e : Int} (h : qBody o s = .no e) : qStat e := by
  cases o with
  | none => exact chunks_stat _ _ _ _ h
  | some n => exact take_stat h
theorem body_len {o : Option Nat} {s a : List UInt8} {k : Nat} (h : qBody o s = .ok a k) (ho : ∀ n, o = some n → n ≤ 1000) : a.length ≤ 1000 := by
  cases o with
  | none => exact chunks_len _ _ _ _ _ h (by simp)
  | some n => rw [take_len h]; exact ho n rfl

theorem parse_stat {s : List UInt8} {e : Int} (h : qParse s = .no e) : qStat e := by
  rcases then_inv_no (show (qLine 0 s).then s _ = _ from h) with h | ⟨l, n, _, h⟩
  · exact line_stat h
  · split at h
    · rename_i hf; cases h; exact first_stat hf
    · rcases then_inv_no h with h | ⟨hs, n2, _, h⟩
      · exact headers_stat _ _ _ _ h
      · split at h
        · rename_i hd; cases h; exact head_stat hd
        · rcases then_inv_no h with h | ⟨b, n3, _, h⟩
          · exact body_stat h
          · cases h
/-- What a request that is taken has. -/
structure Taken (s : List UInt8) (r : Rq) (n : Nat) : Prop where
  pos : 0 < n
  le : n ≤ s.length
  body : r.b.length ≤ 1000
  heads : r.hs.length ≤ 16
  small : ∀ x ∈ r.hs, x.1.length ≤ 256 ∧ x.2.length ≤ 256
  host : (qGet r.hs qhost).2 = 1
  method : r.m = qGET ∨ r.m = qPOST
theorem parse_taken {s : List UInt8} {r : Rq} {n : Nat} (h : qParse s = .ok r n) : Taken s r n := by
  have hle := (qParse_steady.ok _ _ _ h).1
  obtain ⟨l, n1, n2, hl, h, e1⟩ := then_inv (show (qLine 0 s).then s _ = _ from h)
  split at h
  · cases h
  · rename_i m p q hf
    obtain ⟨hs, n3, n4, hh, h, e2⟩ := then_inv h
    split at h
    · cases h
    · rename_i o hd
      obtain ⟨b, n5, n6, hb, h, e3⟩ := then_inv h
      cases h
      have hk := qHeaders_ok _ _ _ _ _ hh (by simp) (fun x hx => by cases hx)
      have hho := head_host hd
      exact ⟨by have := (qLine_ok _ _ _ _ hl).1; omega, hle, body_len hb hho.2, hk.1, hk.2.1, hho.1, first_method hf⟩
end Go.Proofs.YtankbanonbmffabGreatDoor
