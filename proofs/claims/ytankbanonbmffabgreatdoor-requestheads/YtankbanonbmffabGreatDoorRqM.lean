/-
  DERIVED. Requests, plain: bytes, lines, and the parts of a request.
-/
import Derived.Test.YtankbanonbmffabGreatDoorShm
import Derived.Lib.SlTrimSet
namespace Go.Proofs.YtankbanonbmffabGreatDoor

def qLetter (c : UInt8) : Bool := smallB c || capB c
def qLow (c : UInt8) : Bool := decide ((97 : Int) ≤ c.toNat) && decide ((c.toNat : Int) ≤ 102)
def qHigh (c : UInt8) : Bool := decide ((65 : Int) ≤ c.toNat) && decide ((c.toNat : Int) ≤ 70)
def qHex (c : UInt8) : Bool := digitB c || qLow c || qHigh c
def qTokS : List UInt8 := [33, 35, 36, 37, 38, 39, 42, 43, 45, 46, 94, 95, 96, 124, 126]
def qTok (c : UInt8) : Bool := qLetter c || digitB c || qTokS.contains c
def qVal (c : UInt8) : Bool := decide (c.toNat = 9) || (decide ((32 : Int) ≤ c.toNat) && decide ((c.toNat : Int) ≤ 126)) || decide ((127 : Int) < c.toNat)
def qPlainS : List UInt8 := [45, 46, 95, 126]
def qPlain (c : UInt8) : Bool := qLetter c || digitB c || qPlainS.contains c

/-- Plain and escaped bytes, and some that stand for themselves. -/
def qOf (o : List UInt8) : List UInt8 → Bool
  | [] => true
  | c :: r => if qPlain c || o.contains c then qOf o r else if c.toNat = 37 then (match r with
    | a :: b :: t => qHex a && qHex b && qOf o t
    | _ => false) else false

/-- A text cut at its first byte c. -/
def qCut (c : UInt8) : List UInt8 → List UInt8 × Option (List UInt8)
  | [] => ([], none)
  | d :: r => if d = c then ([], some r) else (d :: (qCut c r).1, (qCut c r).2)
/-- A text cut at each byte c. -/
def qSplit (c : UInt8) : List UInt8 → List (List UInt8)
  | [] => [[]]
  | d :: r => if d = c then [] :: qSplit c r else (match qSplit c r with
    | a :: l => (d :: a) :: l
    | [] => [[d]])

def qTarget (s : List UInt8) : Bool := ((qCut 63 s).1.head? == some 47) && qOf [47] (qCut 63 s).1 && qOf [47, 61, 38, 39] ((qCut 63 s).2.getD [])
def qMethod (s : List UInt8) : Bool := !s.isEmpty && s.all capB
def qToken (s : List UInt8) : Bool := !s.isEmpty && s.all qTok

def qGET : List UInt8 := [71, 69, 84]
def qPOST : List UInt8 := [80, 79, 83, 84]
def qHTTP : List UInt8 := [72, 84, 84, 80, 47, 49, 46, 49]

/-- Small letters. -/
def qSm (c : UInt8) : UInt8 := if capB c then c + 32 else c
def qSmall (s : List UInt8) : List UInt8 := s.map qSm
def qLayS : List UInt8 := [32, 9]
/-- Without layout at its ends. -/
def qBare (s : List UInt8) : List UInt8 := Lib.trimS s qLayS

/-- What is read of a text, and how many bytes that has; or what else the text comes to (0: more is needed). -/
inductive Rs (α : Type) where
  | ok (a : α) (n : Nat)
  | no (s : Int)

def Rs.then {α β : Type} (r : Rs α) (s : List UInt8) (f : α → List UInt8 → Rs β) : Rs β :=
  match r with
  | .no e => .no e
  | .ok a n => match f a (s.drop n) with
    | .ok b m => .ok b (n + m)
    | .no e => .no e

/-- A line: k of its bytes were read. -/
def qCR : List UInt8 → Rs (List UInt8)
  | [] => .no 0
  | c :: _ => if c.toNat = 10 then .ok [] 2 else .no 400
def qLine : Nat → List UInt8 → Rs (List UInt8)
  | _, [] => .no 0
  | k, b :: r => if b.toNat = 13 then qCR r
    else if b.toNat = 10 then .no 400
    else if k < 256 then (match qLine (k + 1) r with
      | .ok l n => .ok (b :: l) (n + 1)
      | .no e => .no e)
    else .no 431

def qTake (n : Nat) (s : List UInt8) : Rs (List UInt8) := if n ≤ s.length then .ok (s.take n) n else .no 0
/-- CR and LF. -/
def qEnd : List UInt8 → Rs Unit
  | [] => .no 0
  | b :: r => if b.toNat = 13 then (match r with
      | [] => .no 0
      | c :: _ => if c.toNat = 10 then .ok () 2 else .no 400)
    else .no 400

/-- The first line. -/
def qFirst (l : List UInt8) : Except Int (List UInt8 × List UInt8 × List UInt8) := match qSplit 32 l with
  | [m, t, v] => if qMethod m && qTarget t && v == qHTTP then (if m == qGET || m == qPOST then .ok (m, (qCut 63 t).1, ((qCut 63 t).2.getD [])) else .error 501) else .error 400
  | _ => .error 400

abbrev Hd := List UInt8 × List UInt8
/-- A header line. -/
def qHeader (l : List UInt8) : Option Hd := match qCut 58 l with
  | (n, some v) => if qToken n && v.all qVal then some (qSmall n, qBare v) else none
  | _ => none

def qHeaders : Nat → List Hd → List UInt8 → Rs (List Hd)
  | 0, _, _ => .no 0
  | k + 1, hs, s => (qLine 0 s).then s fun l r => if l = [] then .ok hs 0 else if hs.length < 16 then (match qHeader l with
      | some h => qHeaders k (hs ++ [h]) r
      | none => .no 400) else .no 431

/-- The first header of a name, and how many there are. -/
def qGet (hs : List Hd) (n : List UInt8) : List UInt8 × Nat := ((((hs.filter (·.1 == n)).head?).map (·.2)).getD [], (hs.filter (·.1 == n)).length)

def qhost : List UInt8 := [104, 111, 115, 116]
def qte : List UInt8 := [116, 114, 97, 110, 115, 102, 101, 114, 45, 101, 110, 99, 111, 100, 105, 110, 103]
def qcl : List UInt8 := [99, 111, 110, 116, 101, 110, 116, 45, 108, 101, 110, 103, 116, 104]
def qchunked : List UInt8 := [99, 104, 117, 110, 107, 101, 100]
def qconn : List UInt8 := [99, 111, 110, 110, 101, 99, 116, 105, 111, 110]
def qclose : List UInt8 := [99, 108, 111, 115, 101]

def qDec (s : List UInt8) : Nat := s.foldl (fun n c => 10 * n + (c.toNat - 48)) 0
def qLength (s : List UInt8) : Bool := decide (1 ≤ s.length) && decide (s.length ≤ 9) && s.all digitB
/-- How the body is to be read: so many bytes, or in chunks. -/
def qHead (hs : List Hd) : Except Int (Option Nat) :=
  if (qGet hs qhost).2 = 1 then
    (if 0 < (qGet hs qte).2 then
      (if (qGet hs qcl).2 = 0 then (if (qGet hs qte).2 = 1 ∧ qSmall (qGet hs qte).1 = qchunked then .ok none else .error 501) else .error 400)
    else if 0 < (qGet hs qcl).2 then
      (if (qGet hs qcl).2 = 1 ∧ qLength (qGet hs qcl).1 = true then (if qDec (qGet hs qcl).1 ≤ 1000 then .ok (some (qDec (qGet hs qcl).1)) else .error 413) else .error 400)
    else .ok (some 0))
  else .error 400

def qCloses (hs : List Hd) : Bool := hs.any fun h => h.1 == qconn && (qSplit 44 h.2).any fun x => qSmall (qBare x) == qclose

def qHexV (c : UInt8) : Nat := if digitB c then c.toNat - 48 else if qLow c then c.toNat - 87 else c.toNat - 55
def qSz (s : List UInt8) : Nat := s.foldl (fun n c => 16 * n + qHexV c) 0
def qSize (s : List UInt8) : Bool := decide (1 ≤ s.length) && decide (s.length ≤ 4) && s.all qHex

/-- What chunks carry. -/
def qChunks : Nat → List UInt8 → List UInt8 → Rs (List UInt8)
  | 0, _, _ => .no 0
  | k + 1, body, s => (qLine 0 s).then s fun l r => if qSize l then
      (if qSz l = 0 then (qLine 0 r).then r fun m _ => if m = [] then .ok body 0 else .no 400
      else if body.length + qSz l ≤ 1000 then (qTake (qSz l) r).then r fun x t => (qEnd t).then t fun _ u => qChunks k (body ++ x) u
      else .no 413) else .no 400

structure Rq where
  m : List UInt8
  p : List UInt8
  q : List UInt8
  hs : List Hd
  b : List UInt8
  cl : Bool

def qBody (o : Option Nat) (s : List UInt8) : Rs (List UInt8) := match o with
  | some n => qTake n s
  | none => qChunks 1001 [] s

def qParse (s : List UInt8) : Rs Rq :=
  (qLine 0 s).then s fun l s => match qFirst l with
  | .error e => .no e
  | .ok (m, p, q) => (qHeaders 17 [] s).then s fun hs s => match qHead hs with
    | .error e => .no e
    | .ok o => (qBody o s).then s fun b _ => .ok ⟨m, p, q, hs, b, qCloses hs⟩ 0

/-! ### What is told of a text stays true of every text that begins with it -/
structure Steady {α : Type} (p : List UInt8 → Rs α) : Prop where
  ok : ∀ s a n, p s = .ok a n → n ≤ s.length ∧ ∀ t, p (s.take n ++ t) = .ok a n
  no : ∀ s e, p s = .no e → e ≠ 0 → ∀ t, p (s ++ t) = .no e

theorem Steady.all {α : Type} {p : List UInt8 → Rs α} (h : Steady p) {s : List UInt8} {a : α} {n : Nat} (hs : p s = .ok a n) (t : List UInt8) : p (s ++ t) = .ok a n := by
  have := (h.ok s a n hs).2 (s.drop n ++ t)
  rwa [← List.append_assoc, List.take_append_drop] at this

theorem Steady.bind {α β : Type} {p : List UInt8 → Rs α} {f : α → List UInt8 → Rs β} (hp : Steady p) (hf : ∀ a, Steady (f a)) : Steady (fun s => (p s).then s f) := by
  constructor
  · intro s b k h
    cases hps : p s with
    | no e => rw [hps] at h; simp only [Rs.then] at h; cases h
    | ok a n =>
      rw [hps] at h
      simp only [Rs.then] at h
      obtain ⟨h1, h2⟩ := hp.ok s a n hps
      cases hfa : f a (s.drop n) with
      | no e => rw [hfa] at h; cases h
      | ok b' m =>
        rw [hfa] at h
        cases h
        obtain ⟨h3, h4⟩ := (hf a).ok _ _ _ hfa
        rw [List.length_drop] at h3
        refine ⟨by omega, fun t => ?_⟩
        have e : s.take (n + m) ++ t = s.take n ++ ((s.drop n).take m ++ t) := by
          rw [List.take_add, List.append_assoc]
        show (p (s.take (n + m) ++ t)).then _ f = _
        rw [e, h2]
        simp only [Rs.then]
        rw [show (s.take n ++ ((s.drop n).take m ++ t)).drop n = (s.drop n).take m ++ t by
          rw [List.drop_append, List.drop_take, Nat.sub_self]; simp [Nat.min_eq_left h1], h4]
  · intro s e h he t
    cases hps : p s with
    | no e' =>
      rw [hps] at h
      simp only [Rs.then] at h
      cases h
      show (p (s ++ t)).then _ f = _
      rw [hp.no s e hps he t]
      rfl
    | ok a n =>
      rw [hps] at h
      simp only [Rs.then] at h
      obtain ⟨h1, h2⟩ := hp.ok s a n hps
      show (p (s ++ t)).then _ f = _
      rw [hp.all hps t]
      simp only [Rs.then]
      rw [List.drop_append_of_le_length h1]
      cases hfa : f a (s.drop n) with
      | ok b m => rw [hfa] at h; cases h
      | no e' =>
        rw [hfa] at h
        cases h
        rw [(hf a).no _ _ hfa he t]

theorem Steady.const {α : Type} (a : α) : Steady (fun _ => Rs.ok a 0) :=
  ⟨fun s b n h => (by cases h; exact ⟨Nat.zero_le _, fun _ => rfl⟩), fun _ _ h => (by cases h)⟩
theorem Steady.fail {α : Type} (e : Int) : Steady (fun _ => (Rs.no e : Rs α)) :=
  ⟨fun s b n h => (by cases h), fun _ e' h _ _ => h⟩
theorem Steady.ite {α : Type} {c : Prop} [Decidable c] {p q : List UInt8 → Rs α} (hp : Steady p) (hq : Steady q) : Steady (fun s => if c then p s else q s) := by
  by_cases h : c
  · simpa [h] using hp
  · simpa [h] using hq

theorem qLine_cons (k : Nat) (b : UInt8) (r : List UInt8) : qLine k (b :: r) = if b.toNat = 13 then qCR r else if b.toNat = 10 then .no 400 else if k < 256 then (match qLine (k + 1) r with
      | .ok l n => .ok (b :: l) (n + 1)
      | .no e => .no e)
    else .no 431 := rfl

theorem qLine_steady (k : Nat) : Steady (qLine k) := by
  constructor
  · intro s
    induction s generalizing k with
    | nil => intro a n h; simp [qLine] at h
    | cons b r ih =>
      intro a n h
      rw [qLine_cons] at h
      split at h
      · rename_i hb
        rcases r with _ | ⟨c, r⟩
        · simp only [qCR] at h; cases h
        · simp only [qCR] at h
          split at h
          · rename_i hc
            cases h
            refine ⟨by simp, fun t => ?_⟩
            simp [qLine, qCR, hb, hc]
          · cases h
      · rename_i hb
        split at h
        · cases h
        · rename_i hb2
          split at h
          · rename_i hk
            cases hl : qLine (k + 1) r with
            | no e => rw [hl] at h; cases h
            | ok l m =>
              rw [hl] at h
              cases h
              obtain ⟨h1, h2⟩ := ih (k + 1) l m hl
              refine ⟨by simp; omega, fun t => ?_⟩
              rw [List.take_succ_cons, List.cons_append, qLine_cons, if_neg hb, if_neg hb2, if_pos hk, h2]
          · cases h
  · intro s
    induction s generalizing k with
    | nil => intro e h he; simp [qLine] at h; exact absurd h.symm he
    | cons b r ih =>
      intro e h he t
      rw [qLine_cons] at h
      rw [List.cons_append, qLine_cons]
      split at h
      · rename_i hb
        rw [if_pos hb]
        rcases r with _ | ⟨c, r⟩
        · simp only [qCR] at h; cases h; exact absurd rfl he
        · exact h
      · rename_i hb
        rw [if_neg hb]
        split at h
        · rename_i hb2; rw [if_pos hb2]; exact h
        · rename_i hb2
          rw [if_neg hb2]
          split at h
          · rename_i hk
            rw [if_pos hk]
            cases hl : qLine (k + 1) r with
            | ok l m => rw [hl] at h; cases h
            | no e' =>
              rw [hl] at h
              cases h
              rw [ih (k + 1) e hl he t]
          · rename_i hk; rw [if_neg hk]; exact h

theorem qTake_steady (n : Nat) : Steady (qTake n) := by
  constructor
  · intro s a m h
    unfold qTake at h
    split at h
    · rename_i hn
      cases h
      refine ⟨hn, fun t => ?_⟩
      unfold qTake
      rw [if_pos (by simp; omega)]
      congr 1
      rw [List.take_append_of_le_length (by simp; omega), List.take_take, Nat.min_self]
    · cases h
  · intro s e h he
    unfold qTake at h
    split at h
    · cases h
    · cases h; exact absurd rfl he

theorem qEnd_steady : Steady qEnd := by
  constructor
  · intro s a n h
    rcases s with _ | ⟨b, _ | ⟨c, r⟩⟩
    · cases h
    · simp only [qEnd] at h; split at h <;> cases h
    · simp only [qEnd] at h
      split at h
      · rename_i hb
        split at h
        · rename_i hc
          cases h
          exact ⟨by simp, fun t => by simp [qEnd, hb, hc]⟩
        · cases h
      · cases h
  · intro s e h he t
    rcases s with _ | ⟨b, _ | ⟨c, r⟩⟩
    · cases h; exact absurd rfl he
    · simp only [qEnd] at h
      split at h
      · cases h; exact absurd rfl he
      · rename_i hb; cases h; simp [qEnd, hb]
    · simp only [qEnd, List.cons_append] at h ⊢; exact h

theorem qHeaders_steady : ∀ (k : Nat) (hs : List Hd), Steady (qHeaders k hs)
  | 0, hs => Steady.fail 0
  | k + 1, hs => by
    show Steady (fun s => (qLine 0 s).then s fun l r => if l = [] then .ok hs 0 else if hs.length < 16 then (match qHeader l with
      | some h => qHeaders k (hs ++ [h]) r
      | none => .no 400) else .no 431)
    refine (qLine_steady 0).bind fun l => ?_
    refine Steady.ite (Steady.const hs) (Steady.ite ?_ (Steady.fail 431))
    cases qHeader l with
    | none => exact Steady.fail 400
    | some h => exact qHeaders_steady k (hs ++ [h])

theorem qChunks_steady : ∀ (k : Nat) (b : List UInt8), Steady (qChunks k b)
  | 0, b => Steady.fail 0
  | k + 1, b => by
    show Steady (fun s => (qLine 0 s).then s fun l r => if qSize l then
      (if qSz l = 0 then (qLine 0 r).then r fun m _ => if m = [] then .ok b 0 else .no 400
      else if b.length + qSz l ≤ 1000 then (qTake (qSz l) r).then r fun x t => (qEnd t).then t fun _ u => qChunks k (b ++ x) u
      else .no 413) else .no 400)
    refine (qLine_steady 0).bind fun l => ?_
    refine Steady.ite (Steady.ite ?_ (Steady.ite ?_ (Steady.fail 413))) (Steady.fail 400)
    · exact (qLine_steady 0).bind fun m => Steady.ite (Steady.const b) (Steady.fail 400)
    · exact (qTake_steady _).bind fun x => qEnd_steady.bind fun _ => qChunks_steady k (b ++ x)

theorem qParse_steady : Steady qParse := by
  unfold qParse
  refine (qLine_steady 0).bind fun l => ?_
  cases qFirst l with
  | error e => exact Steady.fail e
  | ok x =>
    obtain ⟨m, p, q⟩ := x
    refine (qHeaders_steady 17 []).bind fun hs => ?_
    cases qHead hs with
    | error e => exact Steady.fail e
    | ok o =>
      refine Steady.bind (p := qBody o) ?_ fun b => Steady.const _
      cases o with
      | none => exact qChunks_steady 1001 []
      | some n => exact qTake_steady n
end Go.Proofs.YtankbanonbmffabGreatDoor
