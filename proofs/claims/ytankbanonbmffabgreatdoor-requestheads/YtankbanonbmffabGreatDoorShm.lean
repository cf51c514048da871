/-
  DERIVED. Plain words of layer 12: bytes, names, escapes.
-/
import Derived.Lib.ItoaNum
import Derived.Lib.AtoiAll
import Derived.Lib.Join
namespace Go.Proofs.YtankbanonbmffabGreatDoor

def smallB (c : UInt8) : Bool := decide ((97 : Int) ≤ c.toNat) && decide ((c.toNat : Int) ≤ 122)
def capB (c : UInt8) : Bool := decide ((65 : Int) ≤ c.toNat) && decide ((c.toNat : Int) ≤ 90)
def digitB (c : UInt8) : Bool := decide ((48 : Int) ≤ c.toNat) && decide ((c.toNat : Int) ≤ 57)
def markB (c : UInt8) : Bool := decide (c.toNat = 45) || decide (c.toNat = 46) || decide (c.toNat = 95) || decide (c.toNat = 126)
/-- A byte that stands as it is. -/
def plainB (c : UInt8) : Bool := smallB c || capB c || digitB c || markB c
/-- A byte of a name. -/
def nchB (c : UInt8) : Bool := smallB c || digitB c || decide (c.toNat = 95)
/-- A name may be so. -/
def nameB (s : List UInt8) : Bool := s.head?.any smallB && decide (s.length ≤ 32) && s.all nchB

/-- A hexadecimal digit, in capitals. -/
def hexD (v : Nat) : UInt8 := if v < 10 then UInt8.ofNat (48 + v) else UInt8.ofNat (55 + v)
/-- What a hexadecimal digit stands for. -/
def hexV (c : UInt8) : Option Nat :=
  if digitB c then some (c.toNat - 48)
  else if 65 ≤ c.toNat ∧ c.toNat ≤ 70 then some (c.toNat - 55)
  else if 97 ≤ c.toNat ∧ c.toNat ≤ 102 then some (c.toNat - 87)
  else none

def escB (c : UInt8) : List UInt8 := if plainB c then [c] else [37, hexD (c.toNat / 16), hexD (c.toNat % 16)]
/-- A text escaped. -/
def esc (s : List UInt8) : List UInt8 := s.flatMap escB

/-- What an escaped text stands for. -/
def unesc : List UInt8 → Option (List UInt8)
  | [] => some []
  | c :: r =>
    if c.toNat = 37 then
      match r with
      | a :: b :: t => (match hexV a, hexV b with
        | some x, some y => (unesc t).map (UInt8.ofNat (16 * x + y) :: ·)
        | _, _ => none)
      | _ => none
    else if plainB c then (unesc r).map (c :: ·) else none

theorem all_bytes (p : UInt8 → Prop) (h : ∀ n, n < 256 → p (UInt8.ofNat n)) (c : UInt8) : p c := by
  have := h c.toNat c.toNat_lt
  rwa [UInt8.ofNat_toNat] at this

set_option maxRecDepth 100000 in
theorem escB_facts : ∀ n, n < 256 → (plainB (UInt8.ofNat n) = true → (UInt8.ofNat n).toNat ≠ 37) ∧ (plainB (UInt8.ofNat n) = false → hexV (hexD ((UInt8.ofNat n).toNat / 16)) = some ((UInt8.ofNat n).toNat / 16) ∧ hexV (hexD ((UInt8.ofNat n).toNat % 16)) = some ((UInt8.ofNat n).toNat % 16)) := by decide

theorem plain_ne {c : UInt8} (h : plainB c = true) : c.toNat ≠ 37 :=
  all_bytes (fun c => plainB c = true → c.toNat ≠ 37) (fun n hn => (escB_facts n hn).1) c h
theorem hexV_hi {c : UInt8} (h : plainB c = false) : hexV (hexD (c.toNat / 16)) = some (c.toNat / 16) :=
  all_bytes (fun c => plainB c = false → hexV (hexD (c.toNat / 16)) = some (c.toNat / 16)) (fun n hn h => ((escB_facts n hn).2 h).1) c h
theorem hexV_lo {c : UInt8} (h : plainB c = false) : hexV (hexD (c.toNat % 16)) = some (c.toNat % 16) :=
  all_bytes (fun c => plainB c = false → hexV (hexD (c.toNat % 16)) = some (c.toNat % 16)) (fun n hn h => ((escB_facts n hn).2 h).2) c h

theorem esc_cons (c : UInt8) (r : List UInt8) : esc (c :: r) = escB c ++ esc r := by simp [esc]

theorem unesc_plain {c : UInt8} (h : plainB c = true) (r : List UInt8) : unesc (c :: r) = (unesc r).map (c :: ·) := by
  rcases r with _ | ⟨a, _ | ⟨b, t⟩⟩
  · simp [unesc, plain_ne h, h]
  · simp [unesc, plain_ne h, h]
  · rw [unesc, if_neg (plain_ne h), if_pos h]

theorem unesc_hex {a b : UInt8} {x y : Nat} (ha : hexV a = some x) (hb : hexV b = some y) (t : List UInt8) : unesc (37 :: a :: b :: t) = (unesc t).map (UInt8.ofNat (16 * x + y) :: ·) := by
  rw [unesc, if_pos (by decide)]
  simp only [ha, hb]

/-- What is escaped is read again. -/
theorem unesc_esc (s : List UInt8) : unesc (esc s) = some s := by
  induction s with
  | nil => rfl
  | cons c r ih =>
    rw [esc_cons]
    cases h : plainB c with
    | true =>
      rw [show escB c = [c] by simp [escB, h]]
      rw [List.cons_append, List.nil_append, unesc_plain h, ih]; rfl
    | false =>
      rw [show escB c = [37, hexD (c.toNat / 16), hexD (c.toNat % 16)] by simp [escB, h]]
      simp only [List.cons_append, List.nil_append]
      rw [unesc_hex (hexV_hi h) (hexV_lo h), ih]
      have : 16 * (c.toNat / 16) + c.toNat % 16 = c.toNat := by omega
      rw [this]; simp

theorem esc_inj {s t : List UInt8} (h : esc s = esc t) : s = t := by
  have := unesc_esc s
  rw [h, unesc_esc t] at this
  exact (Option.some.inj this).symm

theorem esc_length (s : List UInt8) : (esc s).length ≤ 3 * s.length := by
  induction s with
  | nil => simp [esc]
  | cons c r ih =>
    rw [esc_cons]
    have : (escB c).length ≤ 3 := by unfold escB; split <;> simp
    simp; omega

/-- Bytes that come of an escape. -/
def outB (c : UInt8) : Bool := !(decide (c.toNat ≤ 32) || decide (126 < c.toNat) || decide (c.toNat = 38) || decide (c.toNat = 61) || decide (c.toNat = 47) || decide (c.toNat = 124))

set_option maxRecDepth 100000 in
theorem out_facts : ∀ n, n < 256 → (escB (UInt8.ofNat n)).all outB = true := by decide

theorem esc_out (s : List UInt8) : ∀ c ∈ esc s, outB c = true := by
  intro c hc
  obtain ⟨d, _, hd⟩ := List.mem_flatMap.1 hc
  have := all_bytes (fun d => (escB d).all outB = true) out_facts d
  exact List.all_eq_true.1 this c hd
end Go.Proofs.YtankbanonbmffabGreatDoor
