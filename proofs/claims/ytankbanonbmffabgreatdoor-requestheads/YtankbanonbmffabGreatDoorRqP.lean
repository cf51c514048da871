/-
  DERIVED. Requests, plain: how the parts are read byte by byte.
-/
import Derived.Test.YtankbanonbmffabGreatDoorRqM
namespace Go.Proofs.YtankbanonbmffabGreatDoor

/-! ### Lines -/
def qPre (p : List UInt8) : Rs (List UInt8) → Rs (List UInt8)
  | .ok l n => .ok (p ++ l) (p.length + n)
  | .no e => .no e
theorem qPre_nil (r : Rs (List UInt8)) : qPre [] r = r := by cases r <;> simp [qPre]

/-- k bytes of a line were read. -/
def LineAt (x : List UInt8) (k : Nat) : Prop := k ≤ 256 ∧ k ≤ x.length ∧ qLine 0 x = qPre (x.take k) (qLine k (x.drop k))
theorem LineAt.start (x : List UInt8) : LineAt x 0 := ⟨by omega, by omega, by simp [qPre_nil]⟩
theorem drop_cons {x : List UInt8} {k : Nat} {b : UInt8} (hb : x[k]? = some b) : x.drop k = b :: x.drop (k + 1) := by
  obtain ⟨h1, h2⟩ := List.getElem?_eq_some_iff.1 hb
  rw [List.drop_eq_getElem_cons h1, h2]
theorem LineAt.next {x : List UInt8} {k : Nat} (h : LineAt x k) {b : UInt8} (hb : x[k]? = some b) (h13 : b.toNat ≠ 13) (h10 : b.toNat ≠ 10) (hk : k < 256) : LineAt x (k + 1) := by
  obtain ⟨h1, h2, h3⟩ := h
  have hl := (List.getElem?_eq_some_iff.1 hb).1
  refine ⟨by omega, by omega, ?_⟩
  rw [h3, drop_cons hb, qLine_cons, if_neg h13, if_neg h10, if_pos hk]
  rw [List.take_add_one, hb]
  cases qLine (k + 1) (x.drop (k + 1)) with
  | no e => rfl
  | ok l n => simp [qPre]; omega
theorem LineAt.more {x : List UInt8} {k : Nat} (h : LineAt x k) (hb : x.length ≤ k) : qLine 0 x = .no 0 := by
  obtain ⟨h1, h2, h3⟩ := h
  rw [h3, List.drop_of_length_le hb]; rfl
theorem LineAt.lf {x : List UInt8} {k : Nat} (h : LineAt x k) {b : UInt8} (hb : x[k]? = some b) (h10 : b.toNat = 10) : qLine 0 x = .no 400 := by
  obtain ⟨h1, h2, h3⟩ := h
  rw [h3, drop_cons hb, qLine_cons, if_neg (by omega), if_pos h10]; rfl
theorem LineAt.long {x : List UInt8} {k : Nat} (h : LineAt x k) {b : UInt8} (hb : x[k]? = some b) (h13 : b.toNat ≠ 13) (h10 : b.toNat ≠ 10) (hk : ¬ k < 256) : qLine 0 x = .no 431 := by
  obtain ⟨h1, h2, h3⟩ := h
  rw [h3, drop_cons hb, qLine_cons, if_neg h13, if_neg h10, if_neg hk]; rfl
theorem LineAt.cr {x : List UInt8} {k : Nat} (h : LineAt x k) {b : UInt8} (hb : x[k]? = some b) (h13 : b.toNat = 13) : qLine 0 x = match x[k + 1]? with
    | none => .no 0
    | some c => if c.toNat = 10 then .ok (x.take k) (k + 2) else .no 400 := by
  obtain ⟨h1, h2, h3⟩ := h
  have hl := (List.getElem?_eq_some_iff.1 hb).1
  rw [h3, drop_cons hb, qLine_cons, if_pos h13]
  cases hc : x[k + 1]? with
  | none =>
    rw [List.drop_of_length_le (by have := List.getElem?_eq_none_iff.1 hc; omega)]; rfl
  | some c =>
    rw [drop_cons hc]
    by_cases h10 : c.toNat = 10
    · simp [qCR, h10, qPre, List.length_take, Nat.min_eq_left h2]
    · simp [qCR, h10, qPre]

theorem qLine_ok : ∀ (s : List UInt8) (k : Nat) (l : List UInt8) (n : Nat), qLine k s = .ok l n → n = l.length + 2 ∧ n ≤ s.length ∧ (k ≤ 256 → k + l.length ≤ 256) ∧ s = l ++ 13 :: 10 :: s.drop n ∧ ∀ c ∈ l, c.toNat ≠ 13 ∧ c.toNat ≠ 10
  | [], k, l, n, h => by simp [qLine] at h
  | b :: r, k, l, n, h => by
    rw [qLine_cons] at h
    split at h
    · rename_i hb
      rcases r with _ | ⟨c, r⟩
      · simp [qCR] at h
      · simp only [qCR] at h
        split at h
        · rename_i hc
          cases h
          have e1 : b = 13 := UInt8.toNat_inj.1 (by simpa using hb)
          have e2 : c = 10 := UInt8.toNat_inj.1 (by simpa using hc)
          subst e1 e2
          exact ⟨rfl, by simp, by simp, by simp, by simp⟩
        · cases h
    · rename_i h13
      split at h
      · cases h
      · rename_i h10
        split at h
        · rename_i hk
          cases hl : qLine (k + 1) r with
          | no e => rw [hl] at h; cases h
          | ok l' m =>
            rw [hl] at h
            cases h
            obtain ⟨a1, a2, a3, a4, a5⟩ := qLine_ok r (k + 1) l' m hl
            refine ⟨by simp; omega, by simp; omega, fun _ => by have := a3 (by omega); simp; omega, ?_, ?_⟩
            · rw [List.drop_succ_cons, List.cons_append, ← a4]
            · intro c hc
              rcases List.mem_cons.1 hc with rfl | hc
              · exact ⟨h13, h10⟩
              · exact a5 c hc
        · cases h

theorem qLine_line (t : List UInt8) : ∀ (l : List UInt8) (k : Nat), (∀ c ∈ l, c.toNat ≠ 13 ∧ c.toNat ≠ 10) → k + l.length ≤ 256 → qLine k (l ++ 13 :: 10 :: t) = .ok l (l.length + 2)
  | [], k, _, _ => by simp [qLine_cons, qCR]
  | b :: r, k, h, hl => by
    obtain ⟨h13, h10⟩ := h b (by simp)
    simp only [List.length_cons] at hl
    rw [List.cons_append, qLine_cons, if_neg h13, if_neg h10, if_pos (by omega), qLine_line t r (k + 1) (fun c hc => h c (by simp [hc])) (by omega)]
    simp

/-- What a line may come to where it is none. -/
theorem qLine_no : ∀ (s : List UInt8) (k : Nat) (e : Int), qLine k s = .no e → e = 0 ∨ e = 400 ∨ e = 431
  | [], k, e, h => by simp [qLine] at h; exact .inl h.symm
  | b :: r, k, e, h => by
    rw [qLine_cons] at h
    split at h
    · rcases r with _ | ⟨c, r⟩
      · simp [qCR] at h; exact .inl h.symm
      · simp only [qCR] at h
        split at h
        · cases h
        · cases h; exact .inr (.inl rfl)
    · split at h
      · cases h; exact .inr (.inl rfl)
      · split at h
        · cases hl : qLine (k + 1) r with
          | ok l' m => rw [hl] at h; cases h
          | no e' => rw [hl] at h; cases h; exact qLine_no r (k + 1) e hl
        · cases h; exact .inr (.inr rfl)

/-! ### Cuts -/
theorem qSplit_cut (c : UInt8) (s : List UInt8) : qSplit c s = (qCut c s).1 :: (match (qCut c s).2 with | none => [] | some r => qSplit c r) := by
  induction s with
  | nil => rfl
  | cons d r ih =>
    by_cases h : d = c
    · rw [qSplit, qCut, if_pos h, if_pos h]
    · rw [qSplit, qCut, if_neg h, if_neg h, ih]
theorem qSplit_ne (c : UInt8) (s : List UInt8) : qSplit c s ≠ [] := by rw [qSplit_cut]; simp
theorem qCut_none {c : UInt8} : ∀ {s : List UInt8}, (∀ x ∈ s, x ≠ c) → qCut c s = (s, none)
  | [], _ => rfl
  | d :: r, h => by rw [qCut, if_neg (h d (by simp)), qCut_none (fun x hx => h x (by simp [hx]))]
theorem qCut_app {c : UInt8} (t : List UInt8) : ∀ {s : List UInt8}, (∀ x ∈ s, x ≠ c) → qCut c (s ++ c :: t) = (s, some t)
  | [], _ => by rw [List.nil_append, qCut, if_pos rfl]
  | d :: r, h => by rw [List.cons_append, qCut, if_neg (h d (by simp)), qCut_app t (fun x hx => h x (by simp [hx]))]
theorem qCut_spec (c : UInt8) : ∀ (s : List UInt8), (∀ x ∈ (qCut c s).1, x ≠ c) ∧ s = (qCut c s).1 ++ (match (qCut c s).2 with | none => [] | some r => c :: r)
  | [] => ⟨by simp [qCut], rfl⟩
  | d :: r => by
    by_cases h : d = c
    · rw [qCut, if_pos h]; exact ⟨by simp, by simp [h]⟩
    · rw [qCut, if_neg h]
      obtain ⟨h1, h2⟩ := qCut_spec c r
      refine ⟨fun x hx => ?_, ?_⟩
      · rcases List.mem_cons.1 hx with rfl | hx
        · exact h
        · exact h1 x hx
      · show d :: r = d :: ((qCut c r).1 ++ _); rw [← h2]
theorem qCut_len (c : UInt8) (s : List UInt8) : (qCut c s).1.length ≤ s.length ∧ ∀ r, (qCut c s).2 = some r → r.length < s.length := by
  have h := (qCut_spec c s).2
  constructor
  · rw [congrArg List.length h]; simp
  · intro r hr; rw [hr] at h; rw [congrArg List.length h]; simp; omega
theorem qSplit_no {c : UInt8} {s : List UInt8} (h : ∀ x ∈ s, x ≠ c) : qSplit c s = [s] := by rw [qSplit_cut, qCut_none h]

/-- The first line, cut twice. -/
def qFirst2 (l : List UInt8) : Except Int (List UInt8 × List UInt8 × List UInt8) := match qCut 32 l with
  | (m, some r) => (match qCut 32 r with
    | (t, some v) => if qMethod m && qTarget t && v == qHTTP then (if m == qGET || m == qPOST then .ok (m, (qCut 63 t).1, ((qCut 63 t).2.getD [])) else .error 501) else .error 400
    | _ => .error 400)
  | _ => .error 400
theorem qFirst_two (l : List UInt8) : qFirst l = qFirst2 l := by
  unfold qFirst qFirst2
  rw [qSplit_cut]
  rcases hc : qCut 32 l with ⟨m, _ | r⟩
  · rfl
  · simp only
    rw [qSplit_cut]
    rcases hd : qCut 32 r with ⟨t, _ | v⟩
    · rfl
    · simp only
      rw [qSplit_cut]
      rcases he : qCut 32 v with ⟨x, _ | y⟩
      · have := (qCut_spec 32 v).2
        rw [he] at this
        simp only [List.append_nil] at this
        subst this
        rfl
      · have hv := (qCut_spec 32 v).2
        rw [he] at hv
        simp only at hv
        have hq : (v == qHTTP) = false := by
          rw [beq_eq_false_iff_ne]
          intro e
          have : (32 : UInt8) ∈ qHTTP := by rw [← e, hv]; simp
          revert this; decide
        simp only [hq, Bool.and_false, Bool.false_eq_true, if_false]
        have hne := qSplit_ne 32 y
        rcases hs : qSplit 32 y with _ | ⟨a, b⟩
        · exact absurd hs hne
        · rfl

/-! ### Targets -/
def qTgt : Bool → List UInt8 → Bool
  | _, [] => true
  | q, c :: r => if qLetter c || digitB c || ([45, 46, 95, 126, 47] : List UInt8).contains c || (q && ([61, 38, 39] : List UInt8).contains c) then qTgt q r
    else if decide (c.toNat = 63) && !q then qTgt true r
    else if c.toNat = 37 then (match r with
      | a :: b :: t => qHex a && qHex b && qTgt q t
      | _ => false) else false

theorem qTgt_cons (q : Bool) (c : UInt8) (r : List UInt8) : qTgt q (c :: r) = if qLetter c || digitB c || ([45, 46, 95, 126, 47] : List UInt8).contains c || (q && ([61, 38, 39] : List UInt8).contains c) then qTgt q r
    else if decide (c.toNat = 63) && !q then qTgt true r
    else if c.toNat = 37 then (match r with
      | a :: b :: t => qHex a && qHex b && qTgt q t
      | _ => false) else false := by
  rcases r with _ | ⟨a, _ | ⟨b, t⟩⟩ <;> rfl
theorem qOf_cons (o : List UInt8) (c : UInt8) (r : List UInt8) : qOf o (c :: r) = if qPlain c || o.contains c then qOf o r else if c.toNat = 37 then (match r with
    | a :: b :: t => qHex a && qHex b && qOf o t
    | _ => false) else false := by
  rcases r with _ | ⟨a, _ | ⟨b, t⟩⟩ <;> rfl

set_option maxRecDepth 100000 in
theorem qPlain_facts : ∀ n, n < 256 → (qPlain (UInt8.ofNat n) = true → (UInt8.ofNat n).toNat ≠ 63 ∧ (UInt8.ofNat n).toNat ≠ 37) ∧ ((qLetter (UInt8.ofNat n) || digitB (UInt8.ofNat n) || ([45, 46, 95, 126, 47] : List UInt8).contains (UInt8.ofNat n)) = (qPlain (UInt8.ofNat n) || ([47] : List UInt8).contains (UInt8.ofNat n))) ∧ ((qLetter (UInt8.ofNat n) || digitB (UInt8.ofNat n) || ([45, 46, 95, 126, 47] : List UInt8).contains (UInt8.ofNat n) || ([61, 38, 39] : List UInt8).contains (UInt8.ofNat n)) = (qPlain (UInt8.ofNat n) || ([47, 61, 38, 39] : List UInt8).contains (UInt8.ofNat n))) ∧ (qHex (UInt8.ofNat n) = true → (UInt8.ofNat n).toNat ≠ 63) ∧ ((qPlain (UInt8.ofNat n) || ([47] : List UInt8).contains (UInt8.ofNat n)) = true → (UInt8.ofNat n).toNat ≠ 63 ∧ (UInt8.ofNat n).toNat ≠ 37) ∧ ((qPlain (UInt8.ofNat n) || ([47, 61, 38, 39] : List UInt8).contains (UInt8.ofNat n)) = true → (UInt8.ofNat n).toNat ≠ 63 ∧ (UInt8.ofNat n).toNat ≠ 37) := by decide +kernel
theorem plain1 (c : UInt8) : (qLetter c || digitB c || ([45, 46, 95, 126, 47] : List UInt8).contains c) = (qPlain c || ([47] : List UInt8).contains c) := all_bytes (fun c => (qLetter c || digitB c || ([45, 46, 95, 126, 47] : List UInt8).contains c) = (qPlain c || ([47] : List UInt8).contains c)) (fun n hn => (qPlain_facts n hn).2.1) c
theorem plain2 (c : UInt8) : (qLetter c || digitB c || ([45, 46, 95, 126, 47] : List UInt8).contains c || ([61, 38, 39] : List UInt8).contains c) = (qPlain c || ([47, 61, 38, 39] : List UInt8).contains c) := all_bytes (fun c => (qLetter c || digitB c || ([45, 46, 95, 126, 47] : List UInt8).contains c || ([61, 38, 39] : List UInt8).contains c) = (qPlain c || ([47, 61, 38, 39] : List UInt8).contains c)) (fun n hn => (qPlain_facts n hn).2.2.1) c
theorem hex_ne (c : UInt8) : qHex c = true → c.toNat ≠ 63 := all_bytes (fun c => qHex c = true → c.toNat ≠ 63) (fun n hn => (qPlain_facts n hn).2.2.2.1) c
theorem one_ne (c : UInt8) : (qPlain c || ([47] : List UInt8).contains c) = true → c.toNat ≠ 63 ∧ c.toNat ≠ 37 := all_bytes (fun c => (qPlain c || ([47] : List UInt8).contains c) = true → c.toNat ≠ 63 ∧ c.toNat ≠ 37) (fun n hn => (qPlain_facts n hn).2.2.2.2.1) c
theorem two_ne (c : UInt8) : (qPlain c || ([47, 61, 38, 39] : List UInt8).contains c) = true → c.toNat ≠ 63 ∧ c.toNat ≠ 37 := all_bytes (fun c => (qPlain c || ([47, 61, 38, 39] : List UInt8).contains c) = true → c.toNat ≠ 63 ∧ c.toNat ≠ 37) (fun n hn => (qPlain_facts n hn).2.2.2.2.2) c

theorem qTgt_true : ∀ (m : Nat) (s : List UInt8), s.length ≤ m → qTgt true s = qOf [47, 61, 38, 39] s
  | _, [], _ => rfl
  | 0, c :: r, h => by simp at h
  | m + 1, c :: r, h => by
    simp only [List.length_cons] at h
    rw [qTgt_cons, qOf_cons, Bool.true_and, plain2, Bool.not_true, Bool.and_false]
    rw [qTgt_true m r (by omega)]
    by_cases hp : (qPlain c || ([47, 61, 38, 39] : List UInt8).contains c) = true
    · rw [if_pos hp, if_pos hp]
    · rw [if_neg hp, if_neg hp, if_neg (by simp)]
      by_cases h37 : c.toNat = 37
      · rw [if_pos h37, if_pos h37]
        rcases r with _ | ⟨a, _ | ⟨b, t⟩⟩
        · rfl
        · rfl
        · simp only
          rw [qTgt_true m t (by simp at h; omega)]
      · rw [if_neg h37, if_neg h37]

theorem of_toNat {c : UInt8} {n : Nat} (hn : n < 256) (h : c.toNat = n) : c = UInt8.ofNat n := UInt8.toNat_inj.1 (by simp [h]; omega)

theorem qTgt_false : ∀ (m : Nat) (s : List UInt8), s.length ≤ m → qTgt false s = (qOf [47] (qCut 63 s).1 && qOf [47, 61, 38, 39] ((qCut 63 s).2.getD []))
  | _, [], _ => rfl
  | 0, c :: r, h => by simp at h
  | m + 1, c :: r, h => by
    simp only [List.length_cons] at h
    rw [qTgt_cons, Bool.false_and, Bool.or_false, plain1]
    by_cases hp : (qPlain c || ([47] : List UInt8).contains c) = true
    · have h63 := (one_ne c hp).1
      have hne : c ≠ 63 := fun e => h63 (by rw [e]; rfl)
      rw [if_pos hp, qTgt_false m r (by omega), qCut, if_neg hne]
      simp only
      conv => rhs; rw [qOf_cons, if_pos hp]
    · rw [if_neg hp]
      by_cases h63 : c.toNat = 63
      · have e : c = 63 := of_toNat (n := 63) (by decide) h63
        rw [if_pos (by simp [h63]), qCut, if_pos e, qTgt_true _ r (Nat.le_refl _)]
        simp [qOf]
      · have hne : c ≠ 63 := fun e => h63 (by rw [e]; rfl)
        rw [if_neg (by simp [h63]), qCut, if_neg hne]
        simp only
        conv => rhs; rw [qOf_cons, if_neg hp]
        by_cases h37 : c.toNat = 37
        · rw [if_pos h37, if_pos h37]
          rcases r with _ | ⟨a, r⟩
          · simp [qCut]
          · by_cases ha : a = 63
            · subst ha
              rw [qCut, if_pos rfl]
              rcases r with _ | ⟨b, t⟩
              · simp
              · have : qHex 63 = false := by decide
                simp [this]
            · rw [qCut, if_neg ha]
              rcases r with _ | ⟨b, t⟩
              · simp [qCut]
              · by_cases hb : b = 63
                · subst hb
                  rw [qCut, if_pos rfl]
                  have : qHex 63 = false := by decide
                  simp [this]
                · rw [qCut, if_neg hb]
                  simp only
                  rw [qTgt_false m t (by simp at h; omega)]
                  simp [Bool.and_assoc]
        · rw [if_neg h37, if_neg h37, Bool.false_and]

/-- The document's way to tell a target. -/
theorem qTarget_doc (s : List UInt8) : qTarget s = (s.head? == some 47 && qTgt false s) := by
  unfold qTarget
  rw [qTgt_false _ s (Nat.le_refl _)]
  rcases s with _ | ⟨c, r⟩
  · rfl
  · by_cases h : c = 63
    · subst h
      rw [qCut, if_pos rfl]
      simp
    · rw [qCut, if_neg h]
      simp [Bool.and_assoc]

/-! ### Trims -/
theorem dw_nil {p : UInt8 → Bool} : ∀ {l : List UInt8}, (∀ x ∈ l, p x = true) → l.dropWhile p = []
  | [], _ => rfl
  | a :: r, h => by rw [List.dropWhile_cons_of_pos (h a (by simp)), dw_nil (fun x hx => h x (by simp [hx]))]
theorem dw_all {p : UInt8 → Bool} : ∀ {l : List UInt8}, l.dropWhile p = [] → ∀ x ∈ l, p x = true
  | [], _ => by simp
  | a :: r, h => by
    cases hp : p a with
    | true =>
      rw [List.dropWhile_cons_of_pos hp] at h
      intro x hx
      rcases List.mem_cons.1 hx with rfl | hx
      · exact hp
      · exact dw_all h x hx
    | false => rw [List.dropWhile_cons_of_neg (by simp [hp])] at h; cases h
theorem dw_len (p : UInt8 → Bool) : ∀ (l : List UInt8), (l.dropWhile p).length ≤ l.length
  | [] => Nat.le_refl _
  | a :: r => by
    cases hp : p a with
    | true => rw [List.dropWhile_cons_of_pos hp]; have := dw_len p r; simp; omega
    | false => rw [List.dropWhile_cons_of_neg (by simp [hp])]; exact Nat.le_refl _
theorem trim_comm (p : UInt8 → Bool) (l : List UInt8) : ((l.reverse.dropWhile p).reverse).dropWhile p = (((l.dropWhile p).reverse).dropWhile p).reverse := by
  induction l with
  | nil => rfl
  | cons a r ih =>
    have hr : ((a :: r).reverse.dropWhile p).reverse = if (r.all p) && p a then [] else a :: (r.reverse.dropWhile p).reverse := by
      rw [List.reverse_cons, List.dropWhile_append]
      by_cases hall : r.all p = true
      · have e1 : r.reverse.dropWhile p = [] := by
          exact dw_nil fun x hx => List.all_eq_true.1 hall x (List.mem_reverse.1 hx)
        rw [e1, hall, Bool.true_and]
        cases hp : p a <;> simp [List.dropWhile, hp]
      · have e1 : (r.reverse.dropWhile p).isEmpty = false := by
          cases he : r.reverse.dropWhile p with
          | nil =>
            exact absurd (List.all_eq_true.2 (fun x hx => dw_all he x (List.mem_reverse.2 hx))) hall
          | cons _ _ => rfl
        rw [e1]
        simp [hall]
    rw [hr]
    cases hp : p a with
    | false =>
      rw [Bool.and_false, if_neg (by simp), List.dropWhile_cons_of_neg (by simp [hp]), List.dropWhile_cons_of_neg (by simp [hp]), hr, Bool.and_comm]
      simp [hp]
    | true =>
      rw [List.dropWhile_cons_of_pos hp (l := r), ← ih, Bool.and_true]
      by_cases hall : r.all p = true
      · rw [if_pos hall]
        have e1 : r.reverse.dropWhile p = [] := by
          exact dw_nil fun x hx => List.all_eq_true.1 hall x (List.mem_reverse.1 hx)
        rw [e1]; rfl
      · rw [if_neg hall, List.dropWhile_cons_of_pos hp]
/-- The document's way to trim: from the left first. -/
theorem qBare_doc (l : List UInt8) : qBare l = Lib.trimRightS (Lib.trimLeftS l qLayS) qLayS := by
  unfold qBare Lib.trimS Lib.trimLeftS Lib.trimRightS
  exact trim_comm _ l
theorem qBare_len (l : List UInt8) : (qBare l).length ≤ l.length := by
  unfold qBare Lib.trimS Lib.trimLeftS Lib.trimRightS
  have h1 := dw_len (fun x => qLayS.contains x) l.reverse
  have h2 := dw_len (fun x => qLayS.contains x) ((l.reverse.dropWhile fun x => qLayS.contains x).reverse)
  simp only [List.length_reverse] at h1 h2
  exact Nat.le_trans h2 h1
end Go.Proofs.YtankbanonbmffabGreatDoor
