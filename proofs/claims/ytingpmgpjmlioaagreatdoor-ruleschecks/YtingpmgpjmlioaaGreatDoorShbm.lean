/-
  DERIVED. What is written is read again (P12.5), in plain words.
-/
import Derived.Test.YtingpmgpjmlioaaGreatDoorShza
import Derived.Lib.ItoaMem
namespace Go.Proofs.YtingpmgpjmlioaaGreatDoor
open Go.RowKit Go.Maps
set_option linter.unusedVariables false

/-! ### Numbers -/
theorem dec_digits : ∀ (u : Nat), ∀ c ∈ Lib.decDigits u, 48 ≤ c.toNat ∧ c.toNat ≤ 57 := by
  intro u
  induction u using Nat.strongRecOn with
  | ind u ih =>
    intro c hc
    by_cases h : u < 10
    · rw [Lib.decDigits_one h] at hc
      rw [List.mem_singleton.1 hc]
      simp; omega
    · rw [Lib.decDigits, dif_neg h] at hc
      rcases List.mem_append.1 hc with hc | hc
      · exact ih (u / 10) (by omega) c hc
      · rw [List.mem_singleton.1 hc]
        simp; omega
theorem dec_ne (u : Nat) : Lib.decDigits u ≠ [] := by
  rw [Lib.decDigits]
  split <;> simp

theorem parse_append : ∀ (l m : List UInt8) (acc : Nat), Lib.parseUint10 acc (l ++ m) = match Lib.parseUint10 acc l with
    | .ok a => Lib.parseUint10 a m
    | .«syntax» => .«syntax»
    | .range => .range
  | [], m, acc => rfl
  | c :: r, m, acc => by
    show Lib.parseUint10 acc (c :: (r ++ m)) = _
    rw [Lib.parseUint10, Lib.parseUint10]
    by_cases h1 : 48 ≤ c.toNat ∧ c.toNat ≤ 57
    · rw [if_pos h1, if_pos h1]
      by_cases h2 : 1844674407370955162 ≤ acc
      · rw [if_pos h2, if_pos h2]
      · rw [if_neg h2, if_neg h2]
        by_cases h3 : 18446744073709551616 ≤ acc * 10 + (c.toNat - 48)
        · rw [if_pos h3, if_pos h3]
        · rw [if_neg h3, if_neg h3]; exact parse_append r m _
    · rw [if_neg h1, if_neg h1]

theorem parse_one (acc d : Nat) (hd : d < 10) (ha : acc * 10 + d < 18446744073709551616) : Lib.parseUint10 acc [UInt8.ofNat (48 + d)] = .ok (acc * 10 + d) := by
  have e : (UInt8.ofNat (48 + d)).toNat = 48 + d := by simp; omega
  unfold Lib.parseUint10
  rw [e, if_pos (by omega), if_neg (by omega), if_neg (by omega), show 48 + d - 48 = d by omega]
  rfl

theorem parse_dec (u : Nat) (hu : u < 18446744073709551616) : Lib.parseUint10 0 (Lib.decDigits u) = .ok u := by
  induction u using Nat.strongRecOn with
  | ind u ih =>
    by_cases h : u < 10
    · rw [Lib.decDigits_one h]
      have := parse_one 0 u h (by omega)
      simpa using this
    · rw [Lib.decDigits, dif_neg h, parse_append, ih (u / 10) (by omega) (by omega)]
      show Lib.parseUint10 (u / 10) [UInt8.ofNat (48 + u % 10)] = _
      rw [parse_one (u / 10) (u % 10) (by omega) (by omega)]
      congr 1
      omega

theorem parseMag_dec (u : Nat) (hu : u < 18446744073709551616) : Lib.parseMag (Lib.decDigits u) = .ok u := by
  unfold Lib.parseMag
  rw [if_neg (dec_ne u), parse_dec u hu]

theorem atoi_itoa (n : Int) (h0 : -9223372036854775808 ≤ n) (h1 : n ≤ 9223372036854775807) : Lib.atoiAll (Lib.itoa n) = .ok n := by
  unfold Lib.itoa
  by_cases hn : n < 0
  · rw [if_pos hn]
    unfold Lib.atoiAll
    simp only
    rw [if_pos (by decide), parseMag_dec _ (by omega)]
    simp only
    rw [if_neg (by simp), if_neg (by omega), if_pos (by decide)]
    congr 1
    omega
  · rw [if_neg hn]
    have hd := dec_digits n.toNat
    have hp := parseMag_dec n.toNat (by omega)
    have hne := dec_ne n.toNat
    obtain ⟨l, hl⟩ : ∃ l, l = Lib.decDigits n.toNat := ⟨_, rfl⟩
    rw [← hl] at hd hp hne ⊢
    rcases l with _ | ⟨c, r⟩
    · exact absurd rfl hne
    · have hc := hd c (by simp)
      unfold Lib.atoiAll
      simp only
      rw [if_neg (by omega), hp]
      simp only
      rw [if_neg (by omega), if_neg (by omega), if_neg (by omega)]
      congr 1
      omega

theorem itoa_bytes (n : Int) : ∀ c ∈ Lib.itoa n, c.toNat = 45 ∨ (48 ≤ c.toNat ∧ c.toNat ≤ 57) := by
  intro c hc
  unfold Lib.itoa at hc
  split at hc
  · rcases List.mem_cons.1 hc with rfl | hc
    · exact .inl rfl
    · exact .inr (dec_digits _ c hc)
  · exact .inr (dec_digits _ c hc)
theorem itoa_ne (n : Int) : Lib.itoa n ≠ [] := by
  unfold Lib.itoa
  split
  · simp
  · exact dec_ne _

theorem readNum_itoa (n : Int) (h0 : -9223372036854775808 ≤ n) (h1 : n ≤ 9223372036854775807) : readNum (Lib.itoa n) = some n := by
  unfold readNum
  rw [atoi_itoa n h0 h1]
  simp

/-! ### Values and fields -/
theorem readV_valT {f : Fld} (hf : fits f) (hv : valB f = true) : readV (valT f) = some ⟨[], f.text, f.n, f.s⟩ := by
  obtain ⟨nm, t, n, s⟩ := f
  cases t with
  | true =>
    have hv' : n = 0 ∧ s.length ≤ 200 := by unfold valB at hv; simpa using hv
    show (readTxt (esc s)).map _ = _
    unfold readTxt
    rw [unesc_esc]
    simp [hv'.1, hv'.2]
  | false =>
    have hv' : s = [] := by unfold valB at hv; simpa using hv
    subst hv'
    have hr := readNum_itoa n hf.2.2.1 hf.2.2.2
    have hb := itoa_bytes n
    have hne := itoa_ne n
    show readV (Lib.itoa n) = _
    obtain ⟨l, hl⟩ : ∃ l, l = Lib.itoa n := ⟨_, rfl⟩
    rw [← hl] at hr hb hne ⊢
    rcases l with _ | ⟨c, r⟩
    · exact absurd rfl hne
    · have hc := hb c (by simp)
      have : ¬ c = 39 := fun e => by rw [e] at hc; revert hc; decide
      show (if c = 39 then (readTxt r).map _ else (readNum (c :: r)).map _) = _
      rw [if_neg this, hr]
      rfl

theorem cutA_at (c : UInt8) : ∀ (a b : List UInt8), (∀ d ∈ a, d ≠ c) → cutA c (a ++ c :: b) = (a, some b)
  | [], b, _ => by simp [cutA]
  | d :: r, b, h => by
    have ih := cutA_at c r b (fun x hx => h x (by simp [hx]))
    have hd := h d (by simp)
    show cutA c (d :: (r ++ c :: b)) = _
    rw [cutA, if_neg hd, ih]
theorem cutA_none (c : UInt8) : ∀ (a : List UInt8), (∀ d ∈ a, d ≠ c) → cutA c a = (a, none)
  | [], _ => rfl
  | d :: r, h => by
    have ih := cutA_none c r (fun x hx => h x (by simp [hx]))
    rw [cutA, if_neg (h d (by simp)), ih]

theorem nch_bytes {c : UInt8} (h : nchB c = true) : 48 ≤ c.toNat ∧ c.toNat ≠ 61 := by
  unfold nchB smallB digitB at h
  simp at h
  omega
theorem name_bytes {s : List UInt8} (h : nameB s = true) : ∀ c ∈ s, c ≠ 61 ∧ c ≠ 38 := by
  intro c hc
  unfold nameB at h
  simp only [Bool.and_eq_true, List.all_eq_true] at h
  have := nch_bytes (h.2 c hc)
  constructor
  · rintro rfl; exact this.2 rfl
  · rintro rfl; revert this; decide

theorem valT_bytes (f : Fld) : ∀ c ∈ valT f, c ≠ 38 := by
  intro c hc
  unfold valT at hc
  split at hc
  · rcases List.mem_cons.1 hc with rfl | hc
    · decide
    · have := esc_out _ c hc
      rintro rfl
      revert this; decide
  · have := itoa_bytes _ c hc
    rintro rfl
    revert this; decide

theorem fldT_bytes {f : Fld} (h : nameB f.name = true) : ∀ c ∈ fldT f, c ≠ 38 := by
  intro c hc
  unfold fldT at hc
  rcases List.mem_append.1 hc with hc | hc
  · rcases List.mem_append.1 hc with hc | hc
    · exact (name_bytes h c hc).2
    · rw [List.mem_singleton.1 hc]; decide
  · exact valT_bytes f c hc

theorem readP_fldT {f : Fld} (hf : fits f) (h : mayF f = 0) : readP (fldT f) = .ok f := by
  obtain ⟨hn, hv⟩ := may_ok h
  have hc : cutA 61 (fldT f) = (f.name, some (valT f)) := by
    unfold fldT
    rw [List.append_assoc]
    exact cutA_at 61 f.name (valT f) (fun d hd => (name_bytes hn d hd).1)
  unfold readP
  rw [hc]
  simp only [hn, if_true, readV_valT hf hv, namedF]

/-! ### Records -/
theorem splitA_join : ∀ (xs : List (List UInt8)), xs ≠ [] → (∀ x ∈ xs, ∀ c ∈ x, c ≠ 38) → splitA 38 (Lib.join xs [38]) = xs
  | [], h, _ => absurd rfl h
  | [x], _, hx => by
    rw [Lib.join_one, splitA_cut, cutA_none 38 x (hx x (by simp))]
  | x :: y :: r, _, hx => by
    have e : Lib.join (x :: y :: r) [38] = x ++ 38 :: Lib.join (y :: r) [38] := by
      rw [Lib.join_cons, Lib.join_cons]
      simp [Lib.joinTail]
    rw [e, splitA_cut, cutA_at 38 x _ (hx x (by simp))]
    simp only
    rw [splitA_join (y :: r) (by simp) (fun z hz => hx z (by simp [hz]))]

theorem fold_all : ∀ (fs : List Fld) (S : List Fld), (∀ f ∈ fs, fits f ∧ mayF f = 0) → (S ++ fs).length ≤ 16 → Once (S ++ fs) → foldParts S (fs.map fldT) = .ok (S ++ fs)
  | [], S, _, _, _ => by simp [foldParts]
  | f :: r, S, hf, hl, ho => by
    have h1 := hf f (by simp)
    have hlen : ¬ S.length = 16 := by simp at hl; omega
    have hany : S.any (fun g => g.name == f.name) = false := by
      rw [List.any_eq_false]
      intro g hg
      have := (List.pairwise_append.1 ho).2.2 g hg f (by simp)
      simpa using this
    have hstep : readStep S (fldT f) = .ok (S ++ [f]) := by
      unfold readStep
      rw [if_neg hlen, readP_fldT h1.1 h1.2]
      simp only [hany]
      rfl
    rw [List.map_cons, foldParts, hstep]
    simp only
    rw [fold_all r (S ++ [f]) (fun g hg => hf g (by simp [hg])) (by simpa using hl) (by simpa using ho)]
    simp

theorem chkL_rising : ∀ {fs : List Fld} {p : List UInt8}, chkL p fs = 0 → Rising fs ∧ ∀ f ∈ fs, p < f.name
  | [], p, _ => ⟨List.Pairwise.nil, fun f hf => by cases hf⟩
  | a :: r, p, h => by
    rw [chkL] at h
    by_cases hm : mayF a = 0
    · rw [if_neg (by simpa using hm)] at h
      by_cases hl : a.name ≤ p
      · rw [if_pos hl] at h; cases h
      · rw [if_neg hl] at h
        obtain ⟨h1, h2⟩ := chkL_rising h
        have hlt : p < a.name := List.not_le.1 hl
        refine ⟨List.pairwise_cons.2 ⟨h2, h1⟩, fun f hf => ?_⟩
        rcases List.mem_cons.1 hf with rfl | hf
        · exact hlt
        · exact List.lt_trans hlt (h2 f hf)
    · rw [if_pos (by simpa using hm)] at h; exact absurd h hm

theorem rising_once {R : List Fld} (h : Rising R) : Once R := h.imp (fun {a b} hl e => by rw [e] at hl; exact List.lt_irrefl _ hl)

theorem check_ok {fs : List Fld} (h : checkF fs = 0) : fs.length ≤ 16 ∧ (∀ f ∈ fs, mayF f = 0) ∧ Rising fs := by
  unfold checkF at h
  by_cases h16 : 16 < fs.length
  · rw [if_pos h16] at h; cases h
  · rw [if_neg h16] at h
    exact ⟨by omega, chkL_may h, (chkL_rising h).1⟩

/-- What is written is read again as it was. -/
theorem read_write {fs : List Fld} (hfit : ∀ f ∈ fs, fits f) (h : checkF fs = 0) : readAll (writeT fs) = .ok fs := by
  obtain ⟨h1, h2, h3⟩ := check_ok h
  unfold readAll
  by_cases hz : fs = []
  · subst hz; rfl
  · have hne : fs.map fldT ≠ [] := by simpa using hz
    have hw : writeT fs ≠ [] := by
      unfold writeT
      rcases fs with _ | ⟨f, r⟩
      · exact absurd rfl hz
      · rw [List.map_cons, Lib.join_cons]
        have := (nameB_len (may_ok (h2 f (by simp))).1).1
        intro e
        have := congrArg List.length e
        unfold fldT at this
        simp at this
    rw [if_neg hw]
    unfold writeT
    rw [splitA_join _ hne (fun x hx => by
      obtain ⟨f, hf, rfl⟩ := List.mem_map.1 hx
      exact fldT_bytes (may_ok (h2 f hf)).1)]
    have := fold_all fs [] (fun f hf => ⟨hfit f hf, h2 f hf⟩) (by simpa using h1) (by simpa using rising_once h3)
    simpa using this

/-! ### What is read is a record -/
theorem readV_ok {v : List UInt8} {f : Fld} (h : readV v = some f) : valB f = true ∧ -9223372036854775808 ≤ f.n ∧ f.n ≤ 9223372036854775807 := by
  unfold readV at h
  split at h
  · cases h
  · split at h
    · obtain ⟨s, hs, rfl⟩ := Option.map_eq_some_iff.1 h
      unfold readTxt at hs
      split at hs
      · split at hs
        · rename_i hl; cases hs; exact ⟨by simp [valB, hl], (by show (-9223372036854775808 : Int) ≤ 0; decide), (by show (0 : Int) ≤ 9223372036854775807; decide)⟩
        · cases hs
      · cases hs
    · obtain ⟨n, hn, rfl⟩ := Option.map_eq_some_iff.1 h
      unfold readNum at hn
      split at hn
      · rename_i m hm
        split at hn
        · cases hn; exact ⟨rfl, atoi_bounds hm⟩
        · cases hn
      · cases hn

theorem readP_ok {p : List UInt8} {f : Fld} (h : readP p = .ok f) : mayF f = 0 ∧ fits f := by
  have hn := readP_name h
  unfold readP at h
  split at h
  · cases h
  · rename_i v hv
    split at h
    · unfold namedF at h
      split at h
      · cases h
      · rename_i g hg
        obtain ⟨h1, h2, h3⟩ := readV_ok hg
        cases h
        have hb : valB ⟨(cutA 61 p).1, g.text, g.n, g.s⟩ = true := h1
        refine ⟨mayF_ok hn hb, ?_, ?_, h2, h3⟩
        · have := (nameB_len hn).2; simp only at this ⊢; omega
        · have := val_len hb; simp only at this ⊢; omega
    · cases h

theorem readStep_good {S S' : List Fld} {p : List UInt8} (h : readStep S p = .ok S') (hS : ∀ f ∈ S, mayF f = 0 ∧ fits f) : ∀ f ∈ S', mayF f = 0 ∧ fits f := by
  unfold readStep at h
  split at h
  · cases h
  · split at h
    · cases h
    · rename_i g hg
      split at h
      · cases h
      · cases h
        intro f hf
        rcases List.mem_append.1 hf with hf | hf
        · exact hS f hf
        · rw [List.mem_singleton.1 hf]; exact readP_ok hg
theorem foldParts_good : ∀ (ps : List (List UInt8)) {S S' : List Fld}, foldParts S ps = .ok S' → (∀ f ∈ S, mayF f = 0 ∧ fits f) → ∀ f ∈ S', mayF f = 0 ∧ fits f
  | [], S, S', h, ho => by cases h; exact ho
  | p :: ps, S, S', h, ho => by
    rw [foldParts] at h
    split at h
    · cases h
    · rename_i S2 hr; exact foldParts_good ps h (readStep_good hr ho)
theorem readAll_good {t : List UInt8} {S : List Fld} (h : readAll t = .ok S) : ∀ f ∈ S, mayF f = 0 ∧ fits f := by
  unfold readAll at h
  split at h
  · cases h; intro f hf; cases hf
  · exact foldParts_good _ h (fun f hf => by cases hf)

theorem sub_len : ∀ (R S : List Fld), Once R → (∀ f ∈ R, f ∈ S) → R.length ≤ S.length
  | [], S, _, _ => by simp
  | a :: r, S, h, hs => by
    obtain ⟨h1, h2⟩ := List.pairwise_cons.1 h
    have ha : a ∈ S := hs a (by simp)
    have := sub_len r (S.erase a) h2 (fun f hf => (List.mem_erase_of_ne (fun e => h1 f hf (by rw [e]))).2 (hs f (by simp [hf])))
    rw [List.length_erase_of_mem ha] at this
    have hp : 0 < S.length := List.length_pos_of_mem ha
    simp; omega

theorem chkL_of : ∀ {fs : List Fld} {p : List UInt8}, Rising fs → (∀ f ∈ fs, p < f.name) → (∀ f ∈ fs, mayF f = 0) → chkL p fs = 0
  | [], p, _, _, _ => rfl
  | a :: r, p, h, hp, hm => by
    obtain ⟨h1, h2⟩ := List.pairwise_cons.1 h
    rw [chkL, if_neg (by simpa using hm a (by simp)), if_neg (List.not_le.2 (hp a (by simp)))]
    exact chkL_of h2 h1 (fun f hf => hm f (by simp [hf]))
theorem nil_lt {s : List UInt8} (h : 1 ≤ s.length) : [] < s := by
  rcases s with _ | ⟨c, r⟩
  · simp at h
  · exact List.nil_lt_cons c r

theorem rec_check {t : List UInt8} {S R : List Fld} (h : readAll t = .ok S) (hr : IsRec S R) : checkF R = 0 ∧ (∀ f ∈ R, fits f) ∧ R.length ≤ 16 := by
  have hg := readAll_good h
  obtain ⟨_, hl⟩ := readAll_once h
  have hlen := sub_len R S (rising_once hr.1) (fun f hf => (hr.2 f).1 hf)
  have hm : ∀ f ∈ R, mayF f = 0 := fun f hf => (hg f ((hr.2 f).1 hf)).1
  refine ⟨?_, fun f hf => (hg f ((hr.2 f).1 hf)).2, by omega⟩
  unfold checkF
  rw [if_neg (by omega)]
  exact chkL_of hr.1 (fun f hf => nil_lt (nameB_len (may_ok (hm f hf)).1).1) hm
end Go.Proofs.YtingpmgpjmlioaaGreatDoor
