/-
  DERIVED. What is written is read again (P12.5), in plain words.
-/
import Derived.Test.YtkgepklmhdjjnaaGreatDoorM2
import Derived.Lib.ItoaMem
import Derived.Test.YtkgepklmhdjjnaaGreatDoorM3
import Derived.Test.YtkgepklmhdjjnaaGreatDoorM1
import Derived.Deep.Slices
import Derived.Lib.SmallJoins
import Derived.ChangeSame
import Derived.ChangeVars
import Derived.JoinedOf
import Derived.RowKitTokens
import Derived.SizedLaws
import Derived.OpenShut
import Derived.ShutString
import Derived.ChangeMaps
import Derived.Test.YtkgepklmhdjjnaaGreatDoorRows
import Derived.RowKit
import Derived.LaidLaws
import Derived.LaidHandle
import Derived.Stop.Joined
import Derived.Stop.LaidErr
import Derived.Lib.LaidTab
import Derived.Lib.LaidIn
namespace Go.Proofs.YtkgepklmhdjjnaaGreatDoor
open Go.RowKit Go.Maps
set_option linter.unusedVariables false

/-! ### Numbers -/
theorem dec_digits : ∀ (u : Nat), ∀ c ∈ Lib.decDigits u, 48 ≤ c.toNat ∧ c.toNat ≤ 57 := by
  intro u
  induction u using Nat.strongRecOn with
  | ind u ih =>
    intro c hc
    by_cases h : u < 10
    · rw [Lib.decDigits_one h] at hc
      rw [List.mem_singleton.1 hc]
      simp; omega
    · rw [Lib.decDigits, dif_neg h] at hc
      rcases List.mem_append.1 hc with hc | hc
      · exact ih (u / 10) (by omega) c hc
      · rw [List.mem_singleton.1 hc]
        simp; omega
theorem dec_ne (u : Nat) : Lib.decDigits u ≠ [] := by
  rw [Lib.decDigits]
  split <;> simp

theorem parse_append : ∀ (l m : List UInt8) (acc : Nat), Lib.parseUint10 acc (l ++ m) = match Lib.parseUint10 acc l with
    | .ok a => Lib.parseUint10 a m
    | .«syntax» => .«syntax»
    | .range => .range
  | [], m, acc => rfl
  | c :: r, m, acc => by
    show Lib.parseUint10 acc (c :: (r ++ m)) = _
    rw [Lib.parseUint10, Lib.parseUint10]
    by_cases h1 : 48 ≤ c.toNat ∧ c.toNat ≤ 57
    · rw [if_pos h1, if_pos h1]
      by_cases h2 : 1844674407370955162 ≤ acc
      · rw [if_pos h2, if_pos h2]
      · rw [if_neg h2, if_neg h2]
        by_cases h3 : 18446744073709551616 ≤ acc * 10 + (c.toNat - 48)
        · rw [if_pos h3, if_pos h3]
        · rw [if_neg h3, if_neg h3]; exact parse_append r m _
    · rw [if_neg h1, if_neg h1]

theorem parse_one (acc d : Nat) (hd : d < 10) (ha : acc * 10 + d < 18446744073709551616) : Lib.parseUint10 acc [UInt8.ofNat (48 + d)] = .ok (acc * 10 + d) := by
  have e : (UInt8.ofNat (48 + d)).toNat = 48 + d := by simp; omega
  unfold Lib.parseUint10
  rw [e, if_pos (by omega), if_neg (by omega), if_neg (by omega), show 48 + d - 48 = d by omega]
  rfl

theorem parse_dec (u : Nat) (hu : u < 18446744073709551616) : Lib.parseUint10 0 (Lib.decDigits u) = .ok u := by
  induction u using Nat.strongRecOn with
  | ind u ih =>
    by_cases h : u < 10
    · rw [Lib.decDigits_one h]
      have := parse_one 0 u h (by omega)
      simpa using this
    · rw [Lib.decDigits, dif_neg h, parse_append, ih (u / 10) (by omega) (by omega)]
      show Lib.parseUint10 (u / 10) [UInt8.ofNat (48 + u % 10)] = _
      rw [parse_one (u / 10) (u % 10) (by omega) (by omega)]
      congr 1
      omega

theorem parseMag_dec (u : Nat) (hu : u < 18446744073709551616) : Lib.parseMag (Lib.decDigits u) = .ok u := by
  unfold Lib.parseMag
  rw [if_neg (dec_ne u), parse_dec u hu]

theorem atoi_itoa (n : Int) (h0 : -9223372036854775808 ≤ n) (h1 : n ≤ 9223372036854775807) : Lib.atoiAll (Lib.itoa n) = .ok n := by
  unfold Lib.itoa
  by_cases hn : n < 0
  · rw [if_pos hn]
    unfold Lib.atoiAll
    simp only
    rw [if_pos (by decide), parseMag_dec _ (by omega)]
    simp only
    rw [if_neg (by simp), if_neg (by omega), if_pos (by decide)]
    congr 1
    omega
  · rw [if_neg hn]
    have hd := dec_digits n.toNat
    have hp := parseMag_dec n.toNat (by omega)
    have hne := dec_ne n.toNat
    obtain ⟨l, hl⟩ : ∃ l, l = Lib.decDigits n.toNat := ⟨_, rfl⟩
    rw [← hl] at hd hp hne ⊢
    rcases l with _ | ⟨c, r⟩
    · exact absurd rfl hne
    · have hc := hd c (by simp)
      unfold Lib.atoiAll
      simp only
      rw [if_neg (by omega), hp]
      simp only
      rw [if_neg (by omega), if_neg (by omega), if_neg (by omega)]
      congr 1
      omega

theorem itoa_bytes (n : Int) : ∀ c ∈ Lib.itoa n, c.toNat = 45 ∨ (48 ≤ c.toNat ∧ c.toNat ≤ 57) := by
  intro c hc
  unfold Lib.itoa at hc
  split at hc
  · rcases List.mem_cons.1 hc with rfl | hc
    · exact .inl rfl
    · exact .inr (dec_digits _ c hc)
  · exact .inr (dec_digits _ c hc)
theorem itoa_ne (n : Int) : Lib.itoa n ≠ [] := by
  unfold Lib.itoa
  split
  · simp
  · exact dec_ne _

theorem readNum_itoa (n : Int) (h0 : -9223372036854775808 ≤ n) (h1 : n ≤ 9223372036854775807) : readNum (Lib.itoa n) = some n := by
  unfold readNum
  rw [atoi_itoa n h0 h1]
  simp

/-! ### Values and fields -/
theorem readV_valT {f : Fld} (hf : fits f) (hv : valB f = true) : readV (valT f) = some ⟨[], f.text, f.n, f.s⟩ := by
  obtain ⟨nm, t, n, s⟩ := f
  cases t with
  | true =>
    have hv' : n = 0 ∧ s.length ≤ 200 := by unfold valB at hv; simpa using hv
    show (readTxt (esc s)).map _ = _
    unfold readTxt
    rw [unesc_esc]
    simp [hv'.1, hv'.2]
  | false =>
    have hv' : s = [] := by unfold valB at hv; simpa using hv
    subst hv'
    have hr := readNum_itoa n hf.2.2.1 hf.2.2.2
    have hb := itoa_bytes n
    have hne := itoa_ne n
    show readV (Lib.itoa n) = _
    obtain ⟨l, hl⟩ : ∃ l, l = Lib.itoa n := ⟨_, rfl⟩
    rw [← hl] at hr hb hne ⊢
    rcases l with _ | ⟨c, r⟩
    · exact absurd rfl hne
    · have hc := hb c (by simp)
      have : ¬ c = 39 := fun e => by rw [e] at hc; revert hc; decide
      show (if c = 39 then (readTxt r).map _ else (readNum (c :: r)).map _) = _
      rw [if_neg this, hr]
      rfl

theorem cutA_at (c : UInt8) : ∀ (a b : List UInt8), (∀ d ∈ a, d ≠ c) → cutA c (a ++ c :: b) = (a, some b)
  | [], b, _ => by simp [cutA]
  | d :: r, b, h => by
    have ih := cutA_at c r b (fun x hx => h x (by simp [hx]))
    have hd := h d (by simp)
    show cutA c (d :: (r ++ c :: b)) = _
    rw [cutA, if_neg hd, ih]
theorem cutA_none (c : UInt8) : ∀ (a : List UInt8), (∀ d ∈ a, d ≠ c) → cutA c a = (a, none)
  | [], _ => rfl
  | d :: r, h => by
    have ih := cutA_none c r (fun x hx => h x (by simp [hx]))
    rw [cutA, if_neg (h d (by simp)), ih]

theorem nch_bytes {c : UInt8} (h : nchB c = true) : 48 ≤ c.toNat ∧ c.toNat ≠ 61 := by
  unfold nchB smallB digitB at h
  simp at h
  omega
theorem name_bytes {s : List UInt8} (h : nameB s = true) : ∀ c ∈ s, c ≠ 61 ∧ c ≠ 38 := by
  intro c hc
  unfold nameB at h
  simp only [Bool.and_eq_true, List.all_eq_true] at h
  have := nch_bytes (h.2 c hc)
  constructor
  · rintro rfl; exact this.2 rfl
  · rintro rfl; revert this; decide

theorem valT_bytes (f : Fld) : ∀ c ∈ valT f, c ≠ 38 := by
  intro c hc
  unfold valT at hc
  split at hc
  · rcases List.mem_cons.1 hc with rfl | hc
    · decide
    · have := esc_out _ c hc
      rintro rfl
      revert this; decide
  · have := itoa_bytes _ c hc
    rintro rfl
    revert this; decide

theorem fldT_bytes {f : Fld} (h : nameB f.name = true) : ∀ c ∈ fldT f, c ≠ 38 := by
  intro c hc
  unfold fldT at hc
  rcases List.mem_append.1 hc with hc | hc
  · rcases List.mem_append.1 hc with hc | hc
    · exact (name_bytes h c hc).2
    · rw [List.mem_singleton.1 hc]; decide
  · exact valT_bytes f c hc

theorem readP_fldT {f : Fld} (hf : fits f) (h : mayF f = 0) : readP (fldT f) = .ok f := by
  obtain ⟨hn, hv⟩ := may_ok h
  have hc : cutA 61 (fldT f) = (f.name, some (valT f)) := by
    unfold fldT
    rw [List.append_assoc]
    exact cutA_at 61 f.name (valT f) (fun d hd => (name_bytes hn d hd).1)
  unfold readP
  rw [hc]
  simp only [hn, if_true, readV_valT hf hv, namedF]

/-! ### Records -/
theorem splitA_join : ∀ (xs : List (List UInt8)), xs ≠ [] → (∀ x ∈ xs, ∀ c ∈ x, c ≠ 38) → splitA 38 (Lib.join xs [38]) = xs
  | [], h, _ => absurd rfl h
  | [x], _, hx => by
    rw [Lib.join_one, splitA_cut, cutA_none 38 x (hx x (by simp))]
  | x :: y :: r, _, hx => by
    have e : Lib.join (x :: y :: r) [38] = x ++ 38 :: Lib.join (y :: r) [38] := by
      rw [Lib.join_cons, Lib.join_cons]
      simp [Lib.joinTail]
    rw [e, splitA_cut, cutA_at 38 x _ (hx x (by simp))]
    simp only
    rw [splitA_join (y :: r) (by simp) (fun z hz => hx z (by simp [hz]))]

theorem fold_all : ∀ (fs : List Fld) (S : List Fld), (∀ f ∈ fs, fits f ∧ mayF f = 0) → (S ++ fs).length ≤ 16 → Once (S ++ fs) → foldParts S (fs.map fldT) = .ok (S ++ fs)
  | [], S, _, _, _ => by simp [foldParts]
  | f :: r, S, hf, hl, ho => by
    have h1 := hf f (by simp)
    have hlen : ¬ S.length = 16 := by simp at hl; omega
    have hany : S.any (fun g => g.name == f.name) = false := by
      rw [List.any_eq_false]
      intro g hg
      have := (List.pairwise_append.1 ho).2.2 g hg f (by simp)
      simpa using this
    have hstep : readStep S (fldT f) = .ok (S ++ [f]) := by
      unfold readStep
      rw [if_neg hlen, readP_fldT h1.1 h1.2]
      simp only [hany]
      rfl
    rw [List.map_cons, foldParts, hstep]
    simp only
    rw [fold_all r (S ++ [f]) (fun g hg => hf g (by simp [hg])) (by simpa using hl) (by simpa using ho)]
    simp

theorem chkL_rising : ∀ {fs : List Fld} {p : List UInt8}, chkL p fs = 0 → Rising fs ∧ ∀ f ∈ fs, p < f.name
  | [], p, _ => ⟨List.Pairwise.nil, fun f hf => by cases hf⟩
  | a :: r, p, h => by
    rw [chkL] at h
    by_cases hm : mayF a = 0
    · rw [if_neg (by simpa using hm)] at h
      by_cases hl : a.name ≤ p
      · rw [if_pos hl] at h; cases h
      · rw [if_neg hl] at h
        obtain ⟨h1, h2⟩ := chkL_rising h
        have hlt : p < a.name := List.not_le.1 hl
        refine ⟨List.pairwise_cons.2 ⟨h2, h1⟩, fun f hf => ?_⟩
        rcases List.mem_cons.1 hf with rfl | hf
        · exact hlt
        · exact List.lt_trans hlt (h2 f hf)
    · rw [if_pos (by simpa using hm)] at h; exact absurd h hm

theorem rising_once {R : List Fld} (h : Rising R) : Once R := h.imp (fun {a b} hl e => by rw [e] at hl; exact List.lt_irrefl _ hl)

theorem check_ok {fs : List Fld} (h : checkF fs = 0) : fs.length ≤ 16 ∧ (∀ f ∈ fs, mayF f = 0) ∧ Rising fs := by
  unfold checkF at h
  by_cases h16 : 16 < fs.length
  · rw [if_pos h16] at h; cases h
  · rw [if_neg h16] at h
    exact ⟨by omega, chkL_may h, (chkL_rising h).1⟩

/-- What is written is read again as it was. -/
theorem read_write {fs : List Fld} (hfit : ∀ f ∈ fs, fits f) (h : checkF fs = 0) : readAll (writeT fs) = .ok fs := by
  obtain ⟨h1, h2, h3⟩ := check_ok h
  unfold readAll
  by_cases hz : fs = []
  · subst hz; rfl
  · have hne : fs.map fldT ≠ [] := by simpa using hz
    have hw : writeT fs ≠ [] := by
      unfold writeT
      rcases fs with _ | ⟨f, r⟩
      · exact absurd rfl hz
      · rw [List.map_cons, Lib.join_cons]
        have := (nameB_len (may_ok (h2 f (by simp))).1).1
        intro e
        have := congrArg List.length e
        unfold fldT at this
        simp at this
    rw [if_neg hw]
    unfold writeT
    rw [splitA_join _ hne (fun x hx => by
      obtain ⟨f, hf, rfl⟩ := List.mem_map.1 hx
      exact fldT_bytes (may_ok (h2 f hf)).1)]
    have := fold_all fs [] (fun f hf => ⟨hfit f hf, h2 f hf⟩) (by simpa using h1) (by simpa using rising_once h3)
    simpa using this

/-! ### What is read is a record -/
theorem readV_ok {v : List UInt8} {f : Fld} (h : readV v = some f) : valB f = true ∧ -9223372036854775808 ≤ f.n ∧ f.n ≤ 9223372036854775807 := by
  unfold readV at h
  split at h
  · cases h
  · split at h
    · obtain ⟨s, hs, rfl⟩ := Option.map_eq_some_iff.1 h
      unfold readTxt at hs
      split at hs
      · split at hs
        · rename_i hl; cases hs; exact ⟨by simp [valB, hl], (by show (-9223372036854775808 : Int) ≤ 0; decide), (by show (0 : Int) ≤ 9223372036854775807; decide)⟩
        · cases hs
      · cases hs
    · obtain ⟨n, hn, rfl⟩ := Option.map_eq_some_iff.1 h
      unfold readNum at hn
      split at hn
      · rename_i m hm
        split at hn
        · cases hn; exact ⟨rfl, atoi_bounds hm⟩
        · cases hn
      · cases hn

theorem readP_ok {p : List UInt8} {f : Fld} (h : readP p = .ok f) : mayF f = 0 ∧ fits f := by
  have hn := readP_name h
  unfold readP at h
  split at h
  · cases h
  · rename_i v hv
    split at h
    · unfold namedF at h
      split at h
      · cases h
      · rename_i g hg
        obtain ⟨h1, h2, h3⟩ := readV_ok hg
        cases h
        have hb : valB ⟨(cutA 61 p).1, g.text, g.n, g.s⟩ = true := h1
        refine ⟨mayF_ok hn hb, ?_, ?_, h2, h3⟩
        · have := (nameB_len hn).2; simp only at this ⊢; omega
        · have := val_len hb; simp only at this ⊢; omega
    · cases h

theorem readStep_good {S S' : List Fld} {p : List UInt8} (h : readStep S p = .ok S') (hS : ∀ f ∈ S, mayF f = 0 ∧ fits f) : ∀ f ∈ S', mayF f = 0 ∧ fits f := by
  unfold readStep at h
  split at h
  · cases h
  · split at h
    · cases h
    · rename_i g hg
      split at h
      · cases h
      · cases h
        intro f hf
        rcases List.mem_append.1 hf with hf | hf
        · exact hS f hf
        · rw [List.mem_singleton.1 hf]; exact readP_ok hg
theorem foldParts_good : ∀ (ps : List (List UInt8)) {S S' : List Fld}, foldParts S ps = .ok S' → (∀ f ∈ S, mayF f = 0 ∧ fits f) → ∀ f ∈ S', mayF f = 0 ∧ fits f
  | [], S, S', h, ho => by cases h; exact ho
  | p :: ps, S, S', h, ho => by
    rw [foldParts] at h
    split at h
    · cases h
    · rename_i S2 hr; exact foldParts_good ps h (readStep_good hr ho)
theorem readAll_good {t : List UInt8} {S : List Fld} (h : readAll t = .ok S) : ∀ f ∈ S, mayF f = 0 ∧ fits f := by
  unfold readAll at h
  split at h
  · cases h; intro f hf; cases hf
  · exact foldParts_good _ h (fun f hf => by cases hf)

theorem sub_len : ∀ (R S : List Fld), Once R → (∀ f ∈ R, f ∈ S) → R.length ≤ S.length
  | [], S, _, _ => by simp
  | a :: r, S, h, hs => by
    obtain ⟨h1, h2⟩ := List.pairwise_cons.1 h
    have ha : a ∈ S := hs a (by simp)
    have := sub_len r (S.erase a) h2 (fun f hf => (List.mem_erase_of_ne (fun e => h1 f hf (by rw [e]))).2 (hs f (by simp [hf])))
    rw [List.length_erase_of_mem ha] at this
    have hp : 0 < S.length := List.length_pos_of_mem ha
    simp; omega

theorem chkL_of : ∀ {fs : List Fld} {p : List UInt8}, Rising fs → (∀ f ∈ fs, p < f.name) → (∀ f ∈ fs, mayF f = 0) → chkL p fs = 0
  | [], p, _, _, _ => rfl
  | a :: r, p, h, hp, hm => by
    obtain ⟨h1, h2⟩ := List.pairwise_cons.1 h
    rw [chkL, if_neg (by simpa using hm a (by simp)), if_neg (List.not_le.2 (hp a (by simp)))]
    exact chkL_of h2 h1 (fun f hf => hm f (by simp [hf]))
theorem nil_lt {s : List UInt8} (h : 1 ≤ s.length) : [] < s := by
  rcases s with _ | ⟨c, r⟩
  · simp at h
  · exact List.nil_lt_cons c r

theorem rec_check {t : List UInt8} {S R : List Fld} (h : readAll t = .ok S) (hr : IsRec S R) : checkF R = 0 ∧ (∀ f ∈ R, fits f) ∧ R.length ≤ 16 := by
  have hg := readAll_good h
  obtain ⟨_, hl⟩ := readAll_once h
  have hlen := sub_len R S (rising_once hr.1) (fun f hf => (hr.2 f).1 hf)
  have hm : ∀ f ∈ R, mayF f = 0 := fun f hf => (hg f ((hr.2 f).1 hf)).1
  refine ⟨?_, fun f hf => (hg f ((hr.2 f).1 hf)).2, by omega⟩
  unfold checkF
  rw [if_neg (by omega)]
  exact chkL_of hr.1 (fun f hf => nil_lt (nameB_len (may_ok (hm f hf)).1).1) hm
end Go.Proofs.YtkgepklmhdjjnaaGreatDoor

/-
  DERIVED. Set, Get and Drop of records, in plain words (P12.5).
-/
namespace Go.Proofs.YtkgepklmhdjjnaaGreatDoor
open Go.RowKit
set_option linter.unusedVariables false

theorem getA_getF (r : List Fld) (k : List UInt8) : getA r k = (getF r k).getD fld0 := rfl
theorem get_mem {L : List Fld} (h : Rising L) {g : Fld} (hg : g ∈ L) : getA L g.name = g ∧ hasF L g.name = true := by
  refine ⟨by rw [getA_getF, getF_once (rising_once h) hg]; rfl, ?_⟩
  unfold hasF
  rw [List.any_eq_true]
  exact ⟨g, hg, by simp⟩

theorem rising_lt {r : List Fld} (h : Rising r) {i j : Nat} {a b : Fld} (hij : i < j) (ha : r[i]? = some a) (hb : r[j]? = some b) : a.name < b.name := by
  obtain ⟨h1, e1⟩ := List.getElem?_eq_some_iff.1 ha
  obtain ⟨h2, e2⟩ := List.getElem?_eq_some_iff.1 hb
  rw [← e1, ← e2]
  exact List.pairwise_iff_getElem.1 h i j h1 h2 hij

/-- Around the place of a name. -/
theorem around {r : List Fld} (h : Rising r) (nm : List UInt8) : (∀ g ∈ r.take (atF r nm), g.name < nm) ∧ (∀ g ∈ r.drop (behF r nm), nm < g.name) := by
  cases hh : hasF r nm with
  | true =>
    obtain ⟨hl, hg⟩ := at_get hh
    have hn : (getA r nm).name = nm := by
      unfold hasF at hh
      rw [List.any_eq_true] at hh
      obtain ⟨f, hf, e⟩ := hh
      have := (get_mem h hf).1
      rw [beq_iff_eq.1 e] at this
      rw [this]; exact beq_iff_eq.1 e
    refine ⟨fun g hgm => ?_, fun g hgm => ?_⟩
    · obtain ⟨i, hi⟩ := List.mem_iff_getElem?.1 hgm
      have hil := (List.getElem?_eq_some_iff.1 hi).1
      rw [List.length_take] at hil
      rw [List.getElem?_take_of_lt (by omega)] at hi
      have := rising_lt h (show i < atF r nm by omega) hi hg
      rwa [hn] at this
    · obtain ⟨i, hi⟩ := List.mem_iff_getElem?.1 hgm
      rw [List.getElem?_drop] at hi
      have hb : behF r nm = atF r nm + 1 := by unfold behF; rw [hh]; rfl
      rw [hb] at hi
      have := rising_lt h (show atF r nm < atF r nm + 1 + i by omega) hg hi
      rwa [hn] at this
  | false =>
    have hno : ∀ f ∈ r, f.name ≠ nm := fun f hf e => by
      unfold hasF at hh
      rw [List.any_eq_false] at hh
      have := hh f hf
      simp [e] at this
    have hb : behF r nm = atF r nm := by unfold behF; rw [hh]; rfl
    have ha : atF r nm = r.findIdx (fun f => decide (nm < f.name)) := by
      have h1 : r.findIdx? (fun f => f.name == nm) = none := by
        rw [List.findIdx?_eq_none_iff]; intro f hf; simpa using hno f hf
      unfold atF; rw [h1]
    refine ⟨fun g hgm => ?_, fun g hgm => ?_⟩
    · obtain ⟨i, hi⟩ := List.mem_iff_getElem?.1 hgm
      have hil := (List.getElem?_eq_some_iff.1 hi).1
      rw [List.length_take] at hil
      rw [List.getElem?_take_of_lt (by omega)] at hi
      obtain ⟨hil2, e⟩ := List.getElem?_eq_some_iff.1 hi
      have hlt : i < r.findIdx (fun f => decide (nm < f.name)) := by rw [← ha]; omega
      have hnot := List.not_of_lt_findIdx hlt
      rw [e] at hnot
      have hnot' : ¬ nm < g.name := by simpa using hnot
      exact le_lt (List.not_lt.1 hnot') (hno g (List.mem_of_getElem? hi))
    · obtain ⟨i, hi⟩ := List.mem_iff_getElem?.1 hgm
      rw [List.getElem?_drop, hb, ha] at hi
      have hl : r.findIdx (fun f => decide (nm < f.name)) < r.length := by
        have := (List.getElem?_eq_some_iff.1 hi).1; omega
      have hq : nm < (r[r.findIdx (fun f => decide (nm < f.name))]).name := by
        have := List.findIdx_getElem (xs := r) (p := fun f => decide (nm < f.name)) (w := hl)
        simpa using this
      by_cases h0 : i = 0
      · subst h0
        obtain ⟨h1, e⟩ := List.getElem?_eq_some_iff.1 hi
        simp only [Nat.add_zero] at e
        rw [← e]; exact hq
      · exact List.lt_trans hq (rising_lt h (show r.findIdx (fun f => decide (nm < f.name)) < r.findIdx (fun f => decide (nm < f.name)) + i by omega) (List.getElem?_eq_getElem hl) hi)

theorem set_rising {r : List Fld} (h : Rising r) (f : Fld) : Rising (setF r f) := by
  obtain ⟨h1, h2⟩ := around h f.name
  unfold setF Rising
  refine List.pairwise_append.2 ⟨List.pairwise_append.2 ⟨h.sublist (List.take_sublist _ _), List.pairwise_singleton _ _, fun a ha b hb => by rw [List.mem_singleton.1 hb]; exact h1 a ha⟩, h.sublist (List.drop_sublist _ _), fun a ha b hb => ?_⟩
  rcases List.mem_append.1 ha with ha | ha
  · exact List.lt_trans (h1 a ha) (h2 b hb)
  · rw [List.mem_singleton.1 ha]; exact h2 b hb

theorem set_mem {r : List Fld} (h : Rising r) (f : Fld) {g : Fld} (hg : g ∈ r) (hne : g.name ≠ f.name) : g ∈ setF r f := by
  obtain ⟨h1, h2⟩ := around h f.name
  unfold setF
  obtain ⟨i, hi⟩ := List.mem_iff_getElem?.1 hg
  have hil := (List.getElem?_eq_some_iff.1 hi).1
  by_cases ha : i < atF r f.name
  · exact List.mem_append_left _ (List.mem_append_left _ (List.mem_iff_getElem?.2 ⟨i, by rw [List.getElem?_take_of_lt ha]; exact hi⟩))
  · by_cases hb : behF r f.name ≤ i
    · refine List.mem_append_right _ (List.mem_iff_getElem?.2 ⟨i - behF r f.name, ?_⟩)
      rw [List.getElem?_drop, show behF r f.name + (i - behF r f.name) = i by omega]; exact hi
    · cases hh : hasF r f.name with
      | false => unfold behF at hb; rw [hh] at hb; simp at hb; omega
      | true =>
        obtain ⟨_, hgt⟩ := at_get hh
        have he : i = atF r f.name := by unfold behF at hb; rw [hh] at hb; simp at hb; omega
        rw [he, hgt] at hi
        have hn : (getA r f.name).name = f.name := by
          unfold hasF at hh
          rw [List.any_eq_true] at hh
          obtain ⟨x, hx, e⟩ := hh
          have := (get_mem h hx).1
          rw [beq_iff_eq.1 e] at this
          rw [this]; exact beq_iff_eq.1 e
        cases hi
        exact absurd hn hne
theorem set_self (r : List Fld) (f : Fld) : f ∈ setF r f := by unfold setF; simp
theorem set_sub {r : List Fld} {f g : Fld} (h : g ∈ setF r f) : g ∈ r ∨ g = f := by
  unfold setF at h
  rcases List.mem_append.1 h with h | h
  · rcases List.mem_append.1 h with h | h
    · exact .inl (List.mem_of_mem_take h)
    · exact .inr (List.mem_singleton.1 h)
  · exact .inl (List.mem_of_mem_drop h)

/-- Set of a field that may be: a record, or one field too many. -/
theorem set_check {r : List Fld} {f : Fld} (hr : checkF r = 0) (hf : mayF f = 0) (hl : (setF r f).length ≤ 16) : checkF (setF r f) = 0 := by
  obtain ⟨h1, h2, h3⟩ := check_ok hr
  have hm : ∀ g ∈ setF r f, mayF g = 0 := fun g hg => by
    rcases set_sub hg with h | rfl
    · exact h2 g h
    · exact hf
  unfold checkF
  rw [if_neg (by omega)]
  exact chkL_of (set_rising h3 f) (fun g hg => nil_lt (nameB_len (may_ok (hm g hg)).1).1) hm

theorem set_len (r : List Fld) (f : Fld) : (setF r f).length ≤ r.length + 1 := by
  have := atF_le r f.name
  unfold setF; simp; omega

theorem drop_no {L : List Fld} (h : Rising L) (nm : List UInt8) : hasF (dropF L nm) nm = false := by
  obtain ⟨h1, h2⟩ := around h nm
  unfold hasF dropF
  rw [List.any_eq_false]
  intro g hg
  rcases List.mem_append.1 hg with hg | hg
  · have := h1 g hg
    simp only [beq_iff_eq]
    rintro e; rw [e] at this; exact List.lt_irrefl _ this
  · have := h2 g hg
    simp only [beq_iff_eq]
    rintro e; rw [e] at this; exact List.lt_irrefl _ this
theorem drop_len (L : List Fld) (nm : List UInt8) : (hasF L nm = true → (dropF L nm).length + 1 = L.length) ∧ (hasF L nm = false → (dropF L nm).length = L.length) := by
  have hle := atF_le L nm
  refine ⟨fun h => ?_, fun h => ?_⟩
  · have hb : behF L nm = atF L nm + 1 := by unfold behF; rw [h]; rfl
    unfold dropF; simp; omega
  · have hb : behF L nm = atF L nm := by unfold behF; rw [h]; rfl
    unfold dropF; simp; omega
end Go.Proofs.YtkgepklmhdjjnaaGreatDoor

/-
  DERIVED. How an argument []api.Field is opened.
-/
namespace Go.Proofs.YtkgepklmhdjjnaaGreatDoor
open Go.ChangeShapes Go.WideShapes Go.ChangeAt Go.RowKit
set_option linter.unusedVariables false

theorem Tryz.cellsFld : Tryz.prog.cellsOf 33 = 4 := by kernel_rfl
theorem Tryz.cellsStr : Tryz.prog.cellsOf 9 = 1 := by kernel_rfl
theorem Tryz.cellsBool : Tryz.prog.cellsOf 4 = 1 := by kernel_rfl
theorem Tryz.cellsInt : Tryz.prog.cellsOf 3 = 1 := by kernel_rfl

theorem Tryz.underFld : ∃ f0 f1 f2 f3, Tryz.prog.underlying 33 = some (.struct #[f0, f1, f2, f3]) ∧ (f0.offset = 0 ∧ f1.offset = 1 ∧ f2.offset = 2 ∧ f3.offset = 3) ∧ f0.type = 9 ∧ f1.type = 4 ∧ f2.type = 3 ∧ f3.type = 9 := ⟨_, _, _, _, Tryz.underlying33, ⟨rfl, rfl, rfl, rfl⟩, rfl, rfl, rfl, rfl⟩

instance : Inhabited Fld := ⟨⟨[], false, 0, []⟩⟩

theorem str_list (s : ByteArray) : Value.string s = sv s.data.toList := by
  show Value.string s = Value.string ⟨s.data.toList.toArray⟩
  simp

set_option maxRecDepth 100000 in
theorem open_fields {H : Type} {enc : TypeId × Value → H} {W : World} {v : Value} {y : DataW H × List MemPlace} {fuel : Nat}
    (hf : DataW.trod enc Tryz.prog W 0 (fun _ => true) true fuel 23 [v] = some y) : ∃ a n c fs, v = .slice a n c ∧ FdL W (.slice a n c) fs ∧ ∀ f ∈ fs, fits f := by
  obtain ⟨f0, f1, f2, f3, hu, ⟨o0, o1, o2, o3⟩, t0, t1, t2, t3⟩ := Tryz.underFld
  rcases Go.Deep.open_slice Tryz.underlying23 hf with ⟨hcs, hx⟩ | ⟨x, n, cap, m, k, D, Pl, hcs, _, hl, hm, hz, hx, hcell⟩
  · simp only [List.cons.injEq, and_true] at hcs
    subst hcs
    exact ⟨_, _, _, [], rfl, ⟨none, 0, rfl, by simp, by omega, fun h => by simp at h⟩, fun f hf => by simp at hf⟩
  · simp only [List.cons.injEq, and_true] at hcs
    subst hcs
    rw [if_pos rfl] at hz
    subst hz
    unfold maxLen at hm
    have hel : ∀ i, i < n → ∃ f : Fld, fits f ∧ W.cell? (x.add (i * 4)) = some (sv f.name) ∧ W.cell? (x.add (i * 4 + 1)) = some (.bool f.text) ∧ W.cell? (x.add (i * 4 + 2)) = some (.int .i64 f.n) ∧ W.cell? (x.add (i * 4 + 3)) = some (sv f.s) := by
      intro i hi
      obtain ⟨cs, q1, q2⟩ := hcell i (by omega)
      rw [Tryz.cellsFld] at q1
      obtain ⟨_, hlen, hc⟩ := World.cells?_some q1
      match cs, hlen with
      | [c0, c1, c2, c3], _ =>
        obtain ⟨xs, k', _, _, _, hxl, hfl⟩ := DataW.trod_struct hu q2
        match xs, hxl with
        | [x0, x1, x2, x3], _ =>
          have g0 := hfl 0 f0 rfl
          have g1 := hfl 1 f1 rfl
          have g2 := hfl 2 f2 rfl
          have g3 := hfl 3 f3 rfl
          rw [o0, t0, Tryz.cellsStr] at g0
          rw [o1, t1, Tryz.cellsBool] at g1
          rw [o2, t2, Tryz.cellsInt] at g2
          rw [o3, t3, Tryz.cellsStr] at g3
          obtain ⟨s0, e0, _, w0⟩ := DataW.trod_string Tryz.underlying9 g0
          obtain ⟨s1, e1, _⟩ := DataW.trod_bool Tryz.underlying4 g1
          obtain ⟨s2, e2, _, w2⟩ := DataW.trod_int Tryz.underlying3 g2
          have bn := bounds_i64 w2
          obtain ⟨s3, e3, _, w3⟩ := DataW.trod_string Tryz.underlying9 g3
          simp at e0 e1 e2 e3
          subst e0 e1 e2 e3
          unfold maxLen at w0 w3
          have l0 : s0.data.toList.length = s0.size := by rw [Array.length_toList]; rfl
          have l3 : s3.data.toList.length = s3.size := by rw [Array.length_toList]; rfl
          have k0 := hc 0 (by omega)
          have k1 := hc 1 (by omega)
          have k2 := hc 2 (by omega)
          have k3 := hc 3 (by omega)
          rw [Go.Deep.add_add] at k0 k1 k2 k3
          refine ⟨⟨s0.data.toList, s1, s2, s3.data.toList⟩, ⟨by show s0.data.toList.length ≤ _; omega, by show s3.data.toList.length ≤ _; omega, by show _ ≤ s2; omega, by show s2 ≤ _; omega⟩, ?_, ?_, ?_, ?_⟩
          · rw [← str_list]; exact k0
          · exact k1
          · exact k2
          · rw [← str_list]; exact k3
    obtain ⟨F, hF⟩ := Go.Deep.choose_lt (α := Fld) hel
    have hlen : ((List.range n).map F).length = n := by simp
    refine ⟨some x, n, _, (List.range n).map F, rfl, ⟨some x, _, by rw [hlen], by rw [hlen]; exact hl, by omega, fun hz => ?_⟩, ?_⟩
    · rw [hlen] at hz
      have h0 := (hF 0 (by omega)).2.1
      have hsp := World.cell?_spot h0
      obtain ⟨b, off, sp⟩ := x
      have hsp' : sp = none := by
        cases sp with
        | none => rfl
        | some k => simp [Addr.add] at hsp
      subst hsp'
      refine ⟨b, off, rfl, ?_, fun i hi => ?_⟩
      · rw [addr_add] at h0
        exact World.block_lt_of_cell? W ⟨b, off + 0 * 4, none⟩ h0
      · have hi' : i < n := by rw [hlen] at hi; exact hi
        obtain ⟨_, q0, q1, q2, q3⟩ := hF i hi'
        rw [addr_add] at q0 q1 q2 q3
        have e : ((List.range n).map F)[i] = F i := by simp
        rw [e]
        exact ⟨q0, by rw [Nat.add_assoc]; exact q1, by rw [Nat.add_assoc]; exact q2, by rw [Nat.add_assoc]; exact q3⟩
    · intro f hf
      obtain ⟨i, hi, rfl⟩ := List.mem_map.1 hf
      exact (hF i (by simpa using hi)).1

/-- An argument []api.Field: what it reads as; its fields are of this machine's sizes. -/
theorem open_flds {H : Type} {enc : TypeId × Value → H} {W : World} {a : Option Addr} {n c : Nat} {d : DataW H} {p : List MemPlace} {ts : List TypeId} {ds : List (DataW H)} (hsz : (DataW.weightsEach Tryz.prog ts ds).all (· ≤ reachBytes) = true) {j : Nat} (hj : ds[j]? = some d)
    (h : DataW.Trod enc Tryz.prog W 0 (fun _ => true) true 23 (.slice a n c) d p) (ht : ts[j]? = some 23) : ∃ l : List Fld, FdL W (.slice a n c) l ∧ (∀ f ∈ l, fits f) ∧ True := by
  obtain ⟨fuel, hf⟩ := h
  obtain ⟨a', n', c', fs, e, h1, h2⟩ := open_fields hf
  cases e
  exact ⟨fs, h1, h2, trivial⟩
end Go.Proofs.YtkgepklmhdjjnaaGreatDoor

/-
  DERIVED. How arguments []api.Field and api.Field are opened: with their room.
-/
namespace Go.Proofs.YtkgepklmhdjjnaaGreatDoor
open Go.ChangeShapes Go.WideShapes Go.ChangeAt Go.RowKit
set_option linter.unusedVariables false

set_option maxRecDepth 100000 in
theorem open_room {H : Type} {enc : TypeId × Value → H} {W : World} {a : Option Addr} {n c : Nat} {d : DataW H} {p : List MemPlace}
    (h : DataW.Trod enc Tryz.prog W 0 (fun _ => true) true 23 (.slice a n c) d p) : c ≠ 0 → ∃ b off, a = some ⟨b, off, none⟩ := by
  intro hc
  obtain ⟨fuel, hf⟩ := h
  rcases Go.Deep.open_slice Tryz.underlying23 hf with ⟨hcs, _⟩ | ⟨x, n', cap, m, k, D, Pl, hcs, _, hl, hm, hz, hx, hcell⟩
  · simp [Value.cells] at hcs
    exact absurd hcs.2.2 hc
  · simp [Value.cells] at hcs
    obtain ⟨rfl, rfl, rfl⟩ := hcs
    rw [if_pos rfl] at hz
    subst hz
    obtain ⟨cs, q1, _⟩ := hcell 0 (by omega)
    rw [Tryz.cellsFld] at q1
    obtain ⟨_, hlen, hcc⟩ := World.cells?_some q1
    have h0 := hcc 0 (by omega)
    rw [List.getElem?_eq_getElem (by omega)] at h0
    have hsp := World.cell?_spot h0
    obtain ⟨b, off, sp⟩ := x
    cases sp with
    | none => exact ⟨b, off, rfl⟩
    | some z => simp [Addr.add] at hsp

set_option maxRecDepth 100000 in
theorem open_fdn {H : Type} {enc : TypeId × Value → H} {W : World} {a : Option Addr} {n c : Nat} {d : DataW H} {p : List MemPlace} {ts : List TypeId} {ds : List (DataW H)} (hsz : (DataW.weightsEach Tryz.prog ts ds).all (· ≤ reachBytes) = true) {j : Nat} (hj : ds[j]? = some d)
    (h : DataW.Trod enc Tryz.prog W 0 (fun _ => true) true 23 (.slice a n c) d p) (ht : ts[j]? = some 23) : ∃ l : List Fld, n = l.length ∧ FdN W a c l ∧ (∀ f ∈ l, fits f) := by
  obtain ⟨l, h1, h2, _⟩ := open_flds hsz hj h ht
  have hn : n = l.length := by obtain ⟨_, _, e, _⟩ := h1; cases e; rfl
  subst hn
  exact ⟨l, rfl, ⟨h1, open_room h⟩, h2⟩

theorem Tryz.oneFld : ∃ f0 f1 f2 f3, Tryz.prog.underlying 33 = some (.struct #[f0, f1, f2, f3]) ∧ Go.Deep.oneCellFields Tryz.prog #[f0, f1, f2, f3] = true ∧ f0.type = 9 ∧ f1.type = 4 ∧ f2.type = 3 ∧ f3.type = 9 := ⟨_, _, _, _, Tryz.underlying33, by kernel_rfl, rfl, rfl, rfl, rfl⟩

set_option maxRecDepth 100000 in
theorem open_fld {H : Type} {enc : TypeId × Value → H} {W : World} {b0 : Nat} {v : Value} {d : DataW H} {p : List MemPlace} (hv : Value.okWide Tryz.prog W .any b0 33 v)
    (h : DataW.Trod enc Tryz.prog W 0 (fun _ => true) true 33 v d p) : ∃ l : Fld, v = .agg (fv l) ∧ fits l := by
  obtain ⟨f0, f1, f2, f3, hu, hone, t0, t1, t2, t3⟩ := Tryz.oneFld
  obtain ⟨v0, v1, v2, v3, y0, y1, y2, y3, k, rfl, _, _, g0, g1, g2, g3⟩ := Go.Joins.open_agg4 hu hone Tryz.cellsFld hv h
  rw [t0] at g0
  rw [t1] at g1
  rw [t2] at g2
  rw [t3] at g3
  obtain ⟨s0, e0, _, w0⟩ := DataW.trod_string Tryz.underlying9 g0
  obtain ⟨s1, e1, _⟩ := DataW.trod_bool Tryz.underlying4 g1
  obtain ⟨s2, e2, _, w2⟩ := DataW.trod_int Tryz.underlying3 g2
  have bn := bounds_i64 w2
  obtain ⟨s3, e3, _, w3⟩ := DataW.trod_string Tryz.underlying9 g3
  simp at e0 e1 e2 e3
  subst e0 e1 e2 e3
  unfold maxLen at w0 w3
  have l0 : s0.data.toList.length = s0.size := by rw [Array.length_toList]; rfl
  have l3 : s3.data.toList.length = s3.size := by rw [Array.length_toList]; rfl
  refine ⟨⟨s0.data.toList, s1, s2, s3.data.toList⟩, by rw [str_list, str_list], by show s0.data.toList.length ≤ _; omega, by show s3.data.toList.length ≤ _; omega, by show _ ≤ s2; omega, by show s2 ≤ _; omega⟩
end Go.Proofs.YtkgepklmhdjjnaaGreatDoor

/-
  DERIVED. How long an argument []api.Field can be.
-/
namespace Go.Proofs.YtkgepklmhdjjnaaGreatDoor
open Go.ChangeShapes Go.WideShapes Go.ChangeAt Go.RowKit
set_option linter.unusedVariables false

set_option maxRecDepth 100000 in
theorem fields_bound {H : Type} {enc : TypeId × Value → H} {W : World} {a : Option Addr} {n c : Nat} {d : DataW H} {p : List MemPlace} {ts : List TypeId} {ds : List (DataW H)} (hsz : (DataW.weightsEach Tryz.prog ts ds).all (· ≤ reachBytes) = true) {j : Nat} (hj : ds[j]? = some d)
    (h : DataW.Trod enc Tryz.prog W 0 (fun _ => true) true 23 (.slice a n c) d p) (ht : ts[j]? = some 23) : n * 48 ≤ 140737488351232 := by
  obtain ⟨fuel, hf⟩ := h
  rcases Go.Deep.open_slice Tryz.underlying23 hf with ⟨hcs, _⟩ | ⟨x, n', cap, m, k, D, Pl, hcs, _, hl, hm, hz, hx, hcell⟩
  · simp [Value.cells] at hcs
    rw [hcs.2.1]; omega
  · simp [Value.cells] at hcs
    obtain ⟨rfl, rfl, rfl⟩ := hcs
    have hd := congrArg Prod.fst hx
    simp only at hd
    rw [hd] at hj
    have := sized_slice hsz ht hj Tryz.underlying23
    rw [show Tryz.prog.bytesOf 33 = 48 by kernel_rfl] at this
    simp only [List.length_map, List.length_range, reachBytes] at this
    omega
end Go.Proofs.YtkgepklmhdjjnaaGreatDoor

/-
  DERIVED. From the row's listed variables to the walks' facts; a world that meets them.
-/
namespace Go.Proofs.YtkgepklmhdjjnaaGreatDoor
open Go.ChangeShapes Go.WideShapes Go.RowKit
set_option linter.unusedVariables false

theorem own_knob : ownKnob Tryz.prog.godebug = none := by kernel_rfl
theorem laid_out : laidOutB Tryz.prog = true := by kernel_rfl

/-- What the rows list. -/
noncomputable def seatLaid : List (String × DataW Unit) := [("math/bits.deBruijn32tab", Rows.laid_math_bits_deBruijn32tab), ("math/bits.deBruijn64tab", Rows.laid_math_bits_deBruijn64tab), ("internal/strconv.uint64pow10", Rows.laid_internal_strconv_uint64pow10), ("strconv.ErrRange", Rows.laid_strconv_ErrRange), ("strconv.ErrSyntax", Rows.laid_strconv_ErrSyntax)]

theorem star_eq : "*" ++ "errors.errorString" = "*errors.errorString" := by decide
theorem row_err (u : TypeId) (h : Tryz.prog.typeName? 3 u = some "*errors.errorString") : u = 268 :=
  Go.typeName_ptr_named (nm := "errors.errorString") (by rw [star_eq]; kernel_rfl) (by kernel_rfl) (by decide) u (by rw [star_eq]; exact h)

theorem vars_of_laid {W : World} (h : laidMetH Tryz.prog seatLaid W) : Vars W := by
  have h1 : laidMet Tryz.prog seatLaid W := h
  unfold seatLaid at h1
  have h3 := laidMet.tail (laidMet.tail h1)
  have h4 := laidMet.tail h3
  have h5 := laidMet.tail h4
  refine ⟨Lib.tabIs_of_head (g := 3) (t := 265) (e := 232) (n := 20) (by kernel_rfl) (by kernel_rfl) (by kernel_rfl) (by kernel_rfl) (by kernel_rfl) (by kernel_rfl) (zs := Lib.pow10Tab) h3, ?_, ?_⟩
  · obtain ⟨a, s, hv, _⟩ := laid_sentinel (g := 1) (ti := 189) (tp := 268) (te := 270) (ts := 9) h5 (by kernel_rfl) (by kernel_rfl) Tryz.underlying189 row_err Tryz.underlying268 Tryz.underlying270 rfl rfl Tryz.underlying9 (by kernel_rfl) (by kernel_rfl)
    exact ⟨_, _, by simpa using World.var?_cell (g := 1) (by kernel_rfl) hv 0⟩
  · obtain ⟨a, s, hv, _⟩ := laid_sentinel (g := 2) (ti := 189) (tp := 268) (te := 270) (ts := 9) h4 (by kernel_rfl) (by kernel_rfl) Tryz.underlying189 row_err Tryz.underlying268 Tryz.underlying270 rfl rfl Tryz.underlying9 (by kernel_rfl) (by kernel_rfl)
    exact ⟨_, _, by simpa using World.var?_cell (g := 2) (by kernel_rfl) hv 0⟩

/-- A datum's cells, of a table of numbers. -/
def tabOf : DataW Unit → Array Value
  | .agg l => (l.map fun
    | .lit (.int k z) => Value.int k z
    | _ => Value.int .u8 0).toArray
  | _ => #[]
def putG (h : Array Obj) (g : Nat) (cs : Array Value) : Array Obj := h.modify g fun
  | .cells _ t frozen => .cells cs t frozen
  | o => o
/-- A world that meets what the rows list. -/
noncomputable def laidWorld (os : Os) : World :=
  let N := (World.settled Tryz.prog os).heap.size
  let w0 := World.holding Tryz.prog os ⟨#[.cells #[.string ⟨#[118, 97, 108, 117, 101, 32, 111, 117, 116, 32, 111, 102, 32, 114, 97, 110, 103, 101]⟩] 270, .cells #[.string ⟨#[105, 110, 118, 97, 108, 105, 100, 32, 115, 121, 110, 116, 97, 120]⟩] 270], #[], []⟩
  let h0 := putG (putG w0.heap 2 #[.iface 268 (.pointer (some ⟨N, 0, none⟩))]) 1 #[.iface 268 (.pointer (some ⟨N + 1, 0, none⟩))]
  let h1 := putG (putG (putG h0 4 (tabOf Rows.laid_math_bits_deBruijn32tab)) 5 (tabOf Rows.laid_math_bits_deBruijn64tab)) 3 (tabOf Rows.laid_internal_strconv_uint64pow10)
  { w0 with heap := h1 }
noncomputable abbrev N0 : Nat := (World.settled Tryz.prog default).heap.size
set_option maxRecDepth 1000000 in
theorem laidWorld_met (os : Os) (args : Array Value) : laidMetH Tryz.prog seatLaid ((laidWorld os).forCall (fun _ _ => 0) ⟨#[], args, []⟩).memory :=
  (_root_.Go.LaidIn.of_run [2, 1, 4, 5, 3, N0, N0 + 1] 8 (by kernel_rfl) (by kernel_rfl) (by kernel_rfl) (by kernel_rfl) : _root_.Go.LaidIn Tryz.prog _ seatLaid _).met
end Go.Proofs.YtkgepklmhdjjnaaGreatDoor
