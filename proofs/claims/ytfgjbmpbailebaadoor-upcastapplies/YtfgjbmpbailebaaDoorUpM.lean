/-
  DERIVED. What upcasters do, plain.
-/
import Derived.Test.YtfgjbmpbailebaaDoorShkm
import Derived.Lib.ItoaLen
namespace Go.Proofs.YtfgjbmpbailebaaDoor
open Go.RowKit
set_option linter.unusedVariables false

/-- A change. -/
structure Chg where
  kind : Int
  name : List UInt8
  tn : List UInt8
  f : Fld
deriving DecidableEq
/-- An upcaster. -/
structure Upc where
  type : List UInt8
  frm : Int
  chs : List Chg
deriving DecidableEq

abbrev bnd : Int := 1000000000000000
/-- A product that may be. -/
def timesZ (a b : Int) : Option Int := if -bnd ≤ a ∧ a ≤ bnd ∧ -bnd ≤ b ∧ b ≤ bnd ∧ -bnd ≤ a * b ∧ a * b ≤ bnd then some (a * b) else none

def addC (fs : List Fld) (c : Chg) : List Fld := if hasF fs c.f.name = true ∨ 16 ≤ fs.length then fs else setF fs c.f
def renC (fs : List Fld) (c : Chg) : List Fld := if hasF fs c.name = false ∨ hasF fs c.tn = true then fs else setF (dropF fs c.name) ⟨c.tn, (getA fs c.name).text, (getA fs c.name).n, (getA fs c.name).s⟩
def shoC (fs : List Fld) (c : Chg) : List Fld := if hasF fs c.name = true ∧ (getA fs c.name).text = false then setF fs ⟨c.name, true, 0, Lib.itoa (getA fs c.name).n⟩ else fs
def scaC (fs : List Fld) (c : Chg) : List Fld := if hasF fs c.name = true ∧ (getA fs c.name).text = false then (match timesZ (getA fs c.name).n c.f.n with
  | some p => setF fs ⟨c.name, false, p, []⟩
  | none => fs) else fs
/-- What a change does. -/
def doC (fs : List Fld) (c : Chg) : List Fld :=
  if c.kind = 1 then addC fs c else if c.kind = 2 then dropF fs c.name else if c.kind = 3 then renC fs c else if c.kind = 4 then shoC fs c else if c.kind = 5 then scaC fs c else fs

def isU (t : List UInt8) (v : Int) (u : Upc) : Bool := u.type == t && u.frm == v
def findU (l : List Upc) (t : List UInt8) (v : Int) : Option Upc := l.find? (isU t v)
/-- The next version, as Go counts. -/
def nxt (v : Int) : Int := IntKind.i64.wrap (v + 1)
def applyN : Nat → List Upc → List UInt8 → Int → List Fld → Int × List Fld
  | 0, _, _, v, fs => (v, fs)
  | n + 1, l, t, v, fs => match findU l t v with
    | none => (v, fs)
    | some u => applyN n l t (nxt v) (u.chs.foldl doC fs)
def applyU (l : List Upc) (t : List UInt8) (v : Int) (fs : List Fld) : Int × List Fld := applyN (l.length + 1) l t v fs

def latN : Nat → List Upc → List UInt8 → Nat → Nat
  | 0, _, _, v => v
  | n + 1, l, t, v => if (findU l t v).isSome then latN n l t (v + 1) else v
def latestU (l : List Upc) (t : List UInt8) : Nat := latN (l.length + 1) l t 0

/-! ### Which upcasters may be -/
def namesC (c : Chg) : List (List UInt8) := if c.kind = 1 then [c.f.name] else if c.kind = 3 then [c.name, c.tn] else if c.kind = 2 ∨ c.kind = 4 ∨ c.kind = 5 then [c.name] else []
def chgE (c : Chg) : Int := if namesC c = [] then 143 else if (namesC c).all nameB = false then 141 else if c.kind = 1 ∧ mayF c.f ≠ 0 then 143 else 0
def chsE : List Chg → Int
  | [] => 0
  | c :: r => if chgE c ≠ 0 then chgE c else chsE r
def headE (u : Upc) : Int := if nameB u.type = false then 141 else if u.frm < 0 ∨ 1073741824 ≤ u.frm then 143 else 0
def oneE (pre : List Upc) (u : Upc) : Int := if headE u ≠ 0 then headE u else if pre.any (isU u.type u.frm) = true then 142 else chsE u.chs
def chkU (pre : List Upc) : List Upc → Int
  | [] => 0
  | u :: r => if oneE pre u ≠ 0 then oneE pre u else chkU (pre ++ [u]) r
def manyU (l : List Upc) : Bool := decide (64 < l.length) || l.any (fun u => decide (16 < u.chs.length))
def checkU (l : List Upc) : Int := if manyU l = true then 140 else chkU [] l

/-! ### What follows -/
theorem isU_iff {t : List UInt8} {v : Int} {u : Upc} : isU t v u = true ↔ u.type = t ∧ u.frm = v := by simp [isU]

/-- Of unlike numbers, all on a list, there are no more than the list has. -/
theorem ints_sub : ∀ (R S : List Int), R.Pairwise (· ≠ ·) → (∀ x ∈ R, x ∈ S) → R.length ≤ S.length
  | [], S, _, _ => by simp
  | a :: R, S, hp, hs => by
    obtain ⟨h1, h2⟩ := List.pairwise_cons.1 hp
    have ha : a ∈ S := hs a (by simp)
    have := ints_sub R (S.erase a) h2 (fun x hx => (List.mem_erase_of_ne (h1 x hx).symm).2 (hs x (by simp [hx])))
    rw [List.length_erase_of_mem ha] at this
    have := List.length_pos_of_mem ha
    simp only [List.length_cons]
    omega

/-- The version j steps on. -/
def verN (v : Int) (j : Nat) : Int := IntKind.i64.wrap (v + j)
theorem wrap_eq (z : Int) : IntKind.i64.wrap z = (z + 9223372036854775808) % 18446744073709551616 - 9223372036854775808 := by
  unfold IntKind.wrap
  simp [IntKind.signed, IntKind.bits]
  omega
theorem verN_next (v : Int) (j : Nat) : nxt (verN v j) = verN v (j + 1) := by
  unfold nxt verN
  simp only [wrap_eq]
  omega
theorem verN_zero {v : Int} (h0 : -9223372036854775808 ≤ v) (h1 : v ≤ 9223372036854775807) : verN v 0 = v := by
  unfold verN
  rw [wrap_eq]
  omega
theorem verN_range (v : Int) (j : Nat) : -9223372036854775808 ≤ verN v j ∧ verN v j ≤ 9223372036854775807 := by
  unfold verN
  rw [wrap_eq]
  omega
theorem verN_inj (v : Int) {i j : Nat} (hi : i < 18446744073709551616) (hj : j < 18446744073709551616) (h : verN v i = verN v j) : i = j := by
  unfold verN at h
  simp only [wrap_eq] at h
  omega

theorem findU_some {l : List Upc} {t : List UInt8} {v : Int} {u : Upc} (h : findU l t v = some u) : u ∈ l ∧ u.type = t ∧ u.frm = v := by
  have h1 := List.find?_some h
  exact ⟨List.mem_of_find?_eq_some h, isU_iff.1 h1⟩

/-- As many steps as were taken, as many upcasters there are. -/
theorem steps_le {l : List Upc} {t : List UInt8} {v : Int} {k : Nat} (hk : k < 18446744073709551616) (h : ∀ j, j < k → (findU l t (verN v j)).isSome) : k ≤ l.length := by
  have := ints_sub ((List.range k).map (verN v)) (l.map (·.frm)) ?_ ?_
  · simpa using this
  · rw [List.pairwise_map]
    refine List.Pairwise.imp_of_mem ?_ (List.nodup_range (n := k))
    intro a b ha hb hne e
    rw [List.mem_range] at ha hb
    exact hne (verN_inj v (by omega) (by omega) e)
  · intro x hx
    obtain ⟨j, hj, rfl⟩ := List.mem_map.1 hx
    rw [List.mem_range] at hj
    obtain ⟨u, hu⟩ := Option.isSome_iff_exists.1 (h j hj)
    obtain ⟨h1, h2, h3⟩ := findU_some hu
    exact List.mem_map.2 ⟨u, h1, h3⟩

/-- Where an upcast stands: so many steps were taken. -/
structure Stp (l : List Upc) (t : List UInt8) (v : Int) (fs : List Fld) (k : Nat) (cur : List Fld) : Prop where
  le : k ≤ l.length
  was : ∀ j, j < k → (findU l t (verN v j)).isSome
  same : applyU l t v fs = applyN (l.length + 1 - k) l t (verN v k) cur
theorem Stp.start {l : List Upc} {t : List UInt8} {v : Int} {fs : List Fld} (h0 : -9223372036854775808 ≤ v) (h1 : v ≤ 9223372036854775807) : Stp l t v fs 0 fs :=
  ⟨Nat.zero_le _, fun j h => by omega, by rw [verN_zero h0 h1]; rfl⟩
theorem Stp.next {l : List Upc} {t : List UInt8} {v : Int} {fs cur : List Fld} {k : Nat} (h : Stp l t v fs k cur) (hl : l.length < 1000000000000000000) {u : Upc} (hu : findU l t (verN v k) = some u) : Stp l t v fs (k + 1) (u.chs.foldl doC cur) := by
  have hw : ∀ j, j < k + 1 → (findU l t (verN v j)).isSome := by
    intro j hj
    by_cases e : j = k
    · subst e; rw [hu]; rfl
    · exact h.was j (by omega)
  have hle := steps_le (k := k + 1) (by have := h.le; omega) hw
  refine ⟨hle, hw, ?_⟩
  rw [h.same, show l.length + 1 - k = (l.length + 1 - (k + 1)) + 1 by omega, applyN, hu]
  simp only [verN_next]
theorem Stp.ends {l : List Upc} {t : List UInt8} {v : Int} {fs cur : List Fld} {k : Nat} (h : Stp l t v fs k cur) (hu : findU l t (verN v k) = none) : applyU l t v fs = (verN v k, cur) := by
  rw [h.same, show l.length + 1 - k = (l.length - k) + 1 by have := h.le; omega, applyN, hu]

theorem stp_all {l : List Upc} {t : List UInt8} {v : Int} {fs : List Fld} (hl : l.length < 1000000000000000000) (P : List Fld → Prop) (hP : ∀ u ∈ l, ∀ g, P g → P (u.chs.foldl doC g)) : ∀ (n k : Nat) (cur : List Fld), l.length + 1 - k ≤ n → Stp l t v fs k cur → P cur → ∃ k' cur', Stp l t v fs k' cur' ∧ findU l t (verN v k') = none ∧ P cur'
  | 0, k, cur, hn, h, _ => by have := h.le; omega
  | n + 1, k, cur, hn, h, hp => by
    cases hu : findU l t (verN v k) with
    | none => exact ⟨k, cur, h, hu, hp⟩
    | some u => exact stp_all hl P hP n (k + 1) _ (by omega) (h.next hl hu) (hP u (findU_some hu).1 _ hp)
/-- An event comes to where there is no upcaster any more. -/
theorem apply_ends {l : List Upc} {t : List UInt8} {v : Int} {fs : List Fld} (hl : l.length < 1000000000000000000) (h0 : -9223372036854775808 ≤ v) (h1 : v ≤ 9223372036854775807) (P : List Fld → Prop) (hP : ∀ u ∈ l, ∀ g, P g → P (u.chs.foldl doC g)) (hp : P fs) :
    ∃ k, Stp l t v fs k (applyU l t v fs).2 ∧ (applyU l t v fs).1 = verN v k ∧ findU l t (verN v k) = none ∧ P (applyU l t v fs).2 := by
  obtain ⟨k, cur, h, hu, hpc⟩ := stp_all (t := t) (v := v) (fs := fs) hl P hP (l.length + 1) 0 fs (by omega) (Stp.start h0 h1) hp
  have e := h.ends hu
  rw [e]
  exact ⟨k, h, rfl, hu, hpc⟩
theorem apply_rests {l : List Upc} {t : List UInt8} {v : Int} {fs : List Fld} (h : findU l t v = none) : applyU l t v fs = (v, fs) := by
  unfold applyU
  rw [applyN, h]

theorem latN_at {l : List Upc} {t : List UInt8} : ∀ (n v k : Nat), v + n = l.length + 1 → v ≤ k → k ≤ l.length → (∀ j, v ≤ j → j < k → (findU l t (j : Int)).isSome) → findU l t (k : Int) = none → latN n l t v = k
  | 0, v, k, hn, hv, hk, _, _ => by omega
  | n + 1, v, k, hn, hv, hk, hw, hu => by
    rw [latN]
    by_cases e : v = k
    · subst e
      rw [hu]; rfl
    · rw [if_pos (hw v (Nat.le_refl _) (by omega))]
      exact latN_at n (v + 1) k (by omega) (by omega) hk (fun j h1 h2 => hw j (by omega) h2) hu
theorem latest_at {l : List Upc} {t : List UInt8} {k : Nat} (hk : k ≤ l.length) (hw : ∀ j, j < k → (findU l t (j : Int)).isSome) (hu : findU l t (k : Int) = none) : latestU l t = k :=
  latN_at (l.length + 1) 0 k (by omega) (by omega) hk (fun j _ h => hw j h) hu
theorem verN_nat {k : Nat} (hk : k < 1000000000000000000) : verN 0 k = (k : Int) := by
  unfold verN
  rw [wrap_eq]
  omega
theorem ver_step {l : List Upc} {t : List UInt8} {k : Nat} (hl : l.length < 1000000000000000000) (hw : ∀ j, j < k → (findU l t (j : Int)).isSome) (hk : k < 1000000000000000000) : k ≤ l.length :=
  steps_le (v := 0) (t := t) (by omega) (fun j hj => by rw [verN_nat (by omega)]; exact hw j hj)

/-! ### Upcasters that may be -/
structure GoodU (l : List Upc) : Prop where
  len : l.length ≤ 64
  chl : ∀ u ∈ l, u.chs.length ≤ 16
  head : ∀ u ∈ l, headE u = 0
  chs : ∀ u ∈ l, chsE u.chs = 0
  once : l.Pairwise (fun a b => ¬ (a.type = b.type ∧ a.frm = b.frm))

theorem chkU_iff : ∀ (l pre : List Upc), chkU pre l = 0 ↔ (∀ u ∈ l, headE u = 0) ∧ (∀ u ∈ l, chsE u.chs = 0) ∧ (∀ a ∈ pre, ∀ b ∈ l, ¬ (a.type = b.type ∧ a.frm = b.frm)) ∧ l.Pairwise (fun a b => ¬ (a.type = b.type ∧ a.frm = b.frm))
  | [], pre => by simp [chkU]
  | u :: r, pre => by
    have ih := chkU_iff r (pre ++ [u])
    rw [chkU]
    have hone : oneE pre u = 0 ↔ headE u = 0 ∧ chsE u.chs = 0 ∧ ∀ a ∈ pre, ¬ (a.type = u.type ∧ a.frm = u.frm) := by
      unfold oneE
      by_cases h1 : headE u = 0
      · rw [if_neg (by simpa using h1)]
        by_cases h2 : pre.any (isU u.type u.frm) = true
        · rw [if_pos h2]
          obtain ⟨a, ha, hb⟩ := List.any_eq_true.1 h2
          simp only [h1, true_and]
          constructor
          · intro h; omega
          · intro h; exact absurd (isU_iff.1 hb) (h.2 a ha)
        · rw [if_neg h2]
          simp only [h1, true_and]
          constructor
          · intro h
            exact ⟨h, fun a ha he => h2 (List.any_eq_true.2 ⟨a, ha, isU_iff.2 he⟩)⟩
          · intro h; exact h.1
      · rw [if_pos h1]
        simp only [h1, false_and]
    by_cases h : oneE pre u = 0
    · rw [if_neg (by simpa using h), ih]
      obtain ⟨h1, h2, h3⟩ := hone.1 h
      constructor
      · rintro ⟨a1, a2, a3, a4⟩
        refine ⟨?_, ?_, ?_, ?_⟩
        · intro x hx
          rcases List.mem_cons.1 hx with rfl | hx
          · exact h1
          · exact a1 x hx
        · intro x hx
          rcases List.mem_cons.1 hx with rfl | hx
          · exact h2
          · exact a2 x hx
        · intro a ha b hb
          rcases List.mem_cons.1 hb with rfl | hb
          · exact h3 a ha
          · exact a3 a (by simp [ha]) b hb
        · exact List.pairwise_cons.2 ⟨fun b hb => a3 u (by simp) b hb, a4⟩
      · rintro ⟨a1, a2, a3, a4⟩
        obtain ⟨b1, b2⟩ := List.pairwise_cons.1 a4
        refine ⟨fun x hx => a1 x (by simp [hx]), fun x hx => a2 x (by simp [hx]), ?_, b2⟩
        intro a ha b hb
        rcases List.mem_append.1 ha with ha | ha
        · exact a3 a ha b (by simp [hb])
        · rw [List.mem_singleton.1 ha]; exact b1 b hb
    · rw [if_pos h]
      constructor
      · intro e; exact absurd e h
      · rintro ⟨a1, a2, a3, a4⟩
        exact absurd (hone.2 ⟨a1 u (by simp), a2 u (by simp), fun a ha => a3 a ha u (by simp)⟩) h

theorem checkU_iff (l : List Upc) : checkU l = 0 ↔ GoodU l := by
  unfold checkU manyU
  constructor
  · intro h
    split at h
    · omega
    · rename_i hm
      simp only [Bool.or_eq_true, decide_eq_true_eq, List.any_eq_true, not_or, not_exists, not_and] at hm
      obtain ⟨a1, a2, a3, a4⟩ := (chkU_iff l []).1 h
      exact ⟨by omega, fun u hu => by have := hm.2 u hu; omega, a1, a2, a4⟩
  · intro h
    rw [if_neg]
    · exact (chkU_iff l []).2 ⟨h.head, h.chs, fun a ha => by simp at ha, h.once⟩
    · simp only [Bool.or_eq_true, decide_eq_true_eq, List.any_eq_true, not_or, not_exists, not_and]
      exact ⟨by have := h.len; omega, fun u hu => by have := h.chl u hu; omega⟩

theorem GoodU.turned {l : List Upc} (h : GoodU l) : GoodU l.reverse :=
  ⟨by simpa using h.len, fun u hu => h.chl u (by simpa using hu), fun u hu => h.head u (by simpa using hu), fun u hu => h.chs u (by simpa using hu),
    List.pairwise_reverse.2 (h.once.imp (fun {a b} hn e => hn ⟨e.1.symm, e.2.symm⟩))⟩

theorem find_once {l : List Upc} (h : l.Pairwise (fun a b => ¬ (a.type = b.type ∧ a.frm = b.frm))) {t : List UInt8} {v : Int} {u : Upc} (hu : u ∈ l) (he : u.type = t ∧ u.frm = v) : findU l t v = some u := by
  induction l with
  | nil => simp at hu
  | cons a r ih =>
    obtain ⟨h1, h2⟩ := List.pairwise_cons.1 h
    unfold findU
    rcases List.mem_cons.1 hu with rfl | hu'
    · rw [List.find?_cons_of_pos (isU_iff.2 he)]
    · rw [List.find?_cons_of_neg]
      · exact ih h2 hu'
      · intro hi
        obtain ⟨e1, e2⟩ := isU_iff.1 hi
        exact h1 u hu' ⟨e1.trans he.1.symm, e2.trans he.2.symm⟩
theorem find_none {l : List Upc} {t : List UInt8} {v : Int} : findU l t v = none ↔ ∀ u ∈ l, ¬ (u.type = t ∧ u.frm = v) := by
  unfold findU
  rw [List.find?_eq_none]
  constructor
  · intro h u hu he; exact h u hu (isU_iff.2 he)
  · intro h u hu he; exact h u hu (isU_iff.1 he)
theorem GoodU.find {l : List Upc} (h : GoodU l) (t : List UInt8) (v : Int) : findU l.reverse t v = findU l t v := by
  cases hf : findU l t v with
  | none => exact find_none.2 (fun u hu => find_none.1 hf u (by simpa using hu))
  | some u =>
    obtain ⟨h1, h2⟩ := findU_some hf
    exact find_once h.turned.once (by simpa using h1) h2
theorem applyN_congr {l l' : List Upc} {t : List UInt8} (h : ∀ v, findU l' t v = findU l t v) : ∀ (n : Nat) (v : Int) (fs : List Fld), applyN n l' t v fs = applyN n l t v fs
  | 0, _, _ => rfl
  | n + 1, v, fs => by
    rw [applyN, applyN, h v]
    cases findU l t v with
    | none => rfl
    | some u => exact applyN_congr h n _ _
theorem latN_congr {l l' : List Upc} {t : List UInt8} (h : ∀ v, findU l' t v = findU l t v) : ∀ (n v : Nat), latN n l' t v = latN n l t v
  | 0, _ => rfl
  | n + 1, v => by rw [latN, latN, h v, latN_congr h n (v + 1)]
theorem GoodU.apply {l : List Upc} (h : GoodU l) (t : List UInt8) (v : Int) (fs : List Fld) : applyU l.reverse t v fs = applyU l t v fs := by
  unfold applyU
  rw [List.length_reverse]
  exact applyN_congr (h.find t) _ _ _
theorem GoodU.latest {l : List Upc} (h : GoodU l) (t : List UInt8) : latestU l.reverse t = latestU l t := by
  unfold latestU
  rw [List.length_reverse]
  exact latN_congr (h.find t) _ _
end Go.Proofs.YtfgjbmpbailebaaDoor
