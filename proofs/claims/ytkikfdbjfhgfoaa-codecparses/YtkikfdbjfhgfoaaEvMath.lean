/-
  DERIVED. The plain mathematics of batches that are laid: unlike ones are laid otherwise (P1.7, P1.8).
-/
import Derived.Test.YtkikfdbjfhgfoaaEv
import Derived.Test.YtkikfdbjfhgfoaaLayT
import Derived.Test.YtkikfdbjfhgfoaaMath3
namespace Go.Proofs.Ytkikfdbjfhgfoaa

structure Evn where
  type : List UInt8
  ver : Int
  fields : List Fld
structure Bat where
  stream : List UInt8
  key : List UInt8
  first : Int
  events : List Evn

def layFld (f : Fld) : List UInt8 := layT f.name ++ (if f.text then 1 :: layT f.s else 0 :: lay (zig f.n))
def laysL {α : Type} (g : α → List UInt8) : List α → List UInt8
  | [] => []
  | a :: r => g a ++ laysL g r
def layEv (e : Evn) : List UInt8 := layT e.type ++ lay e.ver.toNat ++ lay e.fields.length ++ laysL layFld e.fields
def layBt (x : Bat) : List UInt8 := layT x.stream ++ layT x.key ++ lay x.first.toNat ++ lay x.events.length ++ laysL layEv x.events

theorem laysL_snoc {α : Type} (g : α → List UInt8) (l : List α) (a : α) : laysL g (l ++ [a]) = laysL g l ++ g a := by
  induction l with
  | nil => simp [laysL]
  | cons b l ih => simp [laysL, ih]

def okBatch (x : Bat) : Prop := okName x.stream ∧ x.key.length ≤ 60 ∧ 0 ≤ x.first ∧ x.first ≤ 1099511627776 ∧ 1 ≤ x.events.length ∧ x.events.length ≤ 16
def okEv (e : Evn) : Prop := okEvent e.type e.ver e.fields

theorem lay_pre {a b : Nat} {r s : List UInt8} (ha : a < 18446744073709551616) (hb : b < 18446744073709551616) (h : lay a ++ r = lay b ++ s) : a = b ∧ r = s := by
  have h1 := rd_lay a ha r
  rw [h, rd_lay b hb s] at h1
  simp only [Prod.mk.injEq, and_true] at h1
  obtain ⟨e, _⟩ := h1
  subst e
  exact ⟨rfl, List.append_cancel_left h⟩
theorem layT_pre {a b r s : List UInt8} (ha : a.length < 18446744073709551616) (hb : b.length < 18446744073709551616) (h : layT a ++ r = layT b ++ s) : a = b ∧ r = s := by
  unfold layT at h
  rw [List.append_assoc, List.append_assoc] at h
  obtain ⟨e, h2⟩ := lay_pre ha hb h
  exact List.append_inj h2 e
theorem layFld_pre {a b : Fld} {r s : List UInt8} (ha : okField a) (hb : okField b) (hna : -9223372036854775808 ≤ a.n ∧ a.n ≤ 9223372036854775807) (hnb : -9223372036854775808 ≤ b.n ∧ b.n ≤ 9223372036854775807) (h : layFld a ++ r = layFld b ++ s) : a = b ∧ r = s := by
  obtain ⟨an, at_, ai, as'⟩ := a
  obtain ⟨bn, bt, bi, bs⟩ := b
  obtain ⟨a1, a2, a3⟩ := ha
  obtain ⟨b1, b2, b3⟩ := hb
  unfold okName at a1 b1
  simp only at a1 a2 a3 b1 b2 b3 hna hnb
  unfold layFld at h
  simp only [List.append_assoc] at h
  obtain ⟨e, h'⟩ := layT_pre (a := an) (b := bn) (by omega) (by omega) h
  clear h
  subst e
  have h := h'
  clear h'
  cases at_ <;> cases bt
  · have e1 := a3 rfl
    have e2 := b3 rfl
    subst e1 e2
    simp at h
    obtain ⟨e, h2⟩ := lay_pre (zig_lt ai hna.1 hna.2) (zig_lt bi hnb.1 hnb.2) h
    have := congrArg unz e
    rw [unz_zig, unz_zig] at this
    exact ⟨by rw [this], h2⟩
  · simp at h
  · simp at h
  · have e1 := a2 rfl
    have e2 := b2 rfl
    simp at h
    obtain ⟨e, h2⟩ := layT_pre (a := as') (b := bs) (by omega) (by omega) h
    exact ⟨by rw [e, e1.2, e2.2], h2⟩
theorem laysL_pre {α : Type} {g : α → List UInt8} {P : α → Prop} (hg : ∀ a b r s, P a → P b → g a ++ r = g b ++ s → a = b ∧ r = s) : ∀ (l m : List α) (r s : List UInt8), l.length = m.length → (∀ a ∈ l, P a) → (∀ a ∈ m, P a) → laysL g l ++ r = laysL g m ++ s → l = m ∧ r = s
  | [], [], r, s, _, _, _, h => ⟨rfl, by simpa [laysL] using h⟩
  | [], b :: m, r, s, hl, _, _, _ => by simp at hl
  | a :: l, [], r, s, hl, _, _, _ => by simp at hl
  | a :: l, b :: m, r, s, hl, ha, hb, h => by
    simp only [laysL, List.append_assoc] at h
    obtain ⟨e, h2⟩ := hg a b _ _ (ha a (by simp)) (hb b (by simp)) h
    obtain ⟨e2, h3⟩ := laysL_pre hg l m r s (by simpa using hl) (fun x hx => ha x (by simp [hx])) (fun x hx => hb x (by simp [hx])) h2
    exact ⟨by rw [e, e2], h3⟩
def fitN (f : Fld) : Prop := -9223372036854775808 ≤ f.n ∧ f.n ≤ 9223372036854775807
theorem okAt_field {fs : List Fld} (h : ∀ j, j < fs.length → okAt fs j) : ∀ f ∈ fs, okField f := by
  intro f hf
  obtain ⟨j, hj, rfl⟩ := List.mem_iff_getElem.1 hf
  obtain ⟨g, hg, h1, _⟩ := h j hj
  rw [List.getElem?_eq_getElem hj] at hg
  cases hg
  exact h1
theorem layEv_pre (a b : Evn) (r s : List UInt8) (ha : okEv a ∧ ∀ f ∈ a.fields, fitN f) (hb : okEv b ∧ ∀ f ∈ b.fields, fitN f) (h : layEv a ++ r = layEv b ++ s) : a = b ∧ r = s := by
  obtain ⟨⟨a1, a2, a3, a4, a5⟩, a6⟩ := ha
  obtain ⟨⟨b1, b2, b3, b4, b5⟩, b6⟩ := hb
  obtain ⟨at_, av, af⟩ := a
  obtain ⟨bt, bv', bf⟩ := b
  unfold okName at a1 b1
  simp only at a1 a2 a3 a4 a5 a6 b1 b2 b3 b4 b5 b6
  unfold layEv at h
  simp only [List.append_assoc] at h
  obtain ⟨e0, h1⟩ := layT_pre (a := at_) (b := bt) (by omega) (by omega) h
  obtain ⟨e1, h2⟩ := lay_pre (a := av.toNat) (b := bv'.toNat) (by omega) (by omega) h1
  obtain ⟨e2, h3⟩ := lay_pre (a := af.length) (b := bf.length) (by omega) (by omega) h2
  obtain ⟨e4, h4⟩ := laysL_pre (P := fun f => okField f ∧ fitN f) (fun x y r s hx hy h => layFld_pre hx.1 hy.1 hx.2 hy.2 h) af bf r s e2 (fun f hf => ⟨okAt_field a5 f hf, a6 f hf⟩) (fun f hf => ⟨okAt_field b5 f hf, b6 f hf⟩) h3
  obtain rfl : av = bv' := by omega
  exact ⟨by rw [e0, e4], h4⟩
theorem layBt_inj {x y : Bat} (hx : okBatch x ∧ ∀ e ∈ x.events, okEv e ∧ ∀ f ∈ e.fields, fitN f) (hy : okBatch y ∧ ∀ e ∈ y.events, okEv e ∧ ∀ f ∈ e.fields, fitN f) (h : layBt x = layBt y) : x = y := by
  obtain ⟨⟨a1, a2, a3, a4, a5, a6⟩, a7⟩ := hx
  obtain ⟨⟨b1, b2, b3, b4, b5, b6⟩, b7⟩ := hy
  obtain ⟨xs, xk, xf, xe⟩ := x
  obtain ⟨ys, yk, yf, ye⟩ := y
  unfold okName at a1 b1
  simp only at a1 a2 a3 a4 a5 a6 a7 b1 b2 b3 b4 b5 b6 b7
  unfold layBt at h
  simp only [List.append_assoc] at h
  obtain ⟨e0, h1⟩ := layT_pre (a := xs) (b := ys) (by omega) (by omega) h
  obtain ⟨e1, h2⟩ := layT_pre (a := xk) (b := yk) (by omega) (by omega) h1
  obtain ⟨e2, h3⟩ := lay_pre (a := xf.toNat) (b := yf.toNat) (by omega) (by omega) h2
  obtain ⟨e3, h4⟩ := lay_pre (a := xe.length) (b := ye.length) (by omega) (by omega) h3
  have h' : laysL layEv xe ++ [] = laysL layEv ye ++ [] := by simpa using h4
  obtain ⟨e4, _⟩ := laysL_pre (P := fun e => okEv e ∧ ∀ f ∈ e.fields, fitN f) layEv_pre xe ye [] [] e3 a7 b7 h'
  obtain rfl : xf = yf := by omega
  rw [e0, e1, e4]

theorem layT_len (s : List UInt8) : (layT s).length ≤ 10 + s.length := by
  have := lay_len s.length
  simp [layT]; omega
theorem layFld_len {f : Fld} (h : okField f) : (layFld f).length ≤ 300 := by
  obtain ⟨h1, h2, h3⟩ := h
  unfold okName at h1
  have q1 := layT_len f.name
  have q2 := layT_len f.s
  have q3 := lay_len (zig f.n)
  unfold layFld
  cases ht : f.text with
  | true =>
    have := (h2 ht).1
    simp; omega
  | false => simp; omega
theorem laysL_len {α : Type} {g : α → List UInt8} {m : Nat} : ∀ (l : List α), (∀ a ∈ l, (g a).length ≤ m) → (laysL g l).length ≤ m * l.length
  | [], _ => by simp [laysL]
  | a :: l, h => by
    have h1 := h a (by simp)
    have h2 := laysL_len l (fun x hx => h x (by simp [hx]))
    simp only [laysL, List.length_append, List.length_cons, Nat.mul_add]
    omega
theorem layEv_len {e : Evn} (h : okEv e) : (layEv e).length ≤ 5000 := by
  obtain ⟨h1, h2, h3, h4, h5⟩ := h
  unfold okName at h1
  have q1 := layT_len e.type
  have q2 := lay_len e.ver.toNat
  have q3 := lay_len e.fields.length
  have q4 := laysL_len (g := layFld) (m := 300) e.fields (fun f hf => layFld_len (okAt_field h5 f hf))
  simp only [layEv, List.length_append]
  omega
end Go.Proofs.Ytkikfdbjfhgfoaa
