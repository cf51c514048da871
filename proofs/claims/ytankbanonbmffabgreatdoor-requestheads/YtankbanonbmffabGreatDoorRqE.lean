/-
  DERIVED. Header lines in memory; the walks of isTarget, small, bare, strings.Split.
-/
import Derived.Test.YtankbanonbmffabGreatDoorRqD
import Derived.Test.YtankbanonbmffabGreatDoorLaysQ
import Derived.Laws.OwnMore
namespace Go.Proofs.YtankbanonbmffabGreatDoor
open Go.RowKit
set_option linter.unusedVariables false

/-! ### Header lines -/
def hcs (R : List Hd) : List Value := R.flatMap (fun f => [qv f.1, qv f.2])
theorem hcs_cons (f : Hd) (r : List Hd) : hcs (f :: r) = qv f.1 :: qv f.2 :: hcs r := by simp [hcs]
theorem hcs_len (R : List Hd) : (hcs R).length = R.length * 2 := by
  induction R with
  | nil => rfl
  | cons f r ih => rw [hcs_cons]; simp [ih]; omega
theorem hcs_append (A B : List Hd) : hcs (A ++ B) = hcs A ++ hcs B := by simp [hcs]
theorem hcs_one (R : List Hd) : ∀ u ∈ hcs R, u.oneCell' = true := by
  induction R with
  | nil => intro u hu; simp [hcs] at hu
  | cons f r ih =>
    intro u hu
    rw [hcs_cons] at hu
    simp only [List.mem_cons] at hu
    rcases hu with rfl | rfl | hu
    · rfl
    · rfl
    · exact ih u hu
theorem hcs_get : ∀ (R : List Hd) (i : Nat) (h : i < R.length), (hcs R)[i * 2]? = some (qv R[i].1) ∧ (hcs R)[i * 2 + 1]? = some (qv R[i].2)
  | [], i, h => by simp at h
  | f :: r, 0, h => by rw [hcs_cons]; simp
  | f :: r, i + 1, h => by
    have := hcs_get r i (by simp at h; omega)
    rw [hcs_cons]
    have e : (i + 1) * 2 = i * 2 + 1 + 1 := by omega
    have e1 : (i + 1) * 2 + 1 = (i * 2 + 1) + 1 + 1 := by omega
    rw [e1, e]
    simp only [List.getElem?_cons_succ, List.getElem_cons_succ]
    exact this

/-- A slice of header lines that reads as these. -/
def HdL (w : World) (v : Value) (hs : List Hd) : Prop :=
  ∃ ao cap, v = .slice ao hs.length cap ∧ hs.length ≤ cap ∧ cap ≤ 9223372036854775807 ∧
    (hs.length ≠ 0 → ∃ b off, ao = some ⟨b, off, none⟩ ∧ b < w.heap.size ∧ ∀ i, (h : i < hs.length) →
      w.cell? ⟨b, off + i * 2, none⟩ = some (qv hs[i].1) ∧ w.cell? ⟨b, off + i * 2 + 1, none⟩ = some (qv hs[i].2))
/-- A slice of header lines that a call made for itself. -/
def HOwn (w : World) (base : Nat) (v : Value) (R : List Hd) : Prop := w.ownsRow base 40 2 v R.length (hcs R)
theorem Tryz.infoHeader : (Tryz.prog.info? 40).map (fun i => (i.zero, i.size, i.bytes)) = some (some (.agg #[.string ⟨#[]⟩, .string ⟨#[]⟩]), 2, 32) := by kernel_rfl

theorem HdL.below {B : Nat} {w w' : World} {v : Value} {l : List Hd} (h : HdL w v l) (hb : Below B w w') (hB : w.heap.size ≤ B) : HdL w' v l := by
  obtain ⟨ao, cap, rfl, h1, h2, h4⟩ := h
  refine ⟨ao, cap, rfl, h1, h2, fun hz => ?_⟩
  obtain ⟨b, off, e, hlt, hc⟩ := h4 hz
  refine ⟨b, off, e, by have := hb.size; omega, fun i hi => ?_⟩
  obtain ⟨c0, c1⟩ := hc i hi
  exact ⟨(hb.cell (p := ⟨b, off + i * 2, none⟩) (by show b < B; omega)).trans c0, (hb.cell (p := ⟨b, off + i * 2 + 1, none⟩) (by show b < B; omega)).trans c1⟩
theorem HOwn.below {B base : Nat} {w w' : World} {v : Value} {l : List Hd} (h : HOwn w base v l) (hb : Below B w w') (hB : w.heap.size ≤ B) : HOwn w' base v l := by
  obtain ⟨h1, h2⟩ := h
  refine ⟨h1, ?_⟩
  rcases h2 with h | ⟨g, cap, cur, a, b, c, r⟩
  · exact .inl h
  · exact .inr ⟨g, cap, cur, a, b, (hb.block g (by have := lt_of_block c; omega)).trans c, r⟩
/-- Only block q has turned, which is none of header lines. -/
theorem HOwn.qf {base q : Nat} {w w' : World} {v : Value} {l : List Hd} (h : HOwn w base v l) (hb : QF q w w') {R : Rd} (hq : RdAt w q R) : HOwn w' base v l := by
  obtain ⟨h1, h2⟩ := h
  refine ⟨h1, ?_⟩
  rcases h2 with h | ⟨g, cap, cur, a, b, c, r⟩
  · exact .inl h
  · refine .inr ⟨g, cap, cur, a, b, (hb.block g (lt_of_block c) (fun e => ?_)).trans c, r⟩
    subst e
    rw [hq.1] at c
    simp at c
theorem HOwn.mono {base b2 : Nat} {w : World} {v : Value} {l : List Hd} (h : HOwn w base v l) (hb : b2 ≤ base) : HOwn w b2 v l := by
  obtain ⟨h1, h2⟩ := h
  refine ⟨h1, ?_⟩
  rcases h2 with h | ⟨g, cap, cur, a, b, c, r⟩
  · exact .inl h
  · exact .inr ⟨g, cap, cur, a, by omega, c, r⟩
theorem HOwn.nil (w : World) (base : Nat) : HOwn w base (.slice none 0 0) [] := World.ownsRow_nil _ _ _ _
theorem HOwn.hdl {w : World} {base : Nat} {v : Value} {R : List Hd} (h : HOwn w base v R) : HdL w v R := by
  obtain ⟨h1, h2⟩ := h
  rcases h2 with ⟨rfl, h⟩ | ⟨g, cap, cur, rfl, hb, hg, hn, hm, hs, ht⟩
  · exact ⟨none, 0, by rw [h], by omega, by omega, fun hz => absurd h hz⟩
  · refine ⟨some ⟨g, 0, none⟩, cap, rfl, hn, by unfold maxLen at hm; omega, fun _ => ⟨g, 0, rfl, lt_of_block hg, fun i hi => ?_⟩⟩
    have at' : ∀ j x, j < R.length * 2 → (hcs R)[j]? = some x → w.cell? ⟨g, 0 + j, none⟩ = some x := by
      intro j x hj hx
      have e : (cur.toList.take (R.length * 2))[j]? = (hcs R)[j]? := by rw [ht]
      rw [List.getElem?_take_of_lt hj, hx] at e
      simp only [World.cell?, hg, Nat.zero_add]
      simpa using e
    obtain ⟨g0, g1⟩ := hcs_get R i hi
    exact ⟨at' _ _ (by omega) g0, at' _ _ (by omega) g1⟩
theorem HOwn.sl {w : World} {base : Nat} {v : Value} {R : List Hd} (h : HOwn w base v R) : ∃ a c, v = .slice a R.length c := by
  obtain ⟨ao, cap, e, _⟩ := h.hdl
  exact ⟨ao, cap, e⟩

/-! ### isTarget -/
theorem hasPrefix_one (c : UInt8) (s : List UInt8) : Lib.hasPrefix s [c] = (s.head? == some c) := by
  unfold Lib.hasPrefix
  rcases s with _ | ⟨a, r⟩
  · rfl
  · by_cases h : c = a
    · subst h; simp [List.isPrefixOf]
    · have h1 : (c == a) = false := by simp [h]
      simp [List.isPrefixOf, h1, Ne.symm h]

set_option maxHeartbeats 2000000 in
theorem isTarget_any (s : List UInt8) (w : World) (hs : s.length ≤ 9223372036854770000) : Calls Tryz.prog 16 #[qv s] w fun e w' => e = .returned (.bool (qTarget s)) ∧ Below w.heap.size w w' := by
  have HC := hide (qCut_any s 63 w (by omega))
  have hl := qCut_len 63 s
  unfold qTarget
  obtain ⟨p, hp⟩ : ∃ p, p = qCut 63 s := ⟨_, rfl⟩
  rw [← hp] at HC hl ⊢
  obtain ⟨p1, p2⟩ := p
  obtain ⟨q, hq⟩ : ∃ q, q = p2.getD [] := ⟨_, rfl⟩
  have hql : q.length ≤ s.length := by
    rw [hq]
    cases p2 with
    | none => simp
    | some r => have := hl.2 r rfl; simp; omega
  simp only [qcutV, ← hq] at HC ⊢
  have HP : Hid (∀ W, Calls Tryz.prog 34 #[qv p1, .string ⟨#[47]⟩] W fun e w' => e = .returned (.bool (p1.head? == some 47)) ∧ w' = W) := hide (fun W => by
    have := Tryz.strings_HasPrefix ⟨p1.toArray⟩ ⟨#[47]⟩ W
    rw [show Lib.hasPrefix (⟨p1.toArray⟩ : ByteArray).data.toList (⟨#[47]⟩ : ByteArray).data.toList = (p1.head? == some 47) from hasPrefix_one 47 p1] at this
    exact this)
  have H1 := hide (fun W => isOf_any p1 [47] W (by have := hl.1; simp only at this; omega))
  have H2 := hide (fun W => isOf_any q [47, 61, 38, 39] W (by omega))
  obtain ⟨X, hX⟩ : ∃ X, X = (p1.head? == some 47) := ⟨_, rfl⟩
  obtain ⟨Y, hY⟩ : ∃ Y, Y = qOf [47] p1 := ⟨_, rfl⟩
  obtain ⟨Z, hZ⟩ : ∃ Z, Z = qOf [47, 61, 38, 39] q := ⟨_, rfl⟩
  rw [← hX] at HP ⊢
  rw [← hY] at H1 ⊢
  rw [← hZ] at H2 ⊢
  clear hX hY hZ hq hql hl hp hs
  cases X with
  | false =>
    go_enter Tryz.func16, Tryz.ntmps16
    go_wp2_with (first | (go_at_call 17; refine (unhide HC).mono ?_; rintro e w1 ⟨rfl, b1⟩; have HB := hide b1; clear b1) | (go_at_call 34; refine (unhide HP _).mono ?_; rintro e w2 ⟨rfl, rfl⟩))
    go_ret
    exact ⟨rfl, unhide HB⟩
  | true =>
    cases Y with
    | false =>
      go_enter Tryz.func16, Tryz.ntmps16
      go_wp2_with (first | (go_at_call 17; refine (unhide HC).mono ?_; rintro e w1 ⟨rfl, b1⟩; have HB := hide b1; clear b1) | (go_at_call 34; refine (unhide HP _).mono ?_; rintro e w2 ⟨rfl, rfl⟩) | (go_at_call 35; refine (unhide H1 _).mono ?_; rintro e w2 ⟨rfl, rfl⟩))
      go_ret
      exact ⟨rfl, unhide HB⟩
    | true =>
      go_enter Tryz.func16, Tryz.ntmps16
      go_wp2_with (first | (go_at_call 17; refine (unhide HC).mono ?_; rintro e w1 ⟨rfl, b1⟩; have HB := hide b1; clear b1) | (go_at_call 34; refine (unhide HP _).mono ?_; rintro e w2 ⟨rfl, rfl⟩) | (go_at_call 35; with_reducible refine (unhide H1 _).mono ?_; rintro e w2 ⟨rfl, rfl⟩) | (go_at_call 35; refine (unhide H2 _).mono ?_; rintro e w2 ⟨rfl, rfl⟩))
      go_ret
      exact ⟨rfl, unhide HB⟩

/-! ### bare -/
theorem bare_any (s : List UInt8) (w : World) (hs : s.length ≤ 9223372036854770000) : Calls Tryz.prog 21 #[qv s] w fun e w' => e = .returned (qv (qBare s)) ∧ Below w.heap.size w w' := by
  have HT : Hid (Calls Tryz.prog 39 #[qv s, .string ⟨#[32, 9]⟩] w fun e w' => e = .returned (qv (qBare s)) ∧ Below w.heap.size w w') :=
    hide (Any.strings_Trim_laid Tryz.trimL (by kernel_rfl) ⟨s.toArray⟩ ⟨#[32, 9]⟩ w (by show s.length ≤ _; omega) (by decide) (ascii_of_all (by decide)))
  clear hs
  go_enter Tryz.func21, Tryz.ntmps21
  go_wp2_with (go_at_call 39; refine (unhide HT).mono ?_; rintro e w1 ⟨rfl, b1⟩; have HB := hide b1; clear b1)
  go_ret
  exact ⟨rfl, unhide HB⟩
end Go.Proofs.YtankbanonbmffabGreatDoor
