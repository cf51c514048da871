/-
  DERIVED. The walk of strings.Split at one byte; of the document's Small.
-/
import Derived.Test.YtankbanonbmffabGreatDoorRqF
import Derived.Lib.SplitLaws
namespace Go.Proofs.YtankbanonbmffabGreatDoor
open Go.RowKit Go.Lib
set_option linter.unusedVariables false

theorem qcount_zero {c : UInt8} {s : List UInt8} (h : s.count c = 0) : ∀ x ∈ s, x ≠ c := by
  intro x hx e
  subst e
  have := List.count_pos_iff.2 hx
  omega
theorem splitK_one (c : UInt8) : ∀ (k : Nat) (s : List UInt8), s.count c = k → splitK [c] 0 k s = qSplit c s
  | 0, s, h => by rw [qSplit_no (qcount_zero h)]; rfl
  | k + 1, s, h => by
    rw [splitK, index_one, qSplit_cut]
    rcases qcut_index c s with ⟨h1, h2⟩ | ⟨i, h1, h2, h3⟩
    · exfalso
      have : c ∈ s := List.count_pos_iff.1 (by omega)
      have hs := (qCut_spec c s).1
      rw [h2] at hs
      exact hs c this rfl
    · rw [h1, h3, if_neg (by simp)]
      simp only [Int.toNat_natCast, Nat.add_zero, List.length_cons, List.length_nil]
      have hsp := qCut_spec c s
      rw [h3] at hsp
      simp only at hsp
      have hz : (s.take i).count c = 0 := List.count_eq_zero.2 (fun hm => hsp.1 c hm rfl)
      have hk : (s.drop (i + 1)).count c = k := by
        have := congrArg (List.count c) hsp.2
        rw [List.count_append, hz, List.count_cons_self] at this
        omega
      rw [Nat.zero_add, splitK_one c k _ hk]

/-- A slice of texts that reads as these. -/
def StrL (w : World) (v : Value) (xs : List (List UInt8)) : Prop := ∃ b cap, v = .slice (some ⟨b, 0, none⟩) xs.length cap ∧ xs.length ≤ cap ∧ cap ≤ 9223372036854775807 ∧ (∃ cs fr, w.heap[b]? = some (Obj.cells cs 9 fr)) ∧ ∀ i x, xs[i]? = some x → w.cell? ⟨b, i, none⟩ = some (qv x)
theorem StrL.below {B : Nat} {w w' : World} {v : Value} {l : List (List UInt8)} (h : StrL w v l) (hb : Below B w w') (hB : w.heap.size ≤ B) : StrL w' v l := by
  obtain ⟨b, cap, rfl, h1, h2, ⟨cs, fr, h3⟩, h4⟩ := h
  have hlt := lt_of_block h3
  exact ⟨b, cap, rfl, h1, h2, ⟨cs, fr, (hb.block b (by omega)).trans h3⟩, fun i x hx => (hb.cell (p := ⟨b, i, none⟩) (by show b < B; omega)).trans (h4 i x hx)⟩
theorem StrL.qf {q : Nat} {w w' : World} {v : Value} {l : List (List UInt8)} (h : StrL w v l) (hb : QF q w w') {R : Rd} (hq : RdAt w q R) : StrL w' v l := by
  obtain ⟨b, cap, rfl, h1, h2, ⟨cs, fr, h3⟩, h4⟩ := h
  have hne : b ≠ q := fun e => by subst e; rw [hq.1] at h3; simp at h3
  have he := hb.block b (lt_of_block h3) hne
  exact ⟨b, cap, rfl, h1, h2, ⟨cs, fr, he.trans h3⟩, fun i x hx => (World.cell?_of_block (w := w) he).trans (h4 i x hx)⟩

theorem qidx_any (s : ByteArray) (c : UInt8) (w : World) : Calls Tryz.prog 50 #[.string s, .string ⟨#[c]⟩] w fun e w' => e = .returned (.int .i64 (Lib.indexB s ⟨#[c]⟩)) ∧ w' = w := by
  have hI := hide (Tryz.stringslite_Index_one s c w)
  have hX : Lib.indexB s ⟨#[c]⟩ = Lib.indexByte s.data.toList c := index_one _ _
  rw [hX]
  clear hX
  go_enter Tryz.func50, Tryz.ntmps50
  go_wp2_with (go_at_call 55; refine (unhide hI).mono ?_; rintro e w1 ⟨rfl, rfl⟩)
  go_ret
  exact ⟨rfl, rfl⟩

theorem qSplit_len (c : UInt8) (s : List UInt8) : (qSplit c s).length = s.count c + 1 := by
  rw [← splitK_one c _ s rfl]
  have := splitB_all ⟨#[c]⟩ (Nat.le_refl 1) 0 (countB ⟨s.toArray⟩ ⟨#[c]⟩) ⟨s.toArray⟩ rfl
  have e := splitB_data ⟨#[c]⟩ 0 (countB ⟨s.toArray⟩ ⟨#[c]⟩) ⟨s.toArray⟩
  have e2 := congrArg List.length e
  rw [List.length_map, this] at e2
  rw [show countB ⟨s.toArray⟩ ⟨#[c]⟩ = s.count c from count_one c s] at e2
  exact e2.symm

theorem qgenSplit_any (s : List UInt8) (c : UInt8) (w : World) (hs : s.length < 4294967281) : Calls Tryz.prog 29 #[qv s, .string ⟨#[c]⟩, .int .i64 0, .int .i64 (-1)] w fun e w' => (∃ v, e = .returned v ∧ StrL w' v (qSplit c s)) ∧ Below w.heap.size w w' := by
  have hcn : countB ⟨s.toArray⟩ ⟨#[c]⟩ = s.count c := count_one c s
  have hle : s.count c ≤ s.length := List.count_le_length
  have h := Any.strings_genSplit_core Tryz.splitL (by kernel_rfl) ⟨s.toArray⟩ ⟨#[c]⟩ 0 (-1) (s.count c + 1) w hs (Nat.le_refl 1) (Nat.zero_le _) (fun x cs _ => qidx_any x c _) (by rw [hcn]; have := Tryz.strings_Count_one ⟨s.toArray⟩ c w; exact this) (by decide) (by decide) (by
    rw [if_pos (by decide), hcn]
    show ((s.count c + 1 : Nat) : Int) = min ((s.count c : Int) + 1) ((s.length : Int) + 1)
    omega)
  refine (show Calls Tryz.prog 29 _ w _ from h).mono ?_
  rintro e w' ⟨rfl, rfl⟩
  rw [Nat.add_sub_cancel]
  have hlen := splitB_all ⟨#[c]⟩ (Nat.le_refl 1) 0 (s.count c) ⟨s.toArray⟩ hcn
  rw [hlen, ← hlen, cellsOf_full, hlen]
  have hmap : (splitB ⟨#[c]⟩ 0 (s.count c) ⟨s.toArray⟩).map (·.data.toList) = qSplit c s := by
    rw [splitB_data]; exact splitK_one c _ s rfl
  refine ⟨⟨_, rfl, w.heap.size, s.count c + 1, by rw [qSplit_len], by rw [qSplit_len]; exact Nat.le_refl _, by omega, ⟨_, _, heap_alloc_new _ _⟩, fun i x hx => ?_⟩, (Below.refl _ _).alloc (Nat.le_refl _) _⟩
  rw [← hmap, List.getElem?_map] at hx
  obtain ⟨y, hy, rfl⟩ := Option.map_eq_some_iff.1 hx
  rw [cell_of_row _ _ _ _ _ _ (heap_alloc_new _ _)]
  simp [hy]

theorem qSplit_any (s : List UInt8) (c : UInt8) (w : World) (hs : s.length < 4294967281) : Calls Tryz.prog 12 #[qv s, .string ⟨#[c]⟩] w fun e w' => (∃ v, e = .returned v ∧ StrL w' v (qSplit c s)) ∧ Below w.heap.size w w' := by
  have HG := hide (qgenSplit_any s c w hs)
  clear hs
  go_enter Tryz.func12, Tryz.ntmps12
  go_wp2_with (go_at_call 29; refine (unhide HG).mono ?_; rintro e w1 ⟨⟨v, rfl, h1⟩, b1⟩; obtain ⟨b, cap, rfl, h2⟩ := h1; have HS : Hid (StrL w1 (.slice (some ⟨b, 0, none⟩) (qSplit c s).length cap) (qSplit c s)) := hide ⟨b, cap, rfl, h2⟩; have HB := hide b1; clear h2 b1)
  go_ret
  exact ⟨⟨_, rfl, unhide HS⟩, unhide HB⟩
end Go.Proofs.YtankbanonbmffabGreatDoor
