/-
  DERIVED. The plain mathematics of frames one behind the other.
-/
import Derived.Test.YtoclnnkeabbicaaMath3
namespace Go.Proofs.Ytoclnnkeabbicaa

theorem fr_pos {l : List UInt8} (h : frE l = 0) : 6 ≤ frK l ∧ frK l ≤ l.length := by
  obtain ⟨h1, h2, h3⟩ := fr_canon h
  have := congrArg List.length h1
  rw [List.length_take] at this
  have hl := lay_len (frD l).length
  simp [frLay, le4, frBody] at this
  omega

def scanF : Nat → List UInt8 → List (UInt8 × List UInt8) × Nat
  | 0, _ => ([], 0)
  | f + 1, l => if frE l = 0 then ((frKind l, frD l) :: (scanF f (l.drop (frK l))).1, frK l + (scanF f (l.drop (frK l))).2) else ([], 0)
/-- What a scan reads: the frames, and how many bytes they have: P1.5. -/
def scanL (l : List UInt8) : List (UInt8 × List UInt8) × Nat := scanF (l.length + 1) l

theorem scanF_enough : ∀ (f g : Nat) (l : List UInt8), l.length < f → l.length < g → scanF f l = scanF g l
  | 0, _, l, h, _ => by omega
  | _, 0, l, _, h => by omega
  | f + 1, g + 1, l, hf, hg => by
    simp only [scanF]
    by_cases h : frE l = 0
    · have := fr_pos h
      rw [if_pos h, if_pos h, scanF_enough f g (l.drop (frK l)) (by simp; omega) (by simp; omega)]
    · rw [if_neg h, if_neg h]
theorem scan_good {l : List UInt8} (h : frE l = 0) : scanL l = ((frKind l, frD l) :: (scanL (l.drop (frK l))).1, frK l + (scanL (l.drop (frK l))).2) := by
  have := fr_pos h
  unfold scanL
  rw [scanF, if_pos h, scanF_enough l.length ((l.drop (frK l)).length + 1) (l.drop (frK l)) (by simp; omega) (by omega)]
theorem scan_bad {l : List UInt8} (h : frE l ≠ 0) : scanL l = ([], 0) := by
  unfold scanL
  rw [scanF, if_neg h]

/-- Frames laid one behind the other. -/
def laysF : List (UInt8 × List UInt8) → List UInt8
  | [] => []
  | f :: fs => frLay f.1 f.2 ++ laysF fs
theorem laysF_snoc (fs : List (UInt8 × List UInt8)) (f : UInt8 × List UInt8) : laysF (fs ++ [f]) = laysF fs ++ frLay f.1 f.2 := by
  induction fs with
  | nil => simp [laysF]
  | cons g fs ih => simp [laysF, ih]

theorem frE_short {l : List UInt8} (h : l.length < 5) : frE l ≠ 0 := by
  unfold frE
  rw [if_pos h]
  decide

/-- What is laid is all read, whatever is read behind it. -/
theorem scan_lays : ∀ (fs : List (UInt8 × List UInt8)) (r : List UInt8), (∀ f ∈ fs, f.2.length ≤ 2000) → scanL (laysF fs ++ r) = (fs ++ (scanL r).1, (laysF fs).length + (scanL r).2)
  | [], r, _ => by simp [laysF]
  | f :: fs, r, h => by
    have hf := h f (by simp)
    obtain ⟨e1, e2, e3, e4⟩ := fr_back f.1 f.2 (laysF fs ++ r) hf
    have ea : laysF (f :: fs) ++ r = frLay f.1 f.2 ++ (laysF fs ++ r) := by simp [laysF]
    rw [ea, scan_good e1, e2, e3, e4, List.drop_left, scan_lays fs r (fun g hg => h g (by simp [hg]))]
    simp [laysF]
    omega

/-- A frame that is cut is none. -/
theorem fr_cut (k : UInt8) (d : List UInt8) (hd : d.length ≤ 2000) (n : Nat) (hn : n < (frLay k d).length) : frE ((frLay k d).take n) ≠ 0 := by
  intro h
  obtain ⟨h1, h2, h3⟩ := fr_canon h
  obtain ⟨e1, e2, e3, e4⟩ := fr_back (frKind ((frLay k d).take n)) (frD ((frLay k d).take n)) ((frLay k d).drop (frK ((frLay k d).take n))) h3
  have hl : frK ((frLay k d).take n) ≤ n := by rw [List.length_take] at h2; omega
  have hsplit : frLay (frKind ((frLay k d).take n)) (frD ((frLay k d).take n)) ++ (frLay k d).drop (frK ((frLay k d).take n)) = frLay k d := by
    rw [← h1, List.take_take, Nat.min_eq_left hl]
    exact List.take_append_drop _ _
  rw [hsplit] at e2
  have e5 := (fr_back k d [] hd).2.1
  rw [List.append_nil] at e5
  have h1l := congrArg List.length h1
  rw [List.length_take, List.length_take] at h1l
  omega
end Go.Proofs.Ytoclnnkeabbicaa
