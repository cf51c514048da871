/-
  DERIVED. The walks of Int and awake: the chapter's examples are so.
-/
import Derived.Test.YtkikfdbjfhgfoaaPutFrame
import Derived.Lib.SlBytesConst
namespace Go.Proofs.Ytkikfdbjfhgfoaa
open Go.RowKit

set_option maxHeartbeats 1000000 in
theorem Int_any (v : Value) (l : List UInt8) (w : World) (hv : Sl w v l) :
    Calls Try.prog 17 #[v] w fun e w' => e = .returned (.tuple #[.int .i64 (rdI l), .int .i64 (rd l).2.1, .int .i64 (rd l).2.2]) ∧ w = w' := by
  obtain ⟨f1, f2, f3, f4⟩ := rd_facts l
  unfold rdI
  obtain ⟨n, k, e, hr⟩ : ∃ n k e, rd l = (n, k, e) := ⟨_, _, _, rfl⟩
  rw [hr] at f1 f2 f3 f4 ⊢
  simp only at f1 f2 f3 f4 ⊢
  have HR := hide hr
  clear hr f4
  by_cases he : e = 0
  · subst he
    rw [if_pos rfl]
    clear f2 f3
    have hnot := not_i64 ((n / 2 : Nat) : Int) (by omega) (by omega)
    have hnot' : bits .xor .i64 (-1) ((n : Int) / 2) = -((n : Int) / 2) - 1 := by rw [show (n : Int) / 2 = ((n / 2 : Nat) : Int) from by omega]; exact hnot
    clear hnot
    by_cases ho : n % 2 = 1
    · have hb : ((n : Int) % 2 == 1) = true := beq_iff_eq.2 (by omega)
      have HU : Hid (unz n = -((n : Int) / 2) - 1) := hide (by unfold unz; rw [if_pos ho]; omega)
      go_enter Try.func17, Try.ntmps17
      go_wp2_with (go_at_call 14; refine (Uint_at v l n k 0 _ hv (unhide HR)).mono ?_; rintro e w' ⟨rfl, rfl⟩)
      go_ret3
      rw [unhide HU]
      exact ⟨rfl, rfl⟩
    · have hb : ((n : Int) % 2 == 1) = false := beq_eq_false_iff_ne.2 (by omega)
      have HU : Hid (unz n = (n : Int) / 2) := hide (by unfold unz; rw [if_neg ho]; omega)
      go_enter Try.func17, Try.ntmps17
      go_wp2_with (go_at_call 14; refine (Uint_at v l n k 0 _ hv (unhide HR)).mono ?_; rintro e w' ⟨rfl, rfl⟩)
      go_ret3
      rw [unhide HU]
      exact ⟨rfl, rfl⟩
  · rw [if_neg he]
    obtain ⟨rfl, rfl⟩ := f3 he
    have hne : ((e : Int) != 0) = true := by rw [bne_iff_ne]; omega
    clear f1 f2 f3
    go_enter Try.func17, Try.ntmps17
    go_wp2_with (go_at_call 14; refine (Uint_at v l 0 0 e _ hv (unhide HR)).mono ?_; rintro e w' ⟨rfl, rfl⟩)
    go_ret3
    exact ⟨rfl, rfl⟩

/-- string(b). -/
theorem Sl.str {w : World} {v : Value} {l : List UInt8} (h : Sl w v l) : (convert 22 9 v).run Try.prog w = .ok (.string ⟨l.toArray⟩) w := by
  rcases h.cases with ⟨rfl, ao, rfl⟩ | ⟨b, off, cap, rfl, h1, h2, h3, hc⟩
  · cases ao with
    | none => exact run_convert_bytes_nil w 22 5 Try.underlying22 Try.underlying5 0 0 9 Try.underlying9
    | some a => exact run_convert_bytes_back w 22 9 5 a 0 [] Try.underlying22 Try.underlying5 Try.underlying9 (fun j hj => by simp at hj)
  · exact run_convert_bytes_back w 22 9 5 ⟨b, off, none⟩ cap l Try.underlying22 Try.underlying5 Try.underlying9 (fun j hj => by rw [addr_add]; exact hc j hj)

theorem PutFrame_sl (v : Value) (l : List UInt8) (kind : UInt8) (a : Option Addr) (n c : Nat) (d : List UInt8) (w : World) (hv : Sl w v l) (hd : Sl w (.slice a n c) d) (hl : d.length ≤ 2000) (hll : l.length + 2100 ≤ 140737488355328) :
    Calls Try.prog 15 #[v, .agg #[bv kind, .slice a n c]] w fun e w' => ∃ a' c', e = .returned (.tuple #[.slice a' (l ++ frLay kind d).length c', .int .i64 0]) ∧ Own w' w.heap.size (.slice a' (l ++ frLay kind d).length c') (l ++ frLay kind d) ∧ Below w.heap.size w w' := by
  refine (PutFrame_ok v l kind a n c d w hv hd hl hll).mono ?_
  rintro e w' ⟨v', rfl, h1, h2⟩
  have h1' := h1
  rcases h1.2 with ⟨rfl, hz⟩ | ⟨g, cap, cur, rfl, _⟩
  · rw [← hz] at h1' ⊢; exact ⟨none, 0, by rw [hz], by rw [hz] at h1' ⊢; exact h1', h2⟩
  · exact ⟨_, _, rfl, h1', h2⟩

theorem fr_hi : frKind (frLay 1 [104, 105]) = 1 ∧ frK (frLay 1 [104, 105]) = 8 ∧ frE (frLay 1 [104, 105]) = 0 ∧ frD (frLay 1 [104, 105]) = [104, 105] := by decide +kernel

set_option maxHeartbeats 2000000 in
theorem awake_any (w : World) :
    Calls Try.prog 5 #[] w fun e w' => e = .returned (.bool true) ∧ Below w.heap.size w w' := by
  have kc := fun (w : World) (C : Array Value) (n c : Nat) => Lib.run_convert_bytes_const (P := Try.prog) w 22 5 C n c Try.underlying22 Try.underlying5
  go_enter Try.func5, Try.ntmps5
  go_wp2_with fail
  refine (Uint_at _ [172, 2, 9] 300 2 0 _ (Sl.new w [172, 2, 9] (by simp [maxLen]) (0, 0)) (by decide)).mono ?_
  rintro e w1 ⟨rfl, hw1⟩
  have b1 : Below w.heap.size w w1 := by rw [← hw1]; exact (Below.refl _ _).alloc (Nat.le_refl _) _
  have s1 := b1.size
  have HB1 := hide b1
  clear hw1 b1
  go_wp2_with fail
  refine (PutFrame_sl _ [] 1 _ _ _ [104, 105] _ (nil_sl _) (Sl.new w1 [104, 105] (by simp [maxLen]) (2, 3)) (by simp) (by simp)).mono ?_
  rintro e w2 ⟨a2, c2, rfl, own2, b2⟩
  have e8 : ([] ++ frLay 1 [104, 105]).length = 8 := by decide +kernel
  rw [e8] at own2 ⊢
  simp only [List.nil_append] at own2
  have s2 := b2.size
  simp at s2
  have HB2 := hide ((unhide HB1).trans (((Below.refl w.heap.size w1).alloc s1 _).trans (b2.mono (by simp; omega))))
  have HO2 := hide own2
  clear own2 b2 e8
  go_wp2_with fail
  refine (Frame_any _ (frLay 1 [104, 105]) _ (unhide HO2).sl).mono ?_
  rintro e w3 ⟨a3, n3, c3, rfl, own3, b3⟩
  rw [fr_hi.1, fr_hi.2.1, fr_hi.2.2.1]
  rw [fr_hi.2.2.2] at own3
  have s3 := b3.size
  have HB3 := hide ((unhide HB2).trans (b3.mono (by omega)))
  have HO3 := hide own3
  clear own3 b3
  go_wp2_with fail
  obtain ⟨w4, hw4⟩ : ∃ w4, w4 = w3.alloc (.cells #[.int .u8 1, .slice a3 n3 c3] 44) := ⟨_, rfl⟩
  rw [← hw4]
  have b4 : Below w3.heap.size w3 w4 := by rw [hw4]; exact (Below.refl _ _).alloc (Nat.le_refl _) _
  have s4 : w4.heap.size = w3.heap.size + 1 := by rw [hw4]; simp
  have c40 : w4.cell? ⟨w3.heap.size, 0, none⟩ = some (.int .u8 1) := by rw [hw4]; simp
  have c41 : w4.cell? ⟨w3.heap.size, 1, none⟩ = some (.slice a3 n3 c3) := by rw [hw4]; simp
  have HB4 := hide ((unhide HB3).trans (b4.mono (by omega)))
  have HO4 := hide ((unhide HO3).below b4 (Nat.le_refl _))
  clear hw4 b4
  refine (PutInt_any _ [] (-2) _ (nil_sl _) (by decide) (by decide) (by simp)).mono ?_
  rintro e w5 ⟨v5, rfl, own5, b5⟩
  have e5 : ([] : List UInt8) ++ lay (zig (-2)) = [3] := by decide +kernel
  rw [e5] at own5
  have s5 := b5.size
  have c50 : w5.cell? ⟨w3.heap.size, 0, none⟩ = some (.int .u8 1) := (b5.cell (p := ⟨w3.heap.size, 0, none⟩) (by show w3.heap.size < w4.heap.size; omega)).trans c40
  have c51 : w5.cell? ⟨w3.heap.size, 1, none⟩ = some (.slice a3 n3 c3) := (b5.cell (p := ⟨w3.heap.size, 1, none⟩) (by show w3.heap.size < w4.heap.size; omega)).trans c41
  have HB5 := hide ((unhide HB4).trans (b5.mono (by omega)))
  have HO5 := hide ((unhide HO4).below b5 (Nat.le_refl _))
  have HP5 := hide own5
  clear own5 b5 e5 c40 c41
  go_wp2_with fail
  refine (Int_any v5 [3] _ (unhide HP5).sl).mono ?_
  rintro e w6 ⟨rfl, rfl⟩
  rw [show rdI [3] = -2 from by decide, show (rd [3]).2.1 = 1 from by decide, show (rd [3]).2.2 = 0 from by decide]
  have hstr := (unhide HO5).sl.str
  have eqs : ((⟨#[104, 105]⟩ : ByteArray) == ⟨#[104, 105]⟩) = true := by decide
  go_wp2_with fail
  refine (Sum_any _ [49, 50, 51, 52, 53, 54, 55, 56, 57] _ (Sl.new w5 [49, 50, 51, 52, 53, 54, 55, 56, 57] (by simp [maxLen]) (9, 10))).mono ?_
  rintro e w7 ⟨rfl, b7⟩
  rw [crc_123]
  have HB7 := hide ((unhide HB5).trans (((Below.refl w.heap.size w5).alloc (by omega) _).trans (b7.mono (by simp; omega))))
  clear b7 hstr eqs
  go_wp2
  go_ret
  exact ⟨rfl, unhide HB7⟩
end Go.Proofs.Ytkikfdbjfhgfoaa
