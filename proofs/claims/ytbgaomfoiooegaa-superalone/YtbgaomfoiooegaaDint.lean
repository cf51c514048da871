/-
  DERIVED. The walk of Int; PutFrame with its slice written out.
-/
import Derived.Test.YtbgaomfoiooegaaPutFrame
namespace Go.Proofs.Ytbgaomfoiooegaa
open Go.RowKit

set_option maxHeartbeats 1000000 in
theorem Int_any (v : Value) (l : List UInt8) (w : World) (hv : Sl w v l) :
    Calls Try.prog 43 #[v] w fun e w' => e = .returned (.tuple #[.int .i64 (rdI l), .int .i64 (rd l).2.1, .int .i64 (rd l).2.2]) ∧ w = w' := by
  obtain ⟨f1, f2, f3, f4⟩ := rd_facts l
  unfold rdI
  obtain ⟨n, k, e, hr⟩ : ∃ n k e, rd l = (n, k, e) := ⟨_, _, _, rfl⟩
  rw [hr] at f1 f2 f3 f4 ⊢
  simp only at f1 f2 f3 f4 ⊢
  have HR := hide hr
  clear hr f4
  by_cases he : e = 0
  · subst he
    rw [if_pos rfl]
    clear f2 f3
    have hnot := not_i64 ((n / 2 : Nat) : Int) (by omega) (by omega)
    have hnot' : bits .xor .i64 (-1) ((n : Int) / 2) = -((n : Int) / 2) - 1 := by rw [show (n : Int) / 2 = ((n / 2 : Nat) : Int) from by omega]; exact hnot
    clear hnot
    by_cases ho : n % 2 = 1
    · have hb : ((n : Int) % 2 == 1) = true := beq_iff_eq.2 (by omega)
      have HU : Hid (unz n = -((n : Int) / 2) - 1) := hide (by unfold unz; rw [if_pos ho]; omega)
      go_enter Try.func43, Try.ntmps43
      go_wp2_with (go_at_call 53; refine (Uint_at v l n k 0 _ hv (unhide HR)).mono ?_; rintro e w' ⟨rfl, rfl⟩)
      go_ret3
      rw [unhide HU]
      exact ⟨rfl, rfl⟩
    · have hb : ((n : Int) % 2 == 1) = false := beq_eq_false_iff_ne.2 (by omega)
      have HU : Hid (unz n = (n : Int) / 2) := hide (by unfold unz; rw [if_neg ho]; omega)
      go_enter Try.func43, Try.ntmps43
      go_wp2_with (go_at_call 53; refine (Uint_at v l n k 0 _ hv (unhide HR)).mono ?_; rintro e w' ⟨rfl, rfl⟩)
      go_ret3
      rw [unhide HU]
      exact ⟨rfl, rfl⟩
  · rw [if_neg he]
    obtain ⟨rfl, rfl⟩ := f3 he
    have hne : ((e : Int) != 0) = true := by rw [bne_iff_ne]; omega
    clear f1 f2 f3
    go_enter Try.func43, Try.ntmps43
    go_wp2_with (go_at_call 53; refine (Uint_at v l 0 0 e _ hv (unhide HR)).mono ?_; rintro e w' ⟨rfl, rfl⟩)
    go_ret3
    exact ⟨rfl, rfl⟩

theorem PutFrame_sl (v : Value) (l : List UInt8) (kind : UInt8) (a : Option Addr) (n c : Nat) (d : List UInt8) (w : World) (hv : Sl w v l) (hd : Sl w (.slice a n c) d) (hl : d.length ≤ 2000) (hll : l.length + 2100 ≤ 140737488355328) :
    Calls Try.prog 47 #[v, .agg #[bv kind, .slice a n c]] w fun e w' => ∃ a' c', e = .returned (.tuple #[.slice a' (l ++ frLay kind d).length c', .int .i64 0]) ∧ Own w' w.heap.size (.slice a' (l ++ frLay kind d).length c') (l ++ frLay kind d) ∧ Below w.heap.size w w' := by
  refine (PutFrame_ok v l kind a n c d w hv hd hl hll).mono ?_
  rintro e w' ⟨v', rfl, h1, h2⟩
  have h1' := h1
  rcases h1.2 with ⟨rfl, hz⟩ | ⟨g, cap, cur, rfl, _⟩
  · rw [← hz] at h1' ⊢; exact ⟨none, 0, by rw [hz], by rw [hz] at h1' ⊢; exact h1', h2⟩
  · exact ⟨_, _, rfl, h1', h2⟩

end Go.Proofs.Ytbgaomfoiooegaa
