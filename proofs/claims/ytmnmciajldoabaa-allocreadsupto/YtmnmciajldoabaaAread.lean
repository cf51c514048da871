/-
  DERIVED. Read.
-/
import Derived.Test.YtmnmciajldoabaaAfill
namespace Go.Proofs.Ytmnmciajldoabaa
open Go.RowKit
set_option linter.unusedVariables false

/-- The blocks in use that the bytes tell. -/
def rdU (l : List UInt8) : Nat → Bool := fillU (l.drop (rd l).2.1) (min (rd l).1 (8 * (l.drop (rd l).2.1).length))
/-- The bytes are a map's. -/
def okR (l : List UInt8) : Prop := (rd l).2.2 = 0 ∧ (rd l).1 ≤ 512 ∧ tell (rd l).1 (rdU l) = l
def AReadPost (w : World) (l : List UInt8) (e : Ending) (w' : World) : Prop :=
  w.grownBy w' none ∧ ((¬ okR l ∧ e = .returned (.tuple #[.pointer none, .int .i64 52])) ∨ (okR l ∧ ∃ b, e = .returned (.tuple #[.pointer (some ⟨b, 0, none⟩), .int .i64 0]) ∧ MapAt w' b (rd l).1 (rdU l) (rdU l)))
theorem Sl.from {w : World} (b off cap : Nat) (l : List UInt8) (hb : b < w.heap.size) (h1 : l.length ≤ cap) (h2 : cap ≤ 9223372036854775807) (hc : ∀ i, (h : i < l.length) → w.cell? ⟨b, off + i, none⟩ = some (bv l[i])) (k : Nat) (hk : k ≤ l.length) :
    Sl w (.slice (some ⟨b, off + k, none⟩) (l.length - k) (cap - k)) (l.drop k) := by
  refine ⟨_, _, by rw [List.length_drop], by rw [List.length_drop]; omega, by unfold maxLen; omega, fun _ => ⟨b, off + k, rfl, hb, fun i hi => ?_⟩⟩
  rw [List.length_drop] at hi
  rw [Nat.add_assoc, hc (k + i) (by omega), List.getElem_drop]

set_option maxHeartbeats 4000000 in
set_option maxRecDepth 20000 in
theorem Read_any (w : World) (v : Value) (l : List UInt8) (hv : Sl w v l) (hl : l.length ≤ 2000000) : Calls Try.prog 20 #[v] w (AReadPost w l) := by
  have hrf := rd_facts l
  have HV := hide hv
  by_cases hok : (rd l).2.2 = 0 ∧ (rd l).1 ≤ 512
  · obtain ⟨hE, hN⟩ := hok
    have hk := hrf.2.2.2 hE
    rcases hv.cases with ⟨hl0, _⟩ | ⟨vb, off, cap, hve, h1, h2, hb, hc⟩
    · rw [hl0] at hk; simp at hk; omega
    have HD := hide (Sl.from (w := w) vb off cap l hb h1 h2 hc (rd l).2.1 hk.2.1)
    have hnl : (l.drop (rd l).2.1).length ≤ 2000000 := by rw [List.length_drop]; omega
    have HNL := hide hnl
    have hU : ∃ U, U = rdU l := ⟨_, rfl⟩
    obtain ⟨U, hU⟩ := hU
    have HU := hide hU
    have HF : Hid (fillU (l.drop (rd l).2.1) (min (rd l).1 (8 * (l.drop (rd l).2.1).length)) = U) := hide hU.symm
    have HOk : Hid (okR l ↔ tell (rd l).1 U = l) := hide ⟨fun h => by rw [hU]; exact h.2.2, fun h => ⟨hE, hN, by rw [← hU]; exact h⟩⟩
    have HPost : Hid (∀ e w', (w.grownBy w' none ∧ ((¬ tell (rd l).1 U = l ∧ e = .returned (.tuple #[.pointer none, .int .i64 52])) ∨ (tell (rd l).1 U = l ∧ ∃ b, e = .returned (.tuple #[.pointer (some ⟨b, 0, none⟩), .int .i64 0]) ∧ MapAt w' b (rd l).1 U U))) → AReadPost w l e w') := hide (fun e w' h => by
      obtain ⟨h1, h2⟩ := h
      refine ⟨h1, ?_⟩
      rcases h2 with ⟨h2, h3⟩ | ⟨h2, b, h3, h4⟩
      · exact .inl ⟨fun h => h2 ((unhide HOk).1 h), h3⟩
      · exact .inr ⟨(unhide HOk).2 h2, b, h3, by rw [← hU]; exact h4⟩)
    refine Calls.mono ?_ (fun e w' h => unhide HPost e w' h)
    have RU := hide (Uint_any v l w hv)
    rw [hE] at RU
    obtain ⟨B, hB⟩ : ∃ B, B = (rd l).1 := ⟨_, rfl⟩
    obtain ⟨k, hkk⟩ : ∃ k, k = (rd l).2.1 := ⟨_, rfl⟩
    rw [← hB, ← hkk] at RU
    rw [← hB]
    rw [← hB] at hN HF
    rw [← hkk] at HD HNL HF hk
    obtain ⟨n, hn⟩ : ∃ n, n = l.length := ⟨_, rfl⟩
    rw [← hn] at HD hk hve h1
    have hk1 := hk.1
    have hk2 := hk.2.1
    have hnI : (n : Int) ≤ 2000000 := by omega
    have hcI : (cap : Int) ≤ 9223372036854775807 := by omega
    have hBI : (B : Int) ≤ 512 := by omega
    have hkn : (k : Int) ≤ (n : Int) := by omega
    have hnc : (n : Int) ≤ (cap : Int) := by omega
    subst hve
    have HNn : Hid (n = l.length) := hide hn
    clear hc hb HOk HPost hU HU hB hkk hn hrf hE hk hnl
    have HDn : Hid (cap = k → Sl w (.slice (some ⟨vb, off, none⟩) 0 0) (l.drop k)) := hide (fun e => by
      have e0 : l.drop k = [] := List.drop_eq_nil_of_le (by have := unhide HNn; omega)
      rw [e0]
      exact ⟨_, _, rfl, by simp, by simp, fun h => absurd rfl h⟩)
    by_cases hck : cap = k
    · have HDk := hide (unhide HDn hck)
      have hnk : n = k := by omega
      subst hnk
      subst hck
      clear HDn HD h1 hk2 hkn hnc hcI HNn
      by_cases heq0 : tell B U = l
      all_goals
        have HQ := hide heq0
        clear heq0
        go_enter Try.func20, Try.ntmps20
        go_wp2_with fail
        refine (unhide RU).mono ?_
        rintro e w1 ⟨rfl, rfl⟩
        go_wp2_with fail
        refine (New_any B _ hN).mono ?_
        rintro e w2 ⟨rfl, m2, g2⟩
        have M2 := hide m2
        have G2 := hide g2
        obtain ⟨b, hb⟩ : ∃ b, b = w.heap.size := ⟨_, rfl⟩
        rw [← hb] at M2 ⊢
        have HB : Hid (w.heap.size ≤ b) := hide (by omega)
        clear m2 g2 hb
        go_wp2_with fail
        refine (fill_any w w2 b B none? _ _ (unhide M2) (unhide HDk) (unhide G2) (unhide HB) (unhide HNL)).mono ?_
        rintro e w3 ⟨⟨x, rfl⟩, m3, g3⟩
        rw [unhide HF] at m3
        have M3 := hide m3
        have G3 : Hid (w.grownBy w3 none) := hide (own_stepW (unhide G2) (unhide HB) g3)
        clear m3 g3 M2 G2
        go_wp2_with fail
        refine (Commit_any w3 b B U none? (unhide M3)).mono ?_
        rintro e w4 ⟨⟨y, rfl⟩, m4, g4⟩
        have M4 := hide m4
        have G4 : Hid (w.grownBy w4 none) := hide (own_stepW (unhide G3) (unhide HB) g4)
        clear m4 g4 M3 G3
        go_wp2_with fail
        refine (Bytes_any w4 b B U U (unhide M4)).mono ?_
        rintro e w5 ⟨vt, rfl, o5, g5⟩
        have O5 := hide (Own.sl o5)
        have M5 := hide ((unhide M4).grown g5 (by simp))
        have G5 : Hid (w.grownBy w5 none) := hide ((unhide G4).trans g5)
        clear o5 g5 M4 G4
        go_wp2_with fail
        refine (Equal_any w5 _ _ _ l (unhide O5) ((unhide HV).grownN (unhide G5))).mono ?_
        rintro e w6 ⟨rfl, rfl⟩
        first
          | rw [decide_eq_true (unhide HQ)]
          | rw [decide_eq_false (unhide HQ)]
        go_wp2
        go_ret2
        first
          | exact ⟨unhide G5, .inr ⟨unhide HQ, b, rfl, unhide M5⟩⟩
          | exact ⟨unhide G5, .inl ⟨unhide HQ, rfl⟩⟩
    · clear HDn HNn
      by_cases heq0 : tell B U = l
      all_goals
        have HQ := hide heq0
        clear heq0
        go_enter Try.func20, Try.ntmps20
        go_wp2_with fail
        refine (unhide RU).mono ?_
        rintro e w1 ⟨rfl, rfl⟩
        go_wp2_with fail
        refine (New_any B _ hN).mono ?_
        rintro e w2 ⟨rfl, m2, g2⟩
        have M2 := hide m2
        have G2 := hide g2
        obtain ⟨b, hb⟩ : ∃ b, b = w.heap.size := ⟨_, rfl⟩
        rw [← hb] at M2 ⊢
        have HB : Hid (w.heap.size ≤ b) := hide (by omega)
        clear m2 g2 hb
        go_wp2_with fail
        refine (fill_any w w2 b B none? _ _ (unhide M2) (unhide HD) (unhide G2) (unhide HB) (unhide HNL)).mono ?_
        rintro e w3 ⟨⟨x, rfl⟩, m3, g3⟩
        rw [unhide HF] at m3
        have M3 := hide m3
        have G3 : Hid (w.grownBy w3 none) := hide (own_stepW (unhide G2) (unhide HB) g3)
        clear m3 g3 M2 G2
        go_wp2_with fail
        refine (Commit_any w3 b B U none? (unhide M3)).mono ?_
        rintro e w4 ⟨⟨y, rfl⟩, m4, g4⟩
        have M4 := hide m4
        have G4 : Hid (w.grownBy w4 none) := hide (own_stepW (unhide G3) (unhide HB) g4)
        clear m4 g4 M3 G3
        go_wp2_with fail
        refine (Bytes_any w4 b B U U (unhide M4)).mono ?_
        rintro e w5 ⟨vt, rfl, o5, g5⟩
        have O5 := hide (Own.sl o5)
        have M5 := hide ((unhide M4).grown g5 (by simp))
        have G5 : Hid (w.grownBy w5 none) := hide ((unhide G4).trans g5)
        clear o5 g5 M4 G4
        go_wp2_with fail
        refine (Equal_any w5 _ _ _ l (unhide O5) ((unhide HV).grownN (unhide G5))).mono ?_
        rintro e w6 ⟨rfl, rfl⟩
        first
          | rw [decide_eq_true (unhide HQ)]
          | rw [decide_eq_false (unhide HQ)]
        go_wp2
        go_ret2
        first
          | exact ⟨unhide G5, .inr ⟨unhide HQ, b, rfl, unhide M5⟩⟩
          | exact ⟨unhide G5, .inl ⟨unhide HQ, rfl⟩⟩
  · have HNo : Hid (¬ okR l) := hide (fun h => hok ⟨h.1, h.2.1⟩)
    have RU := hide (Uint_any v l w hv)
    have hb1 := hrf.1
    obtain ⟨B, hB⟩ : ∃ B, B = (rd l).1 := ⟨_, rfl⟩
    obtain ⟨k, hkk⟩ : ∃ k, k = (rd l).2.1 := ⟨_, rfl⟩
    obtain ⟨E, hE⟩ : ∃ E, E = (rd l).2.2 := ⟨_, rfl⟩
    rw [← hB, ← hkk, ← hE] at RU
    rw [← hB, ← hE] at hok
    rw [← hB] at hb1
    clear hv hrf hB hkk hE
    by_cases hE : E = 0
    · subst hE
      have hBn : ¬ B ≤ 512 := fun h => hok ⟨rfl, h⟩
      have hBI : (512 : Int) < (B : Int) := by omega
      clear hok hBn
      go_enter Try.func20, Try.ntmps20
      go_wp2_with fail
      refine (unhide RU).mono ?_
      rintro e w1 ⟨rfl, rfl⟩
      go_wp2
      go_ret2
      exact ⟨World.grownBy.refl _ _, .inl ⟨unhide HNo, rfl⟩⟩
    · have hEI : ((E : Int) == 0) = false := beq_eq_false_iff_ne.2 (by omega)
      have hEn : ¬ (E : Int) = 0 := by omega
      clear hok hE
      go_enter Try.func20, Try.ntmps20
      go_wp2_with fail
      refine (unhide RU).mono ?_
      rintro e w1 ⟨rfl, rfl⟩
      go_wp2
      go_ret2
      exact ⟨World.grownBy.refl _ _, .inl ⟨unhide HNo, rfl⟩⟩

end Go.Proofs.Ytmnmciajldoabaa
