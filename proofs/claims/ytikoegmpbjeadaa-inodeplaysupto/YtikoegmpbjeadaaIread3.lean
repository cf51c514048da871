/-
  DERIVED. bytes.Equal, bytes.HasPrefix, Extend that is refused, Read.
-/
import Derived.Test.YtikoegmpbjeadaaIread2
namespace Go.Proofs.Ytikoegmpbjeadaa
open Go.RowKit
set_option linter.unusedVariables false

theorem list_beq (l m : List UInt8) : (l == m) = decide (l = m) := by
  by_cases h : l = m
  · rw [decide_eq_true h]
    exact beq_iff_eq.2 h
  · rw [decide_eq_false h]
    exact beq_eq_false_iff_ne.2 h
theorem Equal_any (w : World) (v u : Value) (l m : List UInt8) (hv : Sl w v l) (hu : Sl w u m) :
    Calls Try.prog 48 #[v, u] w fun e w' => e = .returned (.bool (decide (l = m))) ∧ w' = w := by
  have s1 := hv.str
  have s2 := hu.str
  have HE := hide (list_beq l m)
  clear hv hu
  go_enter Try.func48, Try.ntmps48
  go_wp2
  go_ret
  rw [← unhide HE]
  exact ⟨rfl, rfl⟩
theorem HasPrefix_any (w : World) (v u : Value) (l m : List UInt8) (hv : Sl w v l) (hu : Sl w u m) :
    Calls Try.prog 35 #[v, u] w fun e w' => e = .returned (.bool (decide (l.take m.length = m))) ∧ w' = w := by
  have HV := hide hv
  have HU := hide hu
  obtain ⟨ao, cap, rfl, h1, h2, h4⟩ := hv
  obtain ⟨bo, bap, rfl, k1, k2, k4⟩ := hu
  unfold maxLen at h2 k2
  have hl1 : (l.length : Int) ≤ (cap : Int) := by omega
  have hl2 : (cap : Int) ≤ 9223372036854775807 := by omega
  clear h4 k4
  by_cases hle : m.length ≤ l.length
  · have hle' : (m.length : Int) ≤ (l.length : Int) := by omega
    have HT : Hid (Sl w (.slice ao m.length cap) (l.take m.length)) := hide (by
      obtain ⟨ao', cap', e, a1, a2, a4⟩ := unhide HV
      injection e with e1 e2 e3
      subst e1 e3
      have hl : (l.take m.length).length = m.length := by rw [List.length_take]; omega
      refine ⟨ao, cap, by rw [hl], by rw [hl]; omega, a2, fun hne => ?_⟩
      obtain ⟨b, off, e, hb, hc⟩ := a4 hne
      exact ⟨b, off, e, hb, fun i hi => by rw [List.getElem_take]; exact hc i (by rw [hl] at hi; omega)⟩)
    go_enter Try.func35, Try.ntmps35
    go_wp2_with fail
    refine (Equal_any w _ _ (l.take m.length) m (unhide HT) (unhide HU)).mono ?_
    rintro e w1 ⟨rfl, rfl⟩
    go_wp2
    go_ret
    exact ⟨rfl, rfl⟩
  · have hle' : ¬ (m.length : Int) ≤ (l.length : Int) := by omega
    have HF : Hid (decide (l.take m.length = m) = false) := hide (decide_eq_false (fun e => by
      have := congrArg List.length e
      rw [List.length_take] at this
      omega))
    go_enter Try.func35, Try.ntmps35
    go_wp2
    go_ret
    rw [unhide HF]
    exact ⟨rfl, rfl⟩

theorem Extend_bad (w : World) (b n m : Nat) (v u : Value) (L : List Nat) (l : List (Int × Int)) (h : NdAt w b n v L) (hm : n + m ≤ 32768) (hu : Rn w u l) (hl : l.length ≤ 1125899906842624) (hno : ¬ okL l ((bf (n + m) - bf n : Nat) : Int)) :
    Calls Try.prog 19 #[.pointer (some ⟨b, 0, none⟩), .int .i64 (m : Int), u] w fun e w' => e = .returned (.int .i64 1) ∧ w.grownBy w' none := by
  have HM := hide h
  have HU := hide hu
  have HNo := hide (decide_eq_false hno)
  have hbl := bf_le hm
  clear h hu hno
  go_enter Try.func19, Try.ntmps19
  go_wp2_with fail
  refine (Need_ok w b n v L (unhide HM) m hm).mono ?_
  rintro e w1 ⟨rfl, rfl⟩
  obtain ⟨d, hd⟩ : ∃ d, d = bf (n + m) - bf n := ⟨_, rfl⟩
  rw [← hd] at HNo ⊢
  have hd64 : d ≤ 64 := by omega
  clear hd
  go_wp2_with fail
  refine (haveJust_any w1 u l d (unhide HU) (by omega) hl).mono ?_
  rintro e w2 ⟨rfl, g2⟩
  rw [unhide HNo]
  go_wp2
  go_ret
  exact ⟨rfl, g2⟩

/-- What Read reads: the size, the blocks, how many bytes. -/
def rdN (l : List UInt8) : Option (Nat × List Nat × Nat) :=
  match prt l with
  | none => none
  | some (a, X, _) => if okL (X.map toI) ((bf a : Nat) : Int) ∧ l.take (tellN a (bks X)).length = tellN a (bks X) then some (a, bks X, (tellN a (bks X)).length) else none
def ReadPost (w : World) (l : List UInt8) (e : Ending) (w' : World) : Prop :=
  w.grownBy w' none ∧ ((rdN l = none ∧ e = .returned (.tuple #[.pointer none, .int .i64 0, .int .i64 61])) ∨ ∃ a L n b v, rdN l = some (a, L, n) ∧ e = .returned (.tuple #[.pointer (some ⟨b, 0, none⟩), .int .i64 (n : Int), .int .i64 0]) ∧ w.heap.size ≤ b ∧ NdAt w' b a v L)

set_option maxRecDepth 20000 in
set_option maxHeartbeats 4000000 in
theorem Read_any (w : World) (v : Value) (l : List UInt8) (hv : Sl w v l) : Calls Try.prog 15 #[v] w (ReadPost w l) := by
  have HV := hide hv
  clear hv
  go_enter Try.func15, Try.ntmps15
  go_wp2_with fail
  refine (parts_any w v l (unhide HV)).mono ?_
  rintro e w1 ⟨g1, h1⟩
  have G1 := hide g1
  rcases h1 with ⟨h1, z, vx, rfl⟩ | ⟨a, X, r, vx, h1, rfl, o1⟩
  · have HNo : Hid (rdN l = none) := hide (by unfold rdN; rw [h1])
    clear g1 h1
    go_wp2_with fail
    refine (New_any w1).mono ?_
    rintro e w2 ⟨rfl, _, g2⟩
    have G2 : Hid (w.grownBy w2 none) := hide ((unhide G1).trans g2)
    clear g2
    go_wp2
    go_ret3
    exact ⟨unhide G2, .inl ⟨unhide HNo, rfl⟩⟩
  · obtain ⟨ha, hXl, hXm⟩ := prt_facts h1
    have H1 := hide h1
    have O1 := hide o1
    clear g1 h1 o1
    go_wp2_with fail
    refine (New_any w1).mono ?_
    rintro e w2 ⟨rfl, m2, g2⟩
    have SB : Hid (w.heap.size ≤ w1.heap.size) := hide (unhide G1).size
    obtain ⟨b, hb⟩ : ∃ b, b = w1.heap.size := ⟨_, rfl⟩
    rw [← hb] at m2 SB ⊢
    have M2 := hide m2
    have G2 : Hid (w.grownBy w2 none) := hide ((unhide G1).trans g2)
    have R2 : Hid (Rn w2 vx (X.map toI)) := hide (((unhide O1).grown g2).rn (fun x hx => by have := hXm x hx; omega))
    have HB0 : Hid (bf (0 + a) - bf 0 = bf a) := hide (by rw [Nat.zero_add]; unfold bf; omega)
    clear hb m2 g2 O1 hXm
    by_cases hok : okL (X.map toI) ((bf a : Nat) : Int)
    · obtain ⟨Y, hY, hY2, hYt⟩ := of_okL hok
      have hXY : X = Y := by
        have inj : ∀ (A B : List (Nat × Nat)), A.map toI = B.map toI → A = B := by
          intro A
          induction A with
          | nil => intro B h; cases B with
            | nil => rfl
            | cons _ _ => cases h
          | cons x A ih => intro B h; cases B with
            | nil => cases h
            | cons y B =>
              simp only [List.map_cons, List.cons.injEq, toI, Prod.mk.injEq] at h
              obtain ⟨⟨h1, h2⟩, h3⟩ := h
              rw [ih B h3]
              congr 1
              exact Prod.ext (by omega) (by omega)
        exact inj X Y hY
      subst hXY
      have HY2 := hide hY2
      have HOk := hide hok
      clear hok hY
      go_wp2_with fail
      refine (Extend_ok w2 b 0 a _ vx [] X (unhide M2) (by omega) (unhide R2) (unhide HY2) (by rw [hYt]; exact (unhide HB0).symm)).mono ?_
      rintro e w3 ⟨rfl, v3, m3, _, g3⟩
      rw [Nat.zero_add, List.nil_append] at m3
      have M3 := hide m3
      have G3 := hide (own_step (unhide G2) (unhide SB) g3)
      have hcl := m3.small.2
      clear m3 g3 M2 G2 R2
      go_wp2_with fail
      refine (Bytes_any w3 b a v3 (bks X) (unhide M3)).mono ?_
      rintro e w4 ⟨u4, rfl, o4, g4⟩
      have M4 := hide ((unhide M3).grown g4)
      have G4 : Hid (w.grownBy w4 none) := hide ((unhide G3).trans g4)
      have S4 := hide o4.sl
      obtain ⟨co, ccap, hu4, _, _, _⟩ := o4.sl
      clear o4 g4 M3 G3
      subst hu4
      have hTl : ((tellN a (bks X)).length : Int) ≤ 1400 := by have := tellN_len (n := a) hcl; omega
      go_wp2_with fail
      refine (HasPrefix_any w4 v _ l (tellN a (bks X)) ((unhide HV).kept (unhide G4)) (unhide S4)).mono ?_
      rintro e w5 ⟨rfl, rfl⟩
      by_cases hp : l.take (tellN a (bks X)).length = tellN a (bks X)
      · have hD : decide (l.take (tellN a (bks X)).length = tellN a (bks X)) = true := decide_eq_true hp
        have HYes : Hid (rdN l = some (a, bks X, (tellN a (bks X)).length)) := hide (by unfold rdN; rw [unhide H1]; simp only; rw [if_pos ⟨unhide HOk, hp⟩])
        rw [hD]
        clear hp hD
        go_wp2
        go_ret3
        exact ⟨unhide G4, .inr ⟨a, bks X, _, b, v3, unhide HYes, rfl, unhide SB, unhide M4⟩⟩
      · have hD : decide (l.take (tellN a (bks X)).length = tellN a (bks X)) = false := decide_eq_false hp
        have HNo : Hid (rdN l = none) := hide (by unfold rdN; rw [unhide H1]; simp only; rw [if_neg (fun h => hp h.2)])
        rw [hD]
        clear hp hD
        go_wp2
        go_ret3
        exact ⟨unhide G4, .inl ⟨unhide HNo, rfl⟩⟩
    · have HNo : Hid (rdN l = none) := hide (by unfold rdN; rw [unhide H1]; simp only; rw [if_neg (fun h => hok h.1)])
      have HOk := hide hok
      clear hok
      go_wp2_with fail
      refine (Extend_bad w2 b 0 a _ vx [] (X.map toI) (unhide M2) (by omega) (unhide R2) (by rw [List.length_map]; omega) (by rw [unhide HB0]; exact unhide HOk)).mono ?_
      rintro e w3 ⟨rfl, g3⟩
      have G3 : Hid (w.grownBy w3 none) := hide ((unhide G2).trans g3)
      clear g3
      go_wp2
      go_ret3
      exact ⟨unhide G3, .inl ⟨unhide HNo, rfl⟩⟩
end Go.Proofs.Ytikoegmpbjeadaa
