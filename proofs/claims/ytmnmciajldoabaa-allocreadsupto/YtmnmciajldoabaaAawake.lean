/-
  DERIVED. The chapter's examples: awake.
-/
import Derived.Test.YtmnmciajldoabaaAtake
import Derived.Test.YtmnmciajldoabaaAtake2
import Derived.Test.YtmnmciajldoabaaAbits
import Derived.Test.YtmnmciajldoabaaAsame
namespace Go.Proofs.Ytmnmciajldoabaa
open Go.RowKit
set_option linter.unusedVariables false

def ex1 : Nat → Bool := marks none? [(0, 3)]
def ex2 : Nat → Bool := fun j => if j = 2 then false else if j = 1 then false else ex1 j
def ex3 : Nat → Bool := marks ex2 [(1, 2)]
theorem ex_cut1 : cut 3 (runsOf 10 none? none?) = [(0, 3)] := by decide +kernel
theorem ex_tot1 : 3 ≤ total (runsOf 10 none? none?) := by decide +kernel
theorem ex_give : giveL 10 ex1 [(1, 2)] = some ex2 := rfl
theorem ex_cut2 : cut 2 (runsOf 10 ex2 ex2) = [(1, 2)] := by decide +kernel
theorem ex_tot2 : 2 ≤ total (runsOf 10 ex2 ex2) := by decide +kernel
theorem ex_free : total (runsOf 10 ex3 ex2) = 7 := by decide +kernel
theorem ex_tell : tell 10 ex3 = [10, 7, 0] := by decide +kernel


theorem New_10 (w : World) : Calls Try.prog 6 #[.int .i64 10] w fun e w' => e = .returned (.pointer (some ⟨w.heap.size, 0, none⟩)) ∧ MapAt w' w.heap.size 10 none? none? ∧ w.grownBy w' none := New_any 10 w (by omega)
theorem Take_3 (w : World) (b : Nat) (h : MapAt w b 10 none? none?) : Calls Try.prog 8 #[.pointer (some ⟨b, 0, none⟩), .int .i64 3] w fun e w' => ∃ v, e = .returned (.tuple #[v, .int .i64 0]) ∧ ROwn w' w.heap.size v [(0, 3)] ∧ MapAt w' b 10 ex1 none? ∧ w.grownBy w' (some b) := by
  refine (Take_ok w b 10 3 none? none? h ex_tot1).mono fun e w' h => ?_
  rw [ex_cut1] at h
  exact h
theorem Take_2 (w : World) (b : Nat) (h : MapAt w b 10 ex2 ex2) : Calls Try.prog 8 #[.pointer (some ⟨b, 0, none⟩), .int .i64 2] w fun e w' => ∃ v, e = .returned (.tuple #[v, .int .i64 0]) ∧ ROwn w' w.heap.size v [(1, 2)] ∧ MapAt w' b 10 ex3 ex2 ∧ w.grownBy w' (some b) := by
  refine (Take_ok w b 10 2 ex2 ex2 h ex_tot2).mono fun e w' h => ?_
  rw [ex_cut2] at h
  exact h
theorem Give_12 (w : World) (b : Nat) (v : Value) (h : MapAt w b 10 ex1 none?) (hv : Rn w v [(1, 2)]) : Calls Try.prog 13 #[.pointer (some ⟨b, 0, none⟩), v] w fun e w' => e = .returned (.int .i64 0) ∧ MapAt w' b 10 ex2 none? ∧ w.grownBy w' (some b) := by
  refine (Give_any w b 10 v [(1, 2)] ex1 none? h hv).mono fun e w' h => ?_
  obtain ⟨h1 | h1, h2⟩ := h
  · obtain ⟨U', e1, e2, e3⟩ := h1
    rw [ex_give] at e1
    cases e1
    exact ⟨e2, e3, h2⟩
  · obtain ⟨e1, _⟩ := h1
    rw [ex_give] at e1
    cases e1
theorem Free_7 (w : World) (b : Nat) (h : MapAt w b 10 ex3 ex2) : Calls Try.prog 22 #[.pointer (some ⟨b, 0, none⟩)] w fun e w' => e = .returned (.int .i64 7) ∧ w.grownBy w' none := by
  refine (Free_any w b 10 ex3 ex2 h).mono fun e w' h => ?_
  rw [ex_free] at h
  exact h
theorem Bytes_10 (w : World) (b : Nat) (h : MapAt w b 10 ex3 ex2) : Calls Try.prog 23 #[.pointer (some ⟨b, 0, none⟩)] w fun e w' => ∃ v, e = .returned v ∧ Own w' w.heap.size v [10, 7, 0] ∧ w.grownBy w' none := by
  refine (Bytes_any w b 10 ex3 ex2 h).mono fun e w' h => ?_
  rw [ex_tell] at h
  exact h

theorem Sl.str {w : World} {v : Value} {l : List UInt8} (h : Sl w v l) : (convert 42 9 v).run Try.prog w = .ok (.string ⟨l.toArray⟩) w := by
  rcases h.cases with ⟨rfl, ao, rfl⟩ | ⟨b, off, cap, rfl, h1, h2, hb, hc⟩
  · cases ao with
    | none => exact run_convert_bytes_nil w 42 5 Try.underlying42 Try.underlying5 0 0 9 Try.underlying9
    | some a => exact run_convert_bytes_back w 42 9 5 a 0 [] Try.underlying42 Try.underlying5 Try.underlying9 (fun j hj => by simp at hj)
  · exact run_convert_bytes_back w 42 9 5 ⟨b, off, none⟩ cap l Try.underlying42 Try.underlying5 Try.underlying9 (fun j hj => by rw [addr_add]; exact hc j hj)

theorem ROwn.far {W W' : World} {base b B : Nat} {U V : Nat → Bool} {v : Value} {xs : List (Nat × Nat)} (h : ROwn W base v xs) (hm : MapAt W b B U V) (hg : W.grownBy W' (some b)) : ROwn W' base v xs :=
  h.kept hg (fun q hq e => h.ne hq hm.blk (by decide) (by simpa using e))

set_option maxHeartbeats 2000000 in
set_option maxRecDepth 20000 in
theorem awake_ok (w : World) : Calls Try.prog 5 #[] w fun e w' => e = .returned (.bool true) ∧ w.grownBy w' none := by
  go_enter Try.func5, Try.ntmps5
  go_wp2_with fail
  refine (New_10 w).mono ?_
  rintro e w1 ⟨rfl, m1, g1⟩
  obtain ⟨b, hb⟩ : ∃ b, b = w.heap.size := ⟨_, rfl⟩
  rw [← hb] at m1 ⊢
  have M1 := hide m1
  have G1 := hide g1
  have HBB : Hid (w.heap.size ≤ b) := hide (by omega)
  clear m1 g1 hb
  go_wp2_with fail
  refine (Take_3 w1 b (unhide M1)).mono ?_
  rintro e w2 ⟨va, rfl, o2, m2, g2⟩
  have M2 := hide m2
  have O2 := hide o2
  have G2 : Hid (w.grownBy w2 none) := hide ((unhide G1).andThen g2 (fun j e => by cases e; exact .inl (unhide HBB)))
  clear m2 o2 g2 G1 M1
  go_wp2_with fail
  have mA := (unhide M2).alloc (.cells #[.int .i64 1, .int .i64 2] 36)
  refine (Give_12 (w2.alloc (.cells #[.int .i64 1, .int .i64 2] 36)) b _ mA (Rn.one w2 1 2 (by simp [fits]))).mono ?_
  rintro e w3 ⟨rfl, m3, g3⟩
  have M3 := hide m3
  have O3 : Hid (ROwn w3 w1.heap.size va [(0, 3)]) := hide (ROwn.far (World.ownsRow.alloc (unhide O2) _) mA g3)
  have G3 : Hid (w.grownBy w3 none) := hide (((unhide G2).trans (World.grownBy_alloc _ _ _)).andThen g3 (fun j e => by cases e; exact .inl (unhide HBB)))
  clear m3 g3 mA M2 O2 G2
  go_wp2_with fail
  refine (Commit_any w3 b 10 ex2 none? (unhide M3)).mono ?_
  rintro e w4 ⟨⟨ve, rfl⟩, m4, g4⟩
  have M4 := hide m4
  have O4 : Hid (ROwn w4 w1.heap.size va [(0, 3)]) := hide (ROwn.far (unhide O3) (unhide M3) g4)
  have G4 : Hid (w.grownBy w4 none) := hide ((unhide G3).andThen g4 (fun j e => by cases e; exact .inl (unhide HBB)))
  clear m4 g4 M3 O3 G3
  go_wp2_with fail
  refine (Take_2 w4 b (unhide M4)).mono ?_
  rintro e w5 ⟨vb, rfl, o5, m5, g5⟩
  have M5 := hide m5
  have O5 : Hid (ROwn w5 w1.heap.size va [(0, 3)]) := hide (ROwn.far (unhide O4) (unhide M4) g5)
  have P5 := hide o5
  have G5 : Hid (w.grownBy w5 none) := hide ((unhide G4).andThen g5 (fun j e => by cases e; exact .inl (unhide HBB)))
  clear m5 g5 o5 M4 O4 G4
  go_wp2_with fail
  refine (SameRuns_any (w5.alloc (.cells #[.int .i64 0, .int .i64 3] 36)) va _ [(0, 3)] [(0, 3)] ((ROwn.rn (World.ownsRow.alloc (unhide O5) _ : ROwn _ _ _ [(0, 3)]) (by decide))) (Rn.one w5 0 3 (by simp [fits]))).mono ?_
  rintro e w6 ⟨rfl, g6⟩
  have g56 : w5.grownBy w6 none := (World.grownBy_alloc _ _ _).trans g6
  have M6 := hide ((unhide M5).grown g56 (by simp))
  have P6 : Hid (ROwn w6 w4.heap.size vb [(1, 2)]) := hide ((unhide P5).kept g56 (fun q hq e => by cases e))
  have G6 : Hid (w.grownBy w6 none) := hide ((unhide G5).trans g56)
  clear g6 g56 M5 O5 P5 G5
  simp only [decide_true]
  go_wp2_with fail
  refine (SameRuns_any (w6.alloc (.cells #[.int .i64 1, .int .i64 2] 36)) vb _ [(1, 2)] [(1, 2)] ((ROwn.rn (World.ownsRow.alloc (unhide P6) _ : ROwn _ _ _ [(1, 2)]) (by decide))) (Rn.one w6 1 2 (by simp [fits]))).mono ?_
  rintro e w7 ⟨rfl, g7⟩
  have g67 : w6.grownBy w7 none := (World.grownBy_alloc _ _ _).trans g7
  have M7 := hide ((unhide M6).grown g67 (by simp))
  have G7 : Hid (w.grownBy w7 none) := hide ((unhide G6).trans g67)
  clear g7 g67 M6 P6 G6
  simp only [decide_true]
  go_wp2_with fail
  refine (Free_7 w7 b (unhide M7)).mono ?_
  rintro e w8 ⟨rfl, g8⟩
  have M8 := hide ((unhide M7).grown g8 (by simp))
  have G8 : Hid (w.grownBy w8 none) := hide ((unhide G7).trans g8)
  clear g8 M7 G7
  go_wp2_with fail
  refine (Bytes_10 w8 b (unhide M8)).mono ?_
  rintro e w9 ⟨vc, rfl, o9, g9⟩
  have G9 : Hid (w.grownBy w9 none) := hide ((unhide G8).trans g9)
  have hst := o9.sl.str
  clear g9 o9 M8 G8
  go_wp2
  go_ret
  exact ⟨rfl, unhide G9⟩
end Go.Proofs.Ytmnmciajldoabaa
