/-
  JournalRoom: for every two ints it returns true, and its arguments read as before. Conditions: none.
-/
import Derived.Test.YtgehefnkbcbldaaM7
import Derived.Deep.RegionLaw
namespace Go.Proofs.Ytgehefnkbcbldaa
open Go.ChangeShapes Go.WideShapes Go.ChangeAt Go.RowKit
set_option linter.unusedVariables false

theorem Pick_100 (p : Int) (w : World) (p1 : -9223372036854775808 ≤ p) (p2 : p < 9223372036854775808) :
    Calls Try.prog 14 #[.int .i64 p, .int .i64 100] w fun e w' => e = .returned (.int .i64 (pickR p 99 : Nat)) ∧ w = w' := Pick_eq p 99 w p1 p2 (by omega)
theorem block0 : headL ⟨#[]⟩ (fillL (UInt8.ofNat (pickR 0 255)) 512) = List.replicate 512 0 := by
  decide +kernel
theorem Read_badR {w0 w : World} {b lb N : Nat} {G : Nat → Prop} {S : St} (h : Rst w0 w b lb N G S false) (hd : S.down = false) (n : Int) (hn : ¬ (0 ≤ n ∧ n < ((S.safe.length - 20 : Nat) : Int))) :
    Calls Try.prog 12 #[.pointer (some ⟨lb, 0, none⟩), .int .i64 n] w fun e w' => e = .returned (.tuple #[.slice none 0 0, .int .i64 42]) ∧ w' = w := by
  obtain ⟨F, h1, h2⟩ := h
  exact Read_bad h1 hd n hn
theorem Put_badR {w0 w : World} {b lb N : Nat} {G : Nat → Prop} {S : St} (h : Rst w0 w b lb N G S false) (hd : S.down = false) (n : Int) (hn : ¬ (0 ≤ n ∧ n < ((S.safe.length - 20 : Nat) : Int))) (a : Option Addr) (q c : Nat) :
    Calls Try.prog 19 #[.pointer (some ⟨lb, 0, none⟩), .int .i64 n, .slice a q c] w fun e w' => e = .returned (.int .i64 42) ∧ w' = w := by
  obtain ⟨F, h1, h2⟩ := h
  exact Put_bad h1 hd n a q c 42 (by unfold putC; rw [if_pos hn]) (by decide)

set_option maxRecDepth 100000 in
set_option maxHeartbeats 3200000 in
theorem JRoom.walk (k n : Int) (w : World) (k0 : -9223372036854775808 ≤ k) (k1 : k < 9223372036854775808) (n0 : -9223372036854775808 ≤ n) (n1 : n < 9223372036854775808) :
    Calls Try.prog 5 #[.int .i64 k, .int .i64 n] w fun e w' => e = .returned (.bool true) ∧ Below w.heap.size w w' := by
  have hm : pickR k 99 ≤ 99 := by have := pickR_lt k 99; omega
  obtain ⟨m, hmm⟩ : ∃ m, m = pickR k 99 := ⟨_, rfl⟩
  have PK := fun w => Pick_100 k w k0 k1
  rw [← hmm] at hm PK
  have HPK := hide PK
  have hw1 : IntKind.i64.wrap (64 + (m : Int)) = ((64 + m : Nat) : Int) := by rw [IntKind.wrap_i64]; omega
  have hw2 : IntKind.i64.wrap (((64 + m : Nat) : Int) - 20) = ((64 + m - 20 : Nat) : Int) := by rw [IntKind.wrap_i64]; omega
  obtain ⟨bl, hbl⟩ : ∃ bl, bl = 64 + m := ⟨_, rfl⟩
  rw [← hbl] at hw1 hw2
  obtain ⟨sz, hsz⟩ : ∃ sz, sz = bl - 20 := ⟨_, rfl⟩
  rw [← hsz] at hw2
  have HS := hide hsz
  have hb1 : 64 ≤ bl := by omega
  have hb2 : bl ≤ 163 := by omega
  have hs1 : sz + 20 = bl := by omega
  clear hmm hbl PK hsz
  go_enter Try.func5, Try.ntmps5
  go_wp2_with fail
  refine (Jawake_any _).mono ?_
  rintro e w1 ⟨rfl, b1⟩
  have HB1 := hide b1
  clear b1
  go_wp2_with fail
  refine (unhide HPK _).mono ?_
  rintro e w2 ⟨rfl, rfl⟩
  go_wp2_with fail
  refine (laid_r w w1 (unhide HB1) bl hb1 (by omega)).mono ?_
  rintro e w3 ⟨b, lb, T, rfl, r3, q3, p3, l3, f3⟩
  have R3 := hide r3
  have Q3 := hide q3
  have SZ := Size_r r3
  rw [l3, ← unhide HS] at SZ
  have HSZ := hide SZ
  clear r3 q3 SZ p3 HB1
  go_wp2_with fail
  refine (unhide HSZ).mono ?_
  rintro e w4 ⟨rfl, rfl⟩
  by_cases hn : 0 ≤ n ∧ n < (sz : Int)
  · obtain ⟨i, hi⟩ : ∃ i : Nat, n = (i : Int) := ⟨n.toNat, by omega⟩
    subst hi
    have hin : i < T.safe.length - 20 := by rw [l3]; omega
    have c0 : decide ((i : Int) < 0) = false := decide_eq_false (by omega)
    have c1 : ¬ sz ≤ i := by omega
    have RD := hide (Read_f (unhide R3) (unhide Q3) f3 (by omega) i hin)
    clear hn hin HSZ HPK Q3 R3 hs1 hm hb1 hb2 hw1
    go_wp2_with fail
    refine (unhide RD).mono ?_
    rintro e w5 ⟨_, q, rfl, hq, s5, h5, r5⟩
    obtain ⟨Z, hZ⟩ : ∃ Z : List UInt8, Z = List.replicate 512 0 := ⟨_, rfl⟩
    have k5 : Sl w5 (.slice (some ⟨q, 0, none⟩) 512 512) Z := by rw [hZ]; exact sl_block s5 List.length_replicate
    have K5 := hide k5
    have HZ := hide hZ
    clear hZ
    have R5 := hide r5.bel
    have HZ5 : Hid (Z.length = 512) := hide (by rw [unhide HZ]; exact List.length_replicate)
    have v5 : (convert 34 9 (.slice (some ⟨q, 0, none⟩) 512 512)).run Try.prog w5.drew = .ok (.string ⟨Z.toArray⟩) w5.drew := (k5.below (Below.refl _ _).drew (Nat.le_refl _)).strJ
    clear s5 h5 r5 RD k5 n0 n1 k0 k1 f3 hq l3
    go_wp2_with fail
    go_region_law (first | (go_simp; go_wp2_with (first | (go_at_call 20; refine (Block_any 0 ⟨#[]⟩ _ (by omega) (by omega)).mono ?_; rintro e w6 ⟨rfl, s6, b6⟩; have b7 : Below w5.heap.size w5 w6 := after_drew b6; have v6 := ((unhide K5).below b7 (Nat.le_refl _)).strJ; rw [block0, ← unhide HZ] at s6; have u6 : (convert 34 9 (.slice (some ⟨w5.heap.size, 0, none⟩) 512 512)).run Try.prog w6 = .ok (.string ⟨Z.toArray⟩) w6 := (sl_block s6 (unhide HZ5)).strJ; have R6 : Hid (Below w.heap.size w w6) := hide ((unhide R5).trans (b7.mono (unhide R5).size)); clear b6 b7 s6) | fail)))
    all_goals
      go_wp2
      go_ret
      exact ⟨rfl, unhide R6⟩
  · have hnl : ¬ (0 ≤ n ∧ n < ((T.safe.length - 20 : Nat) : Int)) := by rw [l3, ← unhide HS]; exact hn
    have RD := hide (Read_badR (unhide R3) f3.up n hnl)
    have PT := hide (fun (W : World) (h : Below w4.heap.size w4 W) a q c => Put_badR ((unhide R3).grown h (H := fun _ => False) (fun _ h => h.elim)) f3.up n hnl a q c)
    have R4 := hide (unhide R3).bel
    by_cases h0 : n < 0
    · clear hn hnl HSZ HPK Q3 R3 hs1 hm hb1 hb2 hw1 n0 n1 k0 k1 f3 l3
      go_wp2_with fail
      refine (unhide RD).mono ?_
      rintro e w5 ⟨rfl, rfl⟩
      go_wp2_with fail
      refine (Block_any 0 ⟨#[]⟩ _ (by omega) (by omega)).mono ?_
      rintro e w6 ⟨rfl, _, b6⟩
      have R6 : Hid (Below w.heap.size w w6) := hide ((unhide R4).trans (b6.mono (unhide R4).size))
      have PT6 := hide (unhide PT w6 b6)
      clear b6 R4 PT RD
      go_wp2_with fail
      refine (unhide PT6 _ _ _).mono ?_
      rintro e w7 ⟨rfl, rfl⟩
      go_wp2
      go_ret
      exact ⟨rfl, unhide R6⟩
    · have c0 : decide (n < 0) = false := decide_eq_false h0
      have c1 : decide ((sz : Int) ≤ n) = true := decide_eq_true (by omega)
      clear hn hnl HSZ HPK Q3 R3 hs1 hm hb1 hb2 hw1 n0 n1 k0 k1 f3 l3 h0
      go_wp2_with fail
      refine (unhide RD).mono ?_
      rintro e w5 ⟨rfl, rfl⟩
      go_wp2_with fail
      refine (Block_any 0 ⟨#[]⟩ _ (by omega) (by omega)).mono ?_
      rintro e w6 ⟨rfl, _, b6⟩
      have R6 : Hid (Below w.heap.size w w6) := hide ((unhide R4).trans (b6.mono (unhide R4).size))
      have PT6 := hide (unhide PT w6 b6)
      clear b6 R4 PT RD
      go_wp2_with fail
      refine (unhide PT6 _ _ _).mono ?_
      rintro e w7 ⟨rfl, rfl⟩
      go_wp2
      go_ret
      exact ⟨rfl, unhide R6⟩

set_option maxRecDepth 100000 in
theorem JRoom.lifted (os : Os) (started : os.Started) (H : Type) (enc : TypeId × Value → H) :
    ReturnsInHanded {} Try.checked os 5 .any (Rows.journalRoomSpec.pre6 enc Try.prog Try.f5 Rows.journalRoomRow.domain false) (Rows.journalRoomSpec.post enc Try.prog Try.f5 false true false false) := by
  refine returnsInHanded_of_change (C := Try.checked) own_knob started (by kernel_rfl) Try.func5
    (ChangeSpec.witness6 (enc := enc) (C := Try.checked) false ⟨#[], #[.int .i64 0, .int .i64 0], []⟩ 8 (by kernel_rfl) (by kernel_rfl) (by kernel_rfl) (by kernel_rfl)) ?_
  intro W base args ds gs before hval0 hW hcnd _
  have hval : ∀ (j : Nat) t v, Try.f5.params[j]? = some t → args[j]? = some v → Value.okWide Try.prog W .any base t v := hval0
  have hW' := hW
  obtain ⟨p, q, hA0, hV, rfl, hfz, hnd⟩ := hW
  have hA : DataW.TrodAll enc Try.prog W 0 (fun _ => true) true Try.f5.params.toList args.toList ds p := hA0
  rw [Try.params5] at hA hval
  obtain ⟨v0, v1, d0, d1, p0, p1, rfl, rfl, rfl, h0, h1⟩ := trodAll_two hA
  obtain ⟨rfl, rfl⟩ := trodVars_none hV
  obtain ⟨x, rfl, rfl, rfl, wx⟩ := open_int Try.underlying3 (hval 0 3 v0 rfl rfl) h0
  obtain ⟨y, rfl, rfl, rfl, wy⟩ := open_int Try.underlying3 (hval 1 3 v1 rfl rfl) h1
  have bx := bounds_i64 wx
  have bY := bounds_i64 wy
  clear hA0 hval0
  refine (JRoom.walk x y W (by omega) (by omega) (by omega) (by omega)).mono fun e W' ⟨he, bel⟩ => ?_
  subst he
  exact ⟨_, rfl, _, _, _, [], _, [], hW', trodAll_mk1 (shut_bool Try.underlying4 _), (trodAll_cons_mk (shut_int Try.underlying3 wx) (trodAll_cons_mk (shut_int Try.underlying3 wy) trodAll_mk0)), rfl, bel.frame _, fun h => by cases h⟩

theorem journalRoom_holds : Rows.JournalRoomSaid :=
  OpenClaim.holds_of_wide 5 Try.f5 rfl rfl rfl rfl rfl rfl rfl ⟨rfl, rfl, rfl, rfl, rfl⟩ rfl rfl rfl rfl rfl (by kernel_rfl) Try.func5 (by kernel_rfl)
    (of_decide_eq_true (by kernel_rfl)) (by unfold Func.isWrapper; first | (rw [if_pos (by decide +kernel)]; kernel_rfl) | (rw [if_neg (by decide +kernel)]; exact ⟨rfl, rfl⟩))
    (fun os started H enc _ => JRoom.lifted os started H enc)
#print axioms journalRoom_holds
end Go.Proofs.Ytgehefnkbcbldaa
