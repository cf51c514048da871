/-
  AllocResets: for every int and every two slices of calls it returns true, and its arguments read as before. Conditions: none.
-/
import Derived.Test.YtakddbieldgblaaAopen
namespace Go.Proofs.Ytakddbieldgblaa
open Go.ChangeShapes Go.WideShapes Go.ChangeAt Go.RowKit
set_option linter.unusedVariables false

theorem Give_some (w : World) (b B : Nat) (v : Value) (l : List (Int × Int)) (U V : Nat → Bool) (h : MapAt w b B U V) (hv : Rn w v l) :
    Calls Try.prog 17 #[.pointer (some ⟨b, 0, none⟩), v] w fun e w' => ∃ (x : Int) (U' : Nat → Bool), e = .returned (.int .i64 x) ∧ MapAt w' b B U' V ∧ w.grownBy w' (some b) := by
  refine (Give_any w b B v l U V h hv).mono fun e w' h => ?_
  obtain ⟨h1 | h1, h2⟩ := h
  · obtain ⟨U', _, e2, e3⟩ := h1
    exact ⟨_, U', e2, e3, h2⟩
  · obtain ⟨_, e2, e3⟩ := h1
    exact ⟨_, U, e2, e3, h2⟩
theorem Take_some (w : World) (b B n : Nat) (U V : Nat → Bool) (h : MapAt w b B U V) (hn2 : (n : Int) ≤ 9223372036854775807) :
    Calls Try.prog 12 #[.pointer (some ⟨b, 0, none⟩), .int .i64 (n : Int)] w fun e w' => ∃ (v : Value) (x : Int) (U' : Nat → Bool), e = .returned (.tuple #[v, .int .i64 x]) ∧ MapAt w' b B U' V ∧ w.grownBy w' (some b) := by
  refine (Take_any w b B n U V h hn2).mono fun e w' h => ?_
  obtain ⟨⟨v, h1 | h1⟩, h2, h3⟩ := h
  · exact ⟨v, _, _, h1.1, h2, h3⟩
  · exact ⟨v, _, _, h1.1, h2, h3⟩
/-- A call of the map's own is not seen from where the law began. -/
theorem own_step {w w1 w2 : World} {b : Nat} (h : w.grownBy w1 none) (hb : w.heap.size ≤ b) (k : w1.grownBy w2 (some b)) : w.grownBy w2 none := h.andThen k (fun j e => by cases e; exact .inl hb)

theorem AClL.at {w : World} {ao : Option Addr} {n cap : Nat} {l : List ACl} (h : AClL w (.slice ao n cap) l) {i : Nat} (hi : i < l.length) : ∃ b off, ao = some ⟨b, off, none⟩ ∧ AClAt w b (off + i * 3) l[i] := by
  obtain ⟨ao', cap', e, _, h4⟩ := h
  cases e
  obtain ⟨b, off, e2, _, h5⟩ := h4 (by omega)
  exact ⟨b, off, e2, h5 i hi⟩

set_option maxRecDepth 100000 in
set_option maxHeartbeats 4000000 in
theorem Resets.walk (B0 : Int) (vf vt : Value) (lf lt : List ACl) (w : World) (hB0 : I64 B0) (hf : AClL w vf lf) (ht : AClL w vt lt) :
    Calls Try.prog 8 #[.int .i64 B0, vf, vt] w fun e w' => e = .returned (.bool true) ∧ Below w.heap.size w w' := by
  have HF := hide hf
  have HT := hide ht
  obtain ⟨fo, fcap, rfl, hf1, _⟩ := hf
  obtain ⟨to, tcap, rfl, ht1, _⟩ := ht
  obtain ⟨b1, b2⟩ := hB0
  obtain ⟨nf, hnf⟩ : ∃ n, n = lf.length := ⟨_, rfl⟩
  obtain ⟨nt, hnt⟩ : ∃ n, n = lt.length := ⟨_, rfl⟩
  rw [← hnf] at hf1 HF ⊢
  rw [← hnt] at ht1 HT ⊢
  have Hnf := hide hnf
  have Hnt := hide hnt
  have hfi : (nf : Int) ≤ 9223372036854775807 := by omega
  have hti : (nt : Int) ≤ 9223372036854775807 := by omega
  clear hnf hnt
  go_enter Try.func8, Try.ntmps8
  go_wp2_with fail
  refine (awake_ok _).mono ?_
  rintro e w1 ⟨rfl, g1⟩
  have G1 := hide g1
  clear g1
  go_wp2_with fail
  refine (Pick_any B0 513 w1 b1 b2 (by omega) (by omega)).mono ?_
  rintro e w1' ⟨B, rfl, hB, rfl⟩
  have hB5 : B ≤ 512 := by omega
  go_wp2_with fail
  refine (New_any B w1 hB5).mono ?_
  rintro e w2 ⟨rfl, m2, g2⟩
  obtain ⟨b, hb⟩ : ∃ b, b = w1.heap.size := ⟨_, rfl⟩
  rw [← hb] at m2 ⊢
  have M2 := hide m2
  have G2 : Hid (w.grownBy w2 none) := hide ((unhide G1).trans g2)
  have HB : Hid (w.heap.size ≤ b) := hide (by rw [hb]; exact (unhide G1).size)
  clear m2 g2 hb G1
  go_wp2
  go_loopw [9] (fun i wr => ∃ (k : Nat) (U : Nat → Bool), i = .int .i64 (k : Int) ∧ k ≤ 20 ∧ MapAt wr b B U none? ∧ w.grownBy wr none) (fun i _ => 20 - (intOf i).toNat)
  case atStart => exact ⟨0, none?, rfl, by omega, unhide M2, unhide G2⟩
  case round =>
    obtain ⟨k, U, rfl, hk, hm, hg⟩ := hrel
    by_cases hlt : k < nf ∧ k < 20
    · have hl1 : (k : Int) < (nf : Int) := by omega
      have hl2 : (k : Int) < 20 := by omega
      have hkl : k < lf.length := by rw [← unhide Hnf]; exact hlt.1
      obtain ⟨pb, off, rfl, hat0⟩ := (unhide HF).at hkl
      have hat := hat0.kept hg
      have c1 := hat.c1
      have i1 := hat.i1
      have HA := hide hat0
      have HM := hide hm
      have HG := hide hg
      clear hlt hat hat0 hm hg M2 G2
      go_wp2_with fail
      refine (Pick_any _ 30 wr i1.1 i1.2 (by omega) (by omega)).mono ?_
      rintro e wr' ⟨q, rfl, hq, rfl⟩
      go_wp2_with fail
      refine (Take_some wr b B q U none? (unhide HM) (by omega)).mono ?_
      rintro e w3 ⟨v3, x3, U3, rfl, m3, g3⟩
      have G3 := hide (own_step (unhide HG) (unhide HB) g3)
      have M3 := hide m3
      clear m3 g3 c1
      obtain ⟨vl, c2, hrn⟩ := ((unhide HA).kept (unhide G3)).c2
      have HRN := hide hrn
      clear hrn
      go_wp2_with fail
      refine (Give_some w3 b B vl _ U3 none? (unhide M3) (unhide HRN)).mono ?_
      rintro e w4 ⟨x4, U4, rfl, m4, g4⟩
      have G4 := hide (own_step (unhide G3) (unhide HB) g4)
      have M4 := hide m4
      clear m4 g4 c2
      go_wp2
      go_roundw
      case rel => exact ⟨k + 1, U4, rfl, by omega, unhide M4, unhide G4⟩
      case measure => simp [intOf]; omega
    · have HM := hide hm
      have HG := hide hg
      clear hm hg M2 G2
      have hout : ¬ ((k : Int) < (nf : Int) ∧ (k : Int) < 20) := by omega
      have HL : Hid (∀ K : Prop, ((¬ (k : Int) < (nf : Int)) → K) → (((k : Int) < (nf : Int) ∧ ¬ (k : Int) < 20) → K) → K) := hide (fun K h1 h2 => by
        by_cases e : (k : Int) < (nf : Int)
        · exact h2 ⟨e, fun h => hout ⟨e, h⟩⟩
        · exact h1 e)
      clear hlt hout
      refine unhide HL _ ?_ ?_
      all_goals intro hx
      all_goals try obtain ⟨hx1, hx2⟩ := hx
      all_goals go_wp2_with fail
      all_goals refine (Commit_any wr b B U none? (unhide HM)).mono ?_
      all_goals rintro e w5 ⟨⟨v5, rfl⟩, m5, g5⟩
      all_goals have G5 := hide (own_step (unhide HG) (unhide HB) g5)
      all_goals have M5 := hide m5
      all_goals clear m5 g5
      all_goals go_wp2_with fail
      all_goals refine (Bytes_any w5 b B U U (unhide M5)).mono ?_
      all_goals rintro e w6 ⟨v6, rfl, o6, g6⟩
      all_goals have G6 : Hid (w.grownBy w6 none) := hide ((unhide G5).trans g6)
      all_goals have M6 := hide ((unhide M5).grown g6 (by simp))
      all_goals have st6 := o6.sl.str
      all_goals clear g6 o6 M5 G5
      all_goals go_wp2_with fail
      all_goals refine (Free_any w6 b B U U (unhide M6)).mono ?_
      all_goals rintro e w7 ⟨rfl, g7⟩
      all_goals have G7 : Hid (w.grownBy w7 none) := hide ((unhide G6).trans g7)
      all_goals have M7 := hide ((unhide M6).grown g7 (by simp))
      all_goals clear g7 M6 G6 st6
      all_goals go_wp2
      all_goals
        go_loopw [12] (fun i wr => ∃ (k : Nat) (U2 : Nat → Bool), i = .int .i64 (k : Int) ∧ k ≤ 20 ∧ MapAt wr b B U2 U ∧ w.grownBy wr none) (fun i _ => 20 - (intOf i).toNat)
        case atStart => exact ⟨0, U, rfl, by omega, unhide M7, unhide G7⟩
        case round =>
          obtain ⟨k2, U2, rfl, hk2, hm, hg⟩ := hrel
          by_cases hlt : k2 < nt ∧ k2 < 20
          · have hl1 : (k2 : Int) < (nt : Int) := by omega
            have hl2 : (k2 : Int) < 20 := by omega
            have hkl : k2 < lt.length := by rw [← unhide Hnt]; exact hlt.1
            obtain ⟨pb, off, rfl, hat0⟩ := (unhide HT).at hkl
            have HA := hide hat0
            obtain ⟨vl, c2, hrn⟩ := (hat0.kept hg).c2
            have i0 := hat0.i0
            have i1 := hat0.i1
            have HM2 := hide hm
            have HG2 := hide hg
            have HRN := hide hrn
            clear hlt hat0 hm hg hrn M7 G7 HM HG
            go_wp2_with fail
            refine (Give_some _ b B vl _ U2 U (unhide HM2) (unhide HRN)).mono ?_
            rintro e y1 ⟨x1, U3, rfl, m3, g3⟩
            have G3 := hide (own_step (unhide HG2) (unhide HB) g3)
            have M3 := hide m3
            have c1 := ((unhide HA).kept (unhide G3)).c1
            clear m3 g3 c2 HM2 HG2 HRN
            go_wp2_with fail
            refine (Pick_any _ 30 y1 i1.1 i1.2 (by omega) (by omega)).mono ?_
            rintro e y1' ⟨q, rfl, hq, rfl⟩
            go_wp2_with fail
            refine (Take_some y1 b B q U3 U (unhide M3) (by omega)).mono ?_
            rintro e y2 ⟨v4, x4, U4, rfl, m4, g4⟩
            have G4 := hide (own_step (unhide G3) (unhide HB) g4)
            have M4 := hide m4
            have c0 := ((unhide HA).kept (unhide G4)).c0
            clear m4 g4 c1 M3 G3
            have hB1 : (B : Int) + 1 ≤ 513 := by omega
            go_wp2_with fail
            refine (Pick_any _ ((B : Int) + 1) y2 i0.1 i0.2 (by omega) (by omega)).mono ?_
            rintro e y2' ⟨z, rfl, hz, rfl⟩
            go_wp2_with fail
            refine (Give_some (y2.alloc (.cells #[.int .i64 (z : Int), .int .i64 1] 36)) b B _ [((z : Int), 1)] U4 U ((unhide M4).alloc _) (Rn.one y2 (z : Int) 1 (by simp only [fits]; omega))).mono ?_
            rintro e y3 ⟨x5, U5, rfl, m5', g5'⟩
            have G5' := hide (own_step ((unhide G4).trans (World.grownBy_alloc _ _ _)) (unhide HB) g5')
            have M5' := hide m5'
            clear m5' g5' c0 M4 G4
            go_wp2
            go_roundw
            case rel => exact ⟨k2 + 1, U5, rfl, by omega, unhide M5', unhide G5'⟩
            case measure => simp [intOf]; omega
          · have HM2 := hide hm
            have HG2 := hide hg
            clear hm hg M7 G7 HM HG
            have hout : ¬ ((k2 : Int) < (nt : Int) ∧ (k2 : Int) < 20) := by omega
            have HL2 : Hid (∀ K : Prop, ((¬ (k2 : Int) < (nt : Int)) → K) → (((k2 : Int) < (nt : Int) ∧ ¬ (k2 : Int) < 20) → K) → K) := hide (fun K h1 h2 => by
              by_cases e : (k2 : Int) < (nt : Int)
              · exact h2 ⟨e, fun h => hout ⟨e, h⟩⟩
              · exact h1 e)
            clear hlt hout
            refine unhide HL2 _ ?_ ?_
            all_goals intro hx'
            all_goals try obtain ⟨hx1', hx2'⟩ := hx'
            all_goals go_wp2_with fail
            all_goals refine (Reset_any _ b B U2 U (unhide HM2)).mono ?_
            all_goals rintro e z1 ⟨⟨v8, rfl⟩, m8, g8⟩
            all_goals have G8 := hide (own_step (unhide HG2) (unhide HB) g8)
            all_goals have M8 := hide m8
            all_goals clear m8 g8
            all_goals go_wp2_with fail
            all_goals refine (Bytes_any z1 b B U U (unhide M8)).mono ?_
            all_goals rintro e z2 ⟨v9, rfl, o9, g9⟩
            all_goals have G9 : Hid (w.grownBy z2 none) := hide ((unhide G8).trans g9)
            all_goals have M9 := hide ((unhide M8).grown g9 (by simp))
            all_goals have st9 := o9.sl.str
            all_goals clear g9 o9 M8 G8
            all_goals go_wp2_with fail
            all_goals refine (Free_any z2 b B U U (unhide M9)).mono ?_
            all_goals rintro e z3 ⟨rfl, g10⟩
            all_goals have G10 : Hid (w.grownBy z3 none) := hide ((unhide G9).trans g10)
            all_goals clear g10 M9 G9 st9
            all_goals go_wp2
            all_goals go_ret
            all_goals exact ⟨by simp, below_of_grown (unhide G10)⟩

set_option maxRecDepth 100000 in
theorem Resets.lifted (os : Os) (started : os.Started) (H : Type) (enc : TypeId × Value → H) :
    ReturnsInHanded {} Try.checked os 8 .any (Rows.allocResetsSpec.pre6 enc Try.prog Try.f8 Rows.allocResetsRow.domain false) (Rows.allocResetsSpec.post enc Try.prog Try.f8 false true false false) := by
  refine returnsInHanded_of_change (C := Try.checked) own_knob started (by kernel_rfl) Try.func8
    (ChangeSpec.witness6 (enc := enc) (C := Try.checked) false ⟨#[], #[.int .i64 0, .slice none 0 0, .slice none 0 0], []⟩ 8 (by kernel_rfl) (by kernel_rfl) (by kernel_rfl) (by kernel_rfl)) ?_
  intro W base args ds gs before hval0 hW hcnd _
  have hval : ∀ (j : Nat) t v, Try.f8.params[j]? = some t → args[j]? = some v → Value.okWide Try.prog W .any base t v := hval0
  have hW' := hW
  obtain ⟨p, q, hA0, hV, rfl, hfz, hnd⟩ := hW
  have hA : DataW.TrodAll enc Try.prog W 0 (fun _ => true) true Try.f8.params.toList args.toList ds p := hA0
  rw [Try.params8] at hA hval
  obtain ⟨v0, v1, v2, d0, d1, d2, p0, p1, p2, rfl, rfl, rfl, h0, h1, h2⟩ := trodAll_three hA
  obtain ⟨rfl, rfl⟩ := trodVars_none hV
  obtain ⟨a0, rfl, rfl, rfl, w0⟩ := open_int Try.underlying3 (hval 0 3 v0 rfl rfl) h0
  have k1 := h1
  have lt1 : ∀ x ∈ p1, x.block < W.heap.size := by obtain ⟨m, hm⟩ := k1; exact DataW.trod_lt m _ _ _ hm
  have k2 := h2
  have lt2 : ∀ x ∈ p2, x.block < W.heap.size := by obtain ⟨m, hm⟩ := k2; exact DataW.trod_lt m _ _ _ hm
  obtain ⟨a1, len1, cap1, rfl⟩ := okWide_slice Try.underlying22 (hval 1 22 v1 rfl rfl)
  obtain ⟨a2, len2, cap2, rfl⟩ := okWide_slice Try.underlying22 (hval 2 22 v2 rfl rfl)
  obtain ⟨l1, hl1⟩ := open_acalls h1
  obtain ⟨l2, hl2⟩ := open_acalls h2
  have b0 := bounds_i64 w0
  clear hA0 hval0
  refine (Resets.walk a0 _ _ l1 l2 W ⟨by omega, by omega⟩ hl1 hl2).mono fun e W' ⟨he, bel⟩ => ?_
  subst he
  exact ⟨_, rfl, _, _, _, [], _, [], hW', trodAll_mk1 (shut_bool Try.underlying4 _), (trodAll_cons_mk (shut_int Try.underlying3 w0) (trodAll_cons_mk (Below.trod laid_out (by kernel_rfl) (of_decide_eq_true (by kernel_rfl)) k1 bel lt1) (trodAll_cons_mk (Below.trod laid_out (by kernel_rfl) (of_decide_eq_true (by kernel_rfl)) k2 bel lt2) trodAll_mk0))), rfl, bel.frame _, fun h => by cases h⟩

theorem allocResets_holds : Rows.AllocResetsSaid :=
  OpenClaim.holds_of_wide 8 Try.f8 rfl rfl rfl rfl rfl rfl rfl ⟨rfl, rfl, rfl, rfl, rfl⟩ rfl rfl rfl rfl rfl (by kernel_rfl) Try.func8 (by kernel_rfl)
    (of_decide_eq_true (by kernel_rfl)) (by unfold Func.isWrapper; first | (rw [if_pos (by decide +kernel)]; kernel_rfl) | (rw [if_neg (by decide +kernel)]; exact ⟨rfl, rfl⟩))
    (fun os started H enc _ => Resets.lifted os started H enc)
#print axioms allocResets_holds
end Go.Proofs.Ytakddbieldgblaa
