/-
  SuperCounts: for every slice of slices of bytes and every slice of ints it returns true, and its arguments read as before. Conditions: none.
-/
import Derived.Test.YtbgaomfoiooegaaSrows
namespace Go.Proofs.Ytbgaomfoiooegaa
open Go.ChangeShapes Go.WideShapes Go.ChangeAt Go.RowKit
set_option linter.unusedVariables false

/-- How many of the first ones may be stored; and the last of them. -/
def cntT (ls : List (List UInt8)) : Nat → Nat
  | 0 => 0
  | j + 1 => if ((ls[j]?).getD []).length ≤ 400 then cntT ls j + 1 else cntT ls j
def lstT (ls : List (List UInt8)) : Nat → List UInt8
  | 0 => []
  | j + 1 => if ((ls[j]?).getD []).length ≤ 400 then (ls[j]?).getD [] else lstT ls j
theorem cntT_le (ls : List (List UInt8)) : ∀ j, cntT ls j ≤ j
  | 0 => Nat.le_refl _
  | j + 1 => by
    have := cntT_le ls j
    unfold cntT
    split <;> omega

/-- Store of what is too long. -/
theorem Store_long {w0 w : World} {b N : Nat} {F : Nat → Prop} {S : St} (h : Run w0 w b N F S) (hU : Up S) (k : Nat) (hk : k + 1 < 64) (x : Option Addr) (l q : Nat) (hl : 400 < l) :
    Calls Try.prog 17 #[.pointer (some ⟨b, 0, none⟩), .int .i64 k, .slice x l q] w fun r w' => r = .returned (.int .i64 31) ∧ Run w0 w' b N F S := by
  have hE : chkE S.safe.length k l = 31 := by rw [hU.len]; unfold chkE; rw [if_neg (by omega), if_pos hl]
  obtain ⟨g, c, m, vf, D, h0⟩ := h.dev
  refine (Store_bad k x l q h0.dev h0.n2 (by rw [hE]; decide)).mono ?_
  rintro r w' ⟨rfl, hb⟩
  exact ⟨by rw [hE], h.grown (hb _)⟩

/-- A record, and nothing pending. -/
structure Rests (S : St) (k : Nat) (n : Nat) (d : List UInt8) : Prop where
  up : Up S
  pend : ∀ n, S.pend n = []
  laid : (S.rcd k).laid = true
  count : (S.rcd k).count = n
  data : (S.rcd k).data = d
theorem Rests.burn {S : St} {k n : Nat} {d : List UInt8} (h : Rests S k n d) : Rests S.burn k n d := ⟨h.up.burn, h.pend, h.laid, h.count, h.data⟩
theorem Rests.crash {S : St} {k n : Nat} {d : List UInt8} (h : Rests S k n d) (hk : k + 1 < 64) (ps : List Int) : Rests (S.crash ps) k n d := by
  have e := crash_rcd (S := S) (k := k) ⟨h.pend k, h.pend (k + 1)⟩ (by rw [h.up.len]; exact hk) ps
  exact ⟨Up.crash S ps h.up.len, fun _ => rfl, by rw [e]; exact h.laid, by rw [e]; exact h.count, by rw [e]; exact h.data⟩
theorem Rests.put {S T : St} {k n m : Nat} {c : Int} {d f : List UInt8} (h : Rests S k n d) (hP : Put S T k c f) (hc : c = (m : Nat)) : Rests T k m f :=
  ⟨hP.isUp h.up, hP.pend, by rw [hP.rec_], by rw [hP.rec_]; exact hc, by rw [hP.rec_]⟩

set_option maxRecDepth 100000 in
set_option maxHeartbeats 3200000 in
theorem Counts.walk (a : Option Addr) (c : Nat) (ls : List (List UInt8)) (u : Value) (ps : List Int) (w : World) (hv : Sls w (.slice a ls.length c) ls) (hp : Ints w u ps) :
    Calls Try.prog 7 #[.slice a ls.length c, u] w fun e w' => e = .returned (.bool true) ∧ Below w.heap.size w w' := by
  have HV := hide hv
  have HP := hide hp
  clear hv hp
  have kc := fun (w : World) (C : Array Value) (n c : Nat) => Lib.run_convert_bytes_const (P := Try.prog) w 22 5 C n c Try.underlying22 Try.underlying5
  go_enter Try.func7, Try.ntmps7
  go_wp2_with fail
  refine (awake_any _).mono ?_
  rintro e w1 ⟨rfl, b1⟩
  have HB1 := hide b1
  clear b1
  go_wp2_with fail
  refine (New_run w w1 (unhide HB1)).mono ?_
  rintro e w2 ⟨rfl, r2, _⟩
  obtain ⟨b, hb⟩ : ∃ b, b = w1.heap.size + 2 := ⟨_, rfl⟩
  obtain ⟨F2, hF2⟩ : ∃ F2, F2 = (fun k => w1.heap.size ≤ k ∧ k < w2.heap.size) := ⟨_, rfl⟩
  rw [← hb, ← hF2] at r2
  rw [← hb]
  have R2 := hide r2
  clear r2 hb hF2 HB1
  go_wp2_with fail
  refine (Format_up (unhide R2) Up.new 20 (by omega) (by omega) none 0 [] (nil_sl _) (fun h => absurd rfl h) (by decide)).mono ?_
  rintro e w3 ⟨rfl, F3, T3, r3, p3, u3, _, _⟩
  have R3 := hide r3
  have P3 := hide p3
  clear r3 p3
  have T3r : Hid (Rests T3 20 0 []) := hide ⟨u3, (unhide P3).pend, by rw [(unhide P3).rec_], by rw [(unhide P3).rec_]; rfl, by rw [(unhide P3).rec_]⟩
  clear P3 u3
  go_wp2_with fail
  go_loopw [8, 9, 10] (fun m l i wr => ∃ (j : Nat) (F : Nat → Prop) (S : St), i = .int .i64 j ∧ m = .int .i64 (cntT ls j : Nat) ∧ l = .string ⟨(lstT ls j).toArray⟩ ∧ j ≤ ls.length ∧ j ≤ 40 ∧ Run w wr b (6 + 10 * j) F S ∧ Rests S 20 (cntT ls j) (lstT ls j)) (fun _ _ i _ => 40 - (intOf i).toNat)
  case atStart => exact ⟨0, F3, T3, rfl, rfl, rfl, Nat.zero_le _, Nat.zero_le _, (unhide R3), unhide T3r⟩
  case round =>
    obtain ⟨j, F, S, rfl, rfl, rfl, hj1, hj2, hR, hS⟩ := hrel
    have R0 := hide hR
    have S0 := hide hS
    have hcj := cntT_le ls j
    clear hR hS
    have hj0 : (0 : Int) ≤ (j : Int) := Int.natCast_nonneg _
    by_cases hlt : j < ls.length ∧ j < 40
    · obtain ⟨hl1, hl2⟩ := hlt
      obtain ⟨ao, cap, ev, hle, hvr⟩ := unhide HV
      obtain ⟨rfl, rfl⟩ : ao = a ∧ cap = c := by injection ev with e1 e2 e3; exact ⟨e1.symm, e3.symm⟩
      obtain ⟨pb, off, hao, hpb, hel⟩ := hvr (by omega)
      obtain ⟨a', c', hcell, hsl⟩ := hel j hl1
      obtain ⟨d, hd⟩ : ∃ d, d = ls[j] := ⟨_, rfl⟩
      have hgd : (ls[j]?).getD [] = d := by rw [List.getElem?_eq_getElem hl1, Option.getD_some, hd]
      rw [← hd] at hcell hsl
      have hix := idx_rows ao ls.length cap pb off j hao hl1
      have HC := hide hcell
      have HSL := hide hsl
      have c0 : wr.cell? ⟨pb, off + j, none⟩ = some (.slice a' d.length c') := ((unhide R0).bel.cell (p := ⟨pb, off + j, none⟩) hpb).trans hcell
      clear ev hle hvr hel hcell hsl hd hao
      have hj3 : (j : Int) < (ls.length : Int) := by omega
      have hj4 : (j : Int) < 40 := by omega
      by_cases hd4 : d.length ≤ 400
      · have EC : Hid (cntT ls (j + 1) = cntT ls j + 1 ∧ lstT ls (j + 1) = d) := hide (by rw [cntT, lstT, hgd, if_pos hd4, if_pos hd4]; exact ⟨rfl, rfl⟩)
        have hd5 : (d.length : Int) ≤ 400 := by omega
        clear hgd
        go_wp2_with fail
        refine (Store_up (unhide R0) (unhide S0).up 20 (by omega) (by omega) a' c' d ((unhide R0).sl (unhide HSL)) ((unhide R0).notF (unhide HSL)) hd4 (unhide S0).laid (by rw [(unhide S0).count]; omega)).mono ?_
        rintro e w5 ⟨rfl, F5, T5, r5, p5, u5, _, _⟩
        have S5 : Hid (Rests T5 20 (cntT ls j + 1) d) := hide ((unhide S0).put p5 (by rw [(unhide S0).count]; omega))
        have R5 := hide r5
        have c5 : w5.cell? ⟨pb, off + j, none⟩ = some (.slice a' d.length c') := (r5.bel.cell (p := ⟨pb, off + j, none⟩) hpb).trans (unhide HC)
        have q5 := (r5.sl (unhide HSL)).str
        clear r5 p5 u5 c0
        by_cases hm : j % 3 = 2
        · have hm' : (j : Int) % 3 = 2 := by omega
          go_wp2_with fail
          refine (Crash_run (unhide R5) (by omega) ps u (unhide HP)).mono ?_
          rintro e w6 ⟨rfl, r6, _⟩
          have R6 := hide r6
          have S6 := hide ((unhide S5).crash (by omega) ps)
          clear r6
          go_wp2_with fail
          refine (Load_up (unhide R6) (unhide S6).up 20 (by omega) (by omega) (unhide S6).laid).mono ?_
          rintro e w7 ⟨a7, n7, c7, rfl, l7, _, r7, _⟩
          rw [(unhide S6).count]
          rw [(unhide S6).data] at l7
          have q7 := l7.str
          have R7 := hide r7
          have S7 := hide (unhide S6).burn.burn
          clear r7 l7
          go_wp2
          refine ⟨⟨j + 1, _, _, rfl, ?_, ?_, by omega, by omega, ⟨(unhide R7).dev.mono (fun _ h => h) (by omega), (unhide R7).foot, (unhide R7).bel⟩, ?_⟩, ?_⟩
          · rw [(unhide EC).1]
            first | rfl | skip
          · rw [(unhide EC).2]
          · rw [(unhide EC).1, (unhide EC).2]; exact unhide S7
          · simp [intOf]
            omega
        · have hm' : ¬ (j : Int) % 3 = 2 := by omega
          go_wp2_with fail
          refine (Load_up (unhide R5) (unhide S5).up 20 (by omega) (by omega) (unhide S5).laid).mono ?_
          rintro e w7 ⟨a7, n7, c7, rfl, l7, _, r7, _⟩
          rw [(unhide S5).count]
          rw [(unhide S5).data] at l7
          have q7 := l7.str
          have R7 := hide r7
          have S7 := hide (unhide S5).burn.burn
          clear r7 l7
          go_wp2
          refine ⟨⟨j + 1, _, _, rfl, ?_, ?_, by omega, by omega, ⟨(unhide R7).dev.mono (fun _ h => h) (by omega), (unhide R7).foot, (unhide R7).bel⟩, ?_⟩, ?_⟩
          · rw [(unhide EC).1]
            first | rfl | skip
          · rw [(unhide EC).2]
          · rw [(unhide EC).1, (unhide EC).2]; exact unhide S7
          · simp [intOf]
            omega
      · have EC : Hid (cntT ls (j + 1) = cntT ls j ∧ lstT ls (j + 1) = lstT ls j) := hide (by rw [cntT, lstT, hgd, if_neg hd4, if_neg hd4]; exact ⟨rfl, rfl⟩)
        clear hgd
        go_wp2_with fail
        refine (Store_long (unhide R0) (unhide S0).up 20 (by omega) a' d.length c' (by omega)).mono ?_
        rintro e w5 ⟨rfl, r5⟩
        have S5 : Hid (Rests S 20 (cntT ls j) (lstT ls j)) := hide (unhide S0)
        have R5 := hide r5
        have c5 : w5.cell? ⟨pb, off + j, none⟩ = some (.slice a' d.length c') := (r5.bel.cell (p := ⟨pb, off + j, none⟩) hpb).trans (unhide HC)
        clear r5 c0
        by_cases hm : j % 3 = 2
        · have hm' : (j : Int) % 3 = 2 := by omega
          go_wp2_with fail
          refine (Crash_run (unhide R5) (by omega) ps u (unhide HP)).mono ?_
          rintro e w6 ⟨rfl, r6, _⟩
          have R6 := hide r6
          have S6 := hide ((unhide S5).crash (by omega) ps)
          clear r6
          go_wp2_with fail
          refine (Load_up (unhide R6) (unhide S6).up 20 (by omega) (by omega) (unhide S6).laid).mono ?_
          rintro e w7 ⟨a7, n7, c7, rfl, l7, _, r7, _⟩
          rw [(unhide S6).count]
          rw [(unhide S6).data] at l7
          have q7 := l7.str
          have R7 := hide r7
          have S7 := hide (unhide S6).burn.burn
          clear r7 l7
          go_wp2
          refine ⟨⟨j + 1, _, _, rfl, ?_, ?_, by omega, by omega, ⟨(unhide R7).dev.mono (fun _ h => h) (by omega), (unhide R7).foot, (unhide R7).bel⟩, ?_⟩, ?_⟩
          · rw [(unhide EC).1]
            first | rfl | skip
          · rw [(unhide EC).2]
          · rw [(unhide EC).1, (unhide EC).2]; exact unhide S7
          · simp [intOf]
            omega
        · have hm' : ¬ (j : Int) % 3 = 2 := by omega
          go_wp2_with fail
          refine (Load_up (unhide R5) (unhide S5).up 20 (by omega) (by omega) (unhide S5).laid).mono ?_
          rintro e w7 ⟨a7, n7, c7, rfl, l7, _, r7, _⟩
          rw [(unhide S5).count]
          rw [(unhide S5).data] at l7
          have q7 := l7.str
          have R7 := hide r7
          have S7 := hide (unhide S5).burn.burn
          clear r7 l7
          go_wp2
          refine ⟨⟨j + 1, _, _, rfl, ?_, ?_, by omega, by omega, ⟨(unhide R7).dev.mono (fun _ h => h) (by omega), (unhide R7).foot, (unhide R7).bel⟩, ?_⟩, ?_⟩
          · rw [(unhide EC).1]
            first | rfl | skip
          · rw [(unhide EC).2]
          · rw [(unhide EC).1, (unhide EC).2]; exact unhide S7
          · simp [intOf]
            omega
    · by_cases hlt1 : j < ls.length
      · have hj3 : (j : Int) < (ls.length : Int) := by omega
        have hj4 : ¬ (j : Int) < 40 := by omega
        go_wp2_with fail
        refine (Format_up ((unhide R0).grown ((Below.refl _ _).alloc (Nat.le_refl _) _)) (unhide S0).up 20 (by omega) (by omega) _ 4 [97, 110, 101, 119] (Sl.new wr [97, 110, 101, 119] (by simp [maxLen]) (4, 5)) ((unhide R0).newF 4 0) (by decide)).mono ?_
        rintro e w8 ⟨rfl, F8, T8, r8, p8, u8, _, _⟩
        have R8 := hide r8
        have x8 := p8.rec_
        clear r8 p8
        go_wp2_with fail
        refine (Load_up (unhide R8) u8 20 (by omega) (by omega) (by rw [x8])).mono ?_
        rintro e w9 ⟨a9, n9, c9, rfl, l9, _, r9, _⟩
        rw [x8] at l9 ⊢
        have q9 := l9.str
        have R9 := hide r9
        clear r9 l9
        go_wp2
        go_ret
        exact ⟨rfl, (unhide R9).bel⟩
      · have hj3 : ¬ (j : Int) < (ls.length : Int) := by omega
        go_wp2_with fail
        refine (Format_up ((unhide R0).grown ((Below.refl _ _).alloc (Nat.le_refl _) _)) (unhide S0).up 20 (by omega) (by omega) _ 4 [97, 110, 101, 119] (Sl.new wr [97, 110, 101, 119] (by simp [maxLen]) (4, 5)) ((unhide R0).newF 4 0) (by decide)).mono ?_
        rintro e w8 ⟨rfl, F8, T8, r8, p8, u8, _, _⟩
        have R8 := hide r8
        have x8 := p8.rec_
        clear r8 p8
        go_wp2_with fail
        refine (Load_up (unhide R8) u8 20 (by omega) (by omega) (by rw [x8])).mono ?_
        rintro e w9 ⟨a9, n9, c9, rfl, l9, _, r9, _⟩
        rw [x8] at l9 ⊢
        have q9 := l9.str
        have R9 := hide r9
        clear r9 l9
        go_wp2
        go_ret
        exact ⟨rfl, (unhide R9).bel⟩

set_option maxRecDepth 100000 in
theorem Counts.lifted (os : Os) (started : os.Started) (H : Type) (enc : TypeId × Value → H) :
    ReturnsInHanded {} Try.checked os 7 .any (Rows.superCountsSpec.pre6 enc Try.prog Try.f7 Rows.superCountsRow.domain false) (Rows.superCountsSpec.post enc Try.prog Try.f7 false true false false) := by
  refine returnsInHanded_of_change (C := Try.checked) own_knob started (by kernel_rfl) Try.func7
    (ChangeSpec.witness6 (enc := enc) (C := Try.checked) false ⟨#[], #[.slice none 0 0, .slice none 0 0], []⟩ 8 (by kernel_rfl) (by kernel_rfl) (by kernel_rfl) (by kernel_rfl)) ?_
  intro W base args ds gs before hval0 hW hcnd _
  have hval : ∀ (j : Nat) t v, Try.f7.params[j]? = some t → args[j]? = some v → Value.okWide Try.prog W .any base t v := hval0
  have hW' := hW
  obtain ⟨p, q, hA0, hV, rfl, hfz, hnd⟩ := hW
  have hA : DataW.TrodAll enc Try.prog W 0 (fun _ => true) true Try.f7.params.toList args.toList ds p := hA0
  rw [Try.params7] at hA hval
  obtain ⟨v0, v1, d0, d1, p0, p1, rfl, rfl, rfl, h0, h1⟩ := trodAll_two hA
  obtain ⟨rfl, rfl⟩ := trodVars_none hV
  obtain ⟨a0, len0, cap0, rfl⟩ := okWide_slice Try.underlying52 (hval 0 52 v0 rfl rfl)
  obtain ⟨a1, len1, cap1, rfl⟩ := okWide_slice Try.underlying35 (hval 1 35 v1 rfl rfl)
  have k0 := h0
  have lt0 : ∀ x ∈ p0, x.block < W.heap.size := by obtain ⟨m, hm⟩ := k0; exact DataW.trod_lt m _ _ _ hm
  have k1 := h1
  have lt1 : ∀ x ∈ p1, x.block < W.heap.size := by obtain ⟨m, hm⟩ := k1; exact DataW.trod_lt m _ _ _ hm
  obtain ⟨l0, hl0⟩ := open_rows h0
  obtain ⟨l1, hl1⟩ := open_intl h1
  obtain rfl : len0 = l0.length := by obtain ⟨ao, cap, e, _⟩ := hl0; injection e
  clear hA0 hval0
  refine (Counts.walk a0 cap0 l0 _ l1 W hl0 hl1).mono fun e W' ⟨he, bel⟩ => ?_
  subst he
  exact ⟨_, rfl, _, _, _, [], _, [], hW', trodAll_mk1 (shut_bool Try.underlying4 _), (trodAll_cons_mk (Below.trod laid_out (by kernel_rfl) (of_decide_eq_true (by kernel_rfl)) k0 bel lt0) (trodAll_cons_mk (Below.trod laid_out (by kernel_rfl) (of_decide_eq_true (by kernel_rfl)) k1 bel lt1) trodAll_mk0)), rfl, bel.frame _, fun h => by cases h⟩

theorem superCounts_holds : Rows.SuperCountsSaid :=
  OpenClaim.holds_of_wide 7 Try.f7 rfl rfl rfl rfl rfl rfl rfl ⟨rfl, rfl, rfl, rfl, rfl⟩ rfl rfl rfl rfl rfl (by kernel_rfl) Try.func7 (by kernel_rfl)
    (of_decide_eq_true (by kernel_rfl)) (by unfold Func.isWrapper; first | (rw [if_pos (by decide +kernel)]; kernel_rfl) | (rw [if_neg (by decide +kernel)]; exact ⟨rfl, rfl⟩))
    (fun os started H enc _ => Counts.lifted os started H enc)
#print axioms superCounts_holds
end Go.Proofs.Ytbgaomfoiooegaa
