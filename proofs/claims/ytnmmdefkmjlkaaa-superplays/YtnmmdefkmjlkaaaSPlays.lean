/-
  SuperPlays: for every int, slice of bytes and slice of calls it returns true, and its arguments read as before.
-/
import Derived.Test.YtnmmdefkmjlkaaaM5
import Derived.OpenShut
namespace Go.Proofs.Ytnmmdefkmjlkaaa
open Go.ChangeShapes Go.WideShapes Go.ChangeAt Go.RowKit
set_option linter.unusedVariables false

theorem Ints.belowL {B : Nat} {w w' : World} {v : Value} {l : List Int} (h : Ints w v l) (hb : Below B w w') (hB : w.heap.size ≤ B) : Ints w' v l := h.belowS hb hB
theorem FitR.first {T : St} {k : Nat} {d : List UInt8} (hk : k + 1 < 64) (hp : Put (St.new 64) T k 0 d) : FitR T k ⟨true, false, d, [], 0⟩ := by
  have hc : T.calm k := ⟨hp.pend _, hp.pend _⟩
  have hl : T.safe.length = 64 := hp.len.trans List.length_replicate
  have hf : Fine (T.rcd k) ⟨true, false, d, [], 0⟩ := by rw [hp.rec_]; exact ⟨rfl, .inl ⟨rfl, rfl⟩⟩
  exact ⟨hl, rfl, Int.le_refl _, fun _ => ⟨hc, hf⟩, fun ps => by rw [crash_rcd hc (by rw [hl]; exact hk)]; exact hf⟩
/-- Where the law's loop stands. -/
structure PSt (w0 w : World) (b q k i : Nat) : Prop where
  ex : ∃ N F S R, Sp w0 w b q N F S R ∧ FitR S k R ∧ N ≤ 10 + 8 * i ∧ R.count ≤ 2 * i
set_option maxRecDepth 20000 in
set_option maxHeartbeats 16000000 in
theorem SPlays.walk (at_ : Int) (a : Option Addr) (c : Nat) (f : List UInt8) (vs : Value) (cs : List LCl) (B : Nat) (w : World) (hat : I64 at_) (hv : Sl w (.slice a f.length c) f) (hcs : LClL w vs cs B) (hB : B ≤ 140737488351232) :
    Calls Try.prog 3 #[.int .i64 at_, .slice a f.length c, vs] w fun e w' => e = .returned (.bool true) ∧ Below w.heap.size w w' := by
  have HV := hide hv
  obtain ⟨ao, cap, rfl, hcl, hc4⟩ := hcs
  have HC4 := hide hc4
  have hfl : f.length ≤ 9223372036854775807 := by obtain ⟨_, _, e, h1, h2, _⟩ := hv; unfold maxLen at h2; omega
  clear hv hc4
  go_enter Try.func3, Try.ntmps3
  go_wp2_with fail
  refine (awake_any w).mono ?_
  rintro e w1 ⟨rfl, b1⟩
  have B1 := hide b1
  clear b1
  go_wp2_with fail
  refine (New_run w w1 (unhide B1)).mono ?_
  rintro e w2 ⟨rfl, r2, b2⟩
  have R2 := hide r2
  have HNF := hide ((unhide R2).notF (unhide HV))
  have HSL := hide ((unhide R2).sl (unhide HV))
  obtain ⟨b, hb⟩ : ∃ b, b = w1.heap.size + 2 := ⟨_, rfl⟩
  rw [← hb] at R2 ⊢
  clear r2 b2 hb
  by_cases hbad : at_ < 0 ∨ 62 < at_
  · have FR := hide (Format_refused (unhide R2) at_ a f.length c 20 (by unfold chkE; rw [if_pos]; show at_ < 0 ∨ at_ > ((St.new 64).safe.length : Int) - 2; rw [show (St.new 64).safe.length = 64 from List.length_replicate]; omega) (by decide))
    rcases hbad with h1 | h1
    · go_wp2_with fail
      refine (unhide FR).mono ?_
      rintro e w3 ⟨rfl, r3⟩
      have B3 := hide r3.bel
      clear r3
      go_wp2
      go_ret
      exact ⟨rfl, unhide B3⟩
    · have h2 : ¬ at_ < 0 := by omega
      go_wp2_with fail
      refine (unhide FR).mono ?_
      rintro e w3 ⟨rfl, r3⟩
      have B3 := hide r3.bel
      clear r3
      go_wp2
      go_ret
      exact ⟨rfl, unhide B3⟩
  · have n1 : ¬ at_ < 0 := fun h => hbad (.inl h)
    have n2 : ¬ 62 < at_ := fun h => hbad (.inr h)
    obtain ⟨k, rfl⟩ : ∃ k : Nat, at_ = (k : Int) := ⟨at_.toNat, by omega⟩
    have hk : k + 1 < 64 := by omega
    have hk62 : ¬ (62 : Int) < (k : Int) := n2
    clear hbad n1 hat
    by_cases h4 : 400 < f.length
    · have h4I : (400 : Int) < (f.length : Int) := by omega
      have FR := hide (Format_refused (unhide R2) (k : Int) a f.length c 31 (by unfold chkE; rw [if_neg, if_pos h4]; show ¬ ((k : Int) < 0 ∨ (k : Int) > ((St.new 64).safe.length : Int) - 2); rw [show (St.new 64).safe.length = 64 from List.length_replicate]; omega) (by decide))
      go_wp2_with fail
      refine (unhide FR).mono ?_
      rintro e w3 ⟨rfl, r3⟩
      have LN := hide (Load_no r3 Up.new k hk (by omega) (by rw [new_rcd k hk]; rfl))
      clear r3
      go_wp2_with fail
      refine (unhide LN).mono ?_
      rintro e w4 ⟨rfl, r4, k4⟩
      have B4 := hide r4.bel
      clear r4 k4
      go_wp2
      go_ret
      exact ⟨rfl, unhide B4⟩
    · have h4I : ¬ (400 : Int) < (f.length : Int) := by omega
      have FU := hide (Format_up (unhide R2) Up.new k hk (by omega) a c f (unhide HSL) (unhide HNF) (by omega))
      go_wp2_with fail
      refine (unhide FU).mono ?_
      rintro e w3 ⟨rfl, F3, T3, r3, p3, u3, f3, k3⟩
      have R3 := hide r3
      have FT3 := hide (FitR.first hk p3)
      have cv3 := ((unhide R3).sl (unhide HV)).str
      obtain ⟨w4, hw4⟩ : ∃ w4, w4 = w3.alloc (.cells (rcC ⟨true, false, f, [], 0⟩) 34) := ⟨_, rfl⟩
      have b4 : Below w3.heap.size w3 w4 := by rw [hw4]; exact (Below.refl _ _).alloc (Nat.le_refl _) _
      have P0 : Hid (PSt w w4 b w3.heap.size k 0) := hide ⟨0 + 6, F3, T3, _, ⟨(unhide R3).grown b4, (by unfold RcAt; rw [hw4]; exact heap_alloc_self _ _), (fun hf => by have := (unhide R3).foot _ hf; omega), (unhide R3).bel.size⟩, unhide FT3, by omega, by show (0 : Int) ≤ _; omega⟩
      have HW4 := hide hw4
      obtain ⟨q, hq⟩ : ∃ q, q = w3.heap.size := ⟨_, rfl⟩
      rw [← hq] at P0
      have HQ := hide hq
      clear r3 p3 u3 f3 k3 hw4 b4 FU R2 HSL HNF B1 FT3 hq
      go_wp2_with fail
      rw [← unhide HW4, ← unhide HQ]
      clear HW4 HQ R3 cv3
      obtain ⟨n, hn⟩ : ∃ n, n = cs.length := ⟨_, rfl⟩
      have HN := hide hn
      rw [← hn] at hcl ⊢
      clear hn
      go_loopw [15] (fun i wr => ∃ j : Nat, i = .int .i64 (j : Int) ∧ j ≤ n ∧ j ≤ 200 ∧ Hid (PSt w wr b q k j)) (fun i _ => n - (intOf i).toNat)
      case atStart => exact ⟨0, rfl, by omega, by omega, P0⟩
      case round =>
        obtain ⟨j, rfl, hj, hj2, HP⟩ := hrel
        clear P0
        obtain ⟨N, F, S, R, sp, fit, hNj, hRj⟩ := (unhide HP).ex
        have SPH := hide sp
        have FITH := hide fit
        have hlow := fit.low
        clear sp fit HP
        by_cases hlt : j < n ∧ j < 200
        · obtain ⟨hl1, hl2⟩ := hlt
          have hlI : (j : Int) < (n : Int) := by omega
          have hlI2 : (j : Int) < 200 := by omega
          have hjc : j < cs.length := by have := unhide HN; omega
          obtain ⟨sb, off, hao, hsb, hcc⟩ := unhide HC4 (by omega)
          subst hao
          have LC := hcc j hjc
          obtain ⟨x, hx⟩ : ∃ x, x = cs[j] := ⟨_, rfl⟩
          rw [← hx] at LC
          have hbel := (unhide SPH).run.bel
          have d0 := (hbel.cell (p := ⟨sb, off + j * 4, none⟩) hsb).trans LC.c0
          have d1 := (hbel.cell (p := ⟨sb, off + j * 4 + 1, none⟩) hsb).trans LC.c1
          obtain ⟨da, dc, e2, sl2⟩ := LC.c2
          obtain ⟨pv, e3, in3⟩ := LC.c3
          have d2 := (hbel.cell (p := ⟨sb, off + j * 4 + 2, none⟩) hsb).trans e2
          have d3 := (hbel.cell (p := ⟨sb, off + j * 4 + 3, none⟩) hsb).trans e3
          have hi1 := LC.i1
          have hdl := LC.dl
          have HSD := hide sl2
          have HIN := hide in3
          obtain ⟨kind, cn, cd, cp⟩ := x
          simp only at d0 d1 d2 d3 hi1 hdl HSD HIN
          obtain ⟨pa, pn, pc, hpv⟩ : ∃ pa pn pc, pv = .slice pa pn pc := by obtain ⟨ao, cap', e, _⟩ := unhide HIN; exact ⟨_, _, _, e⟩
          subst hpv
          obtain ⟨dl, hdle⟩ : ∃ dl, dl = cd.length := ⟨_, rfl⟩
          have HDL := hide hdle
          rw [← hdle] at d2
          obtain ⟨w5, hw5⟩ : ∃ w5, w5 = wr.alloc (.cells #[.int .i64 kind, .int .i64 cn, .slice da dl dc, .slice pa pn pc] 37) := ⟨_, rfl⟩
          have b5 : Below wr.heap.size wr w5 := by rw [hw5]; exact (Below.refl _ _).alloc (Nat.le_refl _) _
          have S5 := hide ((unhide SPH).grown b5)
          have t5 : wr.heap.size < w5.heap.size := by rw [hw5]; simp
          have HB5 : Hid (w5.heap[wr.heap.size]? = some (.cells #[.int .i64 kind, .int .i64 cn, .slice da dl dc, .slice pa pn pc] 37 (0, 0))) := hide (by rw [hw5]; exact heap_alloc_self _ _)
          have CX : Hid (∀ W : World, W.heap[wr.heap.size]? = some (.cells #[.int .i64 kind, .int .i64 cn, .slice da dl dc, .slice pa pn pc] 37 (0, 0)) → W.cell? ⟨wr.heap.size, 0, none⟩ = some (.int .i64 kind) ∧ W.cell? ⟨wr.heap.size, 1, none⟩ = some (.int .i64 cn) ∧ W.cell? ⟨wr.heap.size, 2, none⟩ = some (.slice da dl dc) ∧ W.cell? ⟨wr.heap.size, 3, none⟩ = some (.slice pa pn pc)) := hide (fun W h => ⟨(cell_of_row _ _ _ _ _ _ h).trans rfl, (cell_of_row _ _ _ _ _ _ h).trans rfl, (cell_of_row _ _ _ _ _ _ h).trans rfl, (cell_of_row _ _ _ _ _ _ h).trans rfl⟩)
          have hnF : ¬ F wr.heap.size := fun hf => by have := (unhide SPH).run.foot _ hf; omega
          have hnq : wr.heap.size ≠ q := fun e => by have := (unhide SPH).rc.lt; omega
          have r1 := (unhide S5).rc.c1
          have hq5 := (unhide S5).rc.lt
          have hqr := (unhide SPH).rc.lt
          have HW5 := hide hw5
          have LD := hide (spLoad (unhide S5) (unhide FITH) hk (by omega) (by omega))
          have ST := hide (fun (W : World) (N' : Nat) (F' : Nat → Prop) (S' : St) (R' : Rc) (h1 : Sp w W b q N' F' S' R') (h2 : FitR S' k R') (h3 : S'.down = false → R'.other = false) (h4 : N' < 700000) (h5 : R'.count < 900000) => spStore h1 h2 h3 hk h4 h5 da dc cd (unhide HSD) (by omega))
          rw [← unhide HDL] at ST
          clear hx LC hcc e2 sl2 e3 in3 hbel hw5 b5 hdle
          by_cases k1 : kind = 1
          · subst k1
            cases hro : R.other with
            | true =>
              rw [hro] at r1
              have r1' : wr.cell? ⟨q, 1, none⟩ = some (.bool true) := by have := (unhide SPH).rc.c1; rw [hro] at this; exact this
              go_wp2_with fail
              rw [← unhide HW5]
              refine (unhide LD).mono ?_
              rintro e w6 ⟨rfl, kp6, T6, R6, s6, ft6, ot6, ct6⟩
              obtain ⟨y0, y1, y2, y3⟩ := unhide CX w6 ((kp6 _ t5 hnF hnq).trans (unhide HB5))
              have ST6 := hide (unhide ST w6 _ F T6 R6 s6 ft6 ot6 (by omega) (by omega))
              have CT := hide ct6
              clear kp6 s6 ft6 ot6 ct6 LD ST
              go_wp2_with fail
              refine (unhide ST6).mono ?_
              rintro e w7 ⟨rfl, F7, T7, R7, s7, ft7, ct7⟩
              have P7 : Hid (PSt w w7 b q k (j + 1)) := hide ⟨_, F7, T7, R7, s7, ft7, by omega, by have := unhide CT; omega⟩
              clear s7 ft7 ct7 ST6
              go_wp2
              go_roundw
              case rel => exact ⟨j + 1, by go_num, by omega, by omega, P7⟩
              case measure => simp [intOf]; omega
            | false =>
              have r1' : wr.cell? ⟨q, 1, none⟩ = some (.bool false) := by have := (unhide SPH).rc.c1; rw [hro] at this; exact this
              have ST6 := hide (unhide ST w5 _ F S R (unhide S5) (unhide FITH) (fun _ => hro) (by omega) (by omega))
              clear LD ST r1
              go_wp2_with fail
              rw [← unhide HW5]
              refine (unhide ST6).mono ?_
              rintro e w7 ⟨rfl, F7, T7, R7, s7, ft7, ct7⟩
              have P7 : Hid (PSt w w7 b q k (j + 1)) := hide ⟨_, F7, T7, R7, s7, ft7, by omega, by omega⟩
              clear s7 ft7 ct7 ST6
              go_wp2
              go_roundw
              case rel => exact ⟨j + 1, by go_num, by omega, by omega, P7⟩
              case measure => simp [intOf]; omega
          · by_cases k2 : kind = 2
            · subst k2
              clear ST k1
              go_wp2_with fail
              rw [← unhide HW5]
              refine (unhide LD).mono ?_
              rintro e w6 ⟨rfl, kp6, T6, R6, s6, ft6, ot6, ct6⟩
              have P7 : Hid (PSt w w6 b q k (j + 1)) := hide ⟨_, F, T6, R6, s6, ft6, by omega, by omega⟩
              clear kp6 s6 ft6 ot6 ct6 LD
              go_wp2
              go_roundw
              case rel => exact ⟨j + 1, by go_num, by omega, by omega, P7⟩
              case measure => simp [intOf]; omega
            · by_cases k3 : kind = 3
              · subst k3
                clear ST LD k1 k2
                go_wp2_with fail
                rw [← unhide HW5]
                refine (Fuse_run (unhide S5).run cn hi1.1 hi1.2).mono ?_
                rintro e w6 ⟨rfl, r6, kp6⟩
                have P7 : Hid (PSt w w6 b q k (j + 1)) := hide ⟨_, F, _, R, (unhide S5).kept r6 kp6 (fun j hj => .inl hj), (unhide FITH).fuse cn, by omega, by omega⟩
                clear r6 kp6
                go_wp2
                go_roundw
                case rel => exact ⟨j + 1, by go_num, by omega, by omega, P7⟩
                case measure => simp [intOf]; omega
              · by_cases k4 : kind = 4
                · subst k4
                  clear ST LD k1 k2 k3
                  go_wp2_with fail
                  rw [← unhide HW5]
                  refine (Crash_run (unhide S5).run (by omega) cp _ (unhide HIN)).mono ?_
                  rintro e w6 ⟨rfl, r6, kp6⟩
                  have P7 : Hid (PSt w w6 b q k (j + 1)) := hide ⟨_, F, _, R, (unhide S5).kept r6 kp6 (fun j hj => .inl hj), (unhide FITH).crashed hk cp, by omega, by omega⟩
                  clear r6 kp6
                  go_wp2
                  go_roundw
                  case rel => exact ⟨j + 1, by go_num, by omega, by omega, P7⟩
                  case measure => simp [intOf]; omega
                · have P7 : Hid (PSt w w5 b q k (j + 1)) := hide ⟨_, F, S, R, unhide S5, unhide FITH, by omega, by omega⟩
                  clear ST LD
                  rw [unhide HW5] at P7
                  go_wp2
                  go_roundw
                  case rel => exact ⟨j + 1, by go_num, by omega, by omega, P7⟩
                  case measure => simp [intOf]; omega
        · have FIN : Hid (∀ w5 : World, w5 = wr → Calls Try.prog 11 #[.pointer (some ⟨b, 0, none⟩), .slice none 0 0] w5 fun e w' => e = .returned (.tuple #[]) ∧ Sp w w' b q N F (S.crash []) R) := hide (fun w5 e => by
            subst e
            refine (Crash_run (unhide SPH).run (by omega) [] _ (ints_nil w)).mono ?_
            rintro e w' ⟨rfl, r', k'⟩
            exact ⟨rfl, (unhide SPH).kept r' k' (fun j hj => .inl hj)⟩)
          have FC := hide ((unhide FITH).crashed hk [])
          by_cases hx : j < n
          · have hx1 : (j : Int) < (n : Int) := by omega
            have hx2 : ¬ (j : Int) < 200 := by omega
            go_wp2_with fail
            refine (unhide FIN wr rfl).mono ?_
            rintro e w6 ⟨rfl, s6⟩
            have LD := hide (spLoad s6 (unhide FC) hk (by omega) (by omega))
            clear s6
            go_wp2_with fail
            refine (unhide LD).mono ?_
            rintro e w7 ⟨rfl, kp7, T7, R7, s7, ft7, ot7, ct7⟩
            have B7 := hide s7.run.bel
            clear kp7 s7 ft7 ot7 ct7
            go_wp2
            go_ret
            exact ⟨rfl, unhide B7⟩
          · have hx1 : ¬ (j : Int) < (n : Int) := by omega
            go_wp2_with fail
            refine (unhide FIN wr rfl).mono ?_
            rintro e w6 ⟨rfl, s6⟩
            have LD := hide (spLoad s6 (unhide FC) hk (by omega) (by omega))
            clear s6
            go_wp2_with fail
            refine (unhide LD).mono ?_
            rintro e w7 ⟨rfl, kp7, T7, R7, s7, ft7, ot7, ct7⟩
            have B7 := hide s7.run.bel
            clear kp7 s7 ft7 ot7 ct7
            go_wp2
            go_ret
            exact ⟨rfl, unhide B7⟩

set_option maxRecDepth 100000 in
theorem SPlays.lifted (os : Os) (started : os.Started) (H : Type) (enc : TypeId × Value → H) :
    ReturnsInHanded {} Try.checked os 3 .any (Rows.superPlaysSpec.pre6 enc Try.prog Try.f3 Rows.superPlaysRow.domain false) (Rows.superPlaysSpec.post enc Try.prog Try.f3 false true false false) := by
  refine returnsInHanded_of_change_sized (C := Try.checked) own_knob started (by kernel_rfl) Try.func3
    (ChangeSpec.witness6 (enc := enc) (C := Try.checked) false ⟨#[], #[.int .i64 0, .slice none 0 0, .slice none 0 0], []⟩ 8 (by kernel_rfl) (by kernel_rfl) (by kernel_rfl) (by kernel_rfl)) ?_
  intro W base args ds gs before hval0 hW hcnd hsz0 hholds
  have hval : ∀ (j : Nat) t v, Try.f3.params[j]? = some t → args[j]? = some v → Value.okWide Try.prog W .any base t v := hval0
  have hsz : (DataW.weightsEach Try.prog (Try.f3.params.toList ++ Rows.superPlaysSpec.plain.varTypes Try.prog) (ds ++ gs)).all (· ≤ reachBytes) = true := hsz0
  have hW' := hW
  obtain ⟨p, q, hA0, hV, rfl, hfz, hnd⟩ := hW
  have hA : DataW.TrodAll enc Try.prog W 0 (fun _ => true) true Try.f3.params.toList args.toList ds p := hA0
  rw [Try.params3] at hA hval hsz
  obtain ⟨v0, v1, v2, d0, d1, d2, p0, p1, p2, rfl, rfl, rfl, h0, h1, h2⟩ := trodAll_three hA
  obtain ⟨rfl, rfl⟩ := trodVars_none hV
  obtain ⟨a0, rfl, rfl, rfl, w0⟩ := open_int Try.underlying3 (hval 0 3 v0 rfl rfl) h0
  have k1 := h1
  have k2 := h2
  have lt1 : ∀ x ∈ p1, x.block < W.heap.size := by obtain ⟨m, hm⟩ := k1; exact DataW.trod_lt m _ _ _ hm
  have lt2 : ∀ x ∈ p2, x.block < W.heap.size := by obtain ⟨m, hm⟩ := k2; exact DataW.trod_lt m _ _ _ hm
  obtain ⟨a1, len1, cap1, rfl⟩ := okWide_slice Try.underlying22 (hval 1 22 v1 rfl rfl)
  obtain ⟨a2, len2, cap2, rfl⟩ := okWide_slice Try.underlying23 (hval 2 23 v2 rfl rfl)
  obtain ⟨f, hf, _⟩ := open_bytes h1
  obtain rfl := hf.lenEq
  have hB : ∀ x ∈ d2.weights Try.prog 23, x ≤ 140737488351232 := fun x hx => by
    have := List.all_eq_true.1 hsz x (DataW.weights_mem_each (j := 2) (t := 23) rfl rfl x hx)
    have := of_decide_eq_true this
    simp only [reachBytes] at this
    omega
  obtain ⟨l2, hl2⟩ := open_lcalls h2 hB
  have b0 := bounds_i64 w0
  clear hA0 hval0 hsz0
  refine (SPlays.walk a0 a1 cap1 f _ l2 _ W ⟨by omega, by omega⟩ hf hl2 (Nat.le_refl _)).mono fun e W' ⟨he, bel⟩ => ?_
  subst he
  exact ⟨_, rfl, _, _, _, [], _, [], hW', trodAll_mk1 (shut_bool Try.underlying4 _), (trodAll_cons_mk (shut_int Try.underlying3 w0) (trodAll_cons_mk (Below.trod laid_out (by kernel_rfl) (of_decide_eq_true (by kernel_rfl)) k1 bel lt1) (trodAll_cons_mk (Below.trod laid_out (by kernel_rfl) (of_decide_eq_true (by kernel_rfl)) k2 bel lt2) trodAll_mk0))), rfl, bel.frame _, fun h => by cases h⟩

theorem superPlays_holds : Rows.SuperPlaysSaid :=
  OpenClaim.holds_of_wide 3 Try.f3 rfl rfl rfl rfl rfl rfl rfl ⟨rfl, rfl, rfl, rfl, rfl⟩ rfl rfl rfl rfl rfl (by kernel_rfl) Try.func3 (by kernel_rfl)
    (of_decide_eq_true (by kernel_rfl)) (by unfold Func.isWrapper; first | (rw [if_pos (by decide +kernel)]; kernel_rfl) | (rw [if_neg (by decide +kernel)]; exact ⟨rfl, rfl⟩))
    (fun os started H enc _ => SPlays.lifted os started H enc)
#print axioms superPlays_holds
end Go.Proofs.Ytnmmdefkmjlkaaa
