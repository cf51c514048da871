/-
  DERIVED. The reader: chunks.
-/
import Derived.Test.YtankbanonbmffabGreatDoorRqU
namespace Go.Proofs.YtankbanonbmffabGreatDoor
open Go.RowKit
set_option linter.unusedVariables false

theorem qEnd_none {x : List UInt8} {k : Nat} (h : x[k]? = none) : qEnd (x.drop k) = .no 0 := by
  rw [List.drop_of_length_le (List.getElem?_eq_none_iff.1 h)]; rfl
theorem qEnd_bad {x : List UInt8} {k : Nat} {b : UInt8} (h : x[k]? = some b) (hb : b.toNat ≠ 13) : qEnd (x.drop k) = .no 400 := by
  rw [drop_cons h, qEnd_two]; simp [qNext, Rs.then, hb]
theorem qEnd_lf {x : List UInt8} {k : Nat} {b : UInt8} (h : x[k]? = some b) (hb : b.toNat = 13) : qEnd (x.drop k) = (qLF (x.drop (k + 1))).up 1 := by
  rw [drop_cons h, qEnd_two, then_ok (show qNext (b :: x.drop (k + 1)) = .ok b 1 from rfl), if_pos hb]; rfl

theorem qLF_ok {s : List UInt8} {a : Unit} {m : Nat} (h : qLF s = .ok a m) : m = 1 := by
  rcases s with _ | ⟨b, r⟩
  · cases h
  · simp only [qLF] at h
    split at h
    · cases h; rfl
    · cases h

def btMe (w : World) (b : Nat) : Nat := match w.cell? ⟨b, 1, none⟩ with
  | some (.slice _ n _) => 2000 - n
  | _ => 0
theorem btMe_eq {w : World} {b : Nat} {l : List UInt8} (h : BtAt w b l) : btMe w b = 2000 - l.length := by
  obtain ⟨p, v, h1, h2, h3⟩ := h
  obtain ⟨ao, cap, e, _⟩ := h3.sl
  unfold btMe
  rw [show w.cell? ⟨b, 1, none⟩ = some v from (cell_of_row _ _ _ _ _ _ h1).trans rfl, e]

set_option maxHeartbeats 16000000 in
set_option maxRecDepth 20000 in
theorem chunks_any (g : Nat) (R : Rd) (w : World) (h : RdAt w g R) : Calls Tryz.prog 22 #[.pointer (some ⟨g, 0, none⟩)] w (BEnds (qChunks 1001 [] (R.s.drop R.at')) g R w) := by
  obtain ⟨x, hx⟩ : ∃ x, x = R.s.drop R.at' := ⟨_, rfl⟩
  have HX : Hid (∀ k, (R.go k).s.drop (R.go k).at' = x.drop k) := hide (fun k => by rw [hx, List.drop_drop]; rfl)
  have HXG : Hid (∀ k, (R.go k).s[(R.go k).at']? = x[k]?) := hide (fun k => by rw [hx, List.getElem?_drop]; rfl)
  obtain ⟨b, hb⟩ : ∃ b, b = w.heap.size := ⟨_, rfl⟩
  have hgb : g < b := by rw [hb]; exact h.lt
  have HGB := hide hgb
  have HB0 := hide hb
  have HT0 : Hid (BtAt (w.alloc (.cells #[.pointer none, .slice none 0 0] 62)) b []) := hide (by rw [hb]; exact BtAt.new w)
  have HQ0 : Hid (QF g w (w.alloc (.cells #[.pointer none, .slice none 0 0] 62))) := hide ((QF.refl g w).alloc _)
  have HR0 : Hid (RdAt (w.alloc (.cells #[.pointer none, .slice none 0 0] 62)) g (R.go 0)) := hide (h.same (Below.heap_alloc w _ g h.lt))
  have HC := hide (size_any g (R.go 0) _ (unhide HR0))
  rw [unhide HX, List.drop_zero] at HC
  obtain ⟨F, hF⟩ : ∃ F, F = qChunks 1001 [] x := ⟨_, rfl⟩
  have HF := hide hF
  rw [← hx, ← hF]
  have HErr : Hid (∀ s, F = .no s → ∀ w', QF g w w' → BEnds F g R w (panQ s) w') := hide (fun s hs w' hb => by rw [hs]; exact ⟨rfl, hb⟩)
  have HOk : Hid (∀ y k, F = .ok y k → ∀ w', RdAt w' g { R.go k with b := y } → QF g w w' → BEnds F g R w (.returned (.tuple #[])) w') := hide (fun y k ho w' h1 h3 => by rw [ho]; exact ⟨⟨rfl, h1⟩, h3⟩)
  clear hx hF h hgb
  cases hq : qSizeL x with
  | no s =>
    rw [hq] at HC
    have HE : Hid (F = .no s) := hide (by rw [unhide HF, qChunks_no hq])
    clear hq hb
    go_enter Tryz.func22, Tryz.ntmps22
    go_upto_region 1 with fail
    obtain ⟨w0, hw0⟩ : ∃ w0, w0 = w.alloc (.cells #[.pointer none, .slice none 0 0] 62) := ⟨_, rfl⟩
    rw [← hw0] at HC HQ0 ⊢
    clear hw0 HT0 HR0
    go_wp2_with (go_at_call 40; refine (unhide HC).mono ?_; rintro e w1 ⟨rfl, q1⟩; have HQ1 := hide ((unhide HQ0).trans q1); clear q1)
    exact ⟨rfl, unhide HErr _ (unhide HE) _ (unhide HQ1)⟩
  | ok z n =>
    rw [hq] at HC
    have HA0 := hide (ChAt.first hq)
    clear hq
    go_enter Tryz.func22, Tryz.ntmps22
    go_upto_region 1 with fail
    rw [← hb]
    clear hb
    obtain ⟨w0, hw0⟩ : ∃ w0, w0 = w.alloc (.cells #[.pointer none, .slice none 0 0] 62) := ⟨_, rfl⟩
    rw [← hw0] at HC HQ0 HR0 HT0 ⊢
    clear hw0
    go_wp2_with (go_at_call 40; refine (unhide HC).mono ?_; rintro e w1 ⟨⟨rfl, r1⟩, q1⟩; have HQ1 := hide ((unhide HQ0).trans q1); have HT1 := hide ((unhide HT0).qf q1 (unhide HR0)); have HR1 : Hid (RdAt w1 g (R.go (0 + n))) := hide (by rw [Nat.zero_add]; exact r1); clear q1 r1)
    go_loopw [3] (fun nv wr => ∃ (body : List UInt8) (c n z : Nat), nv = .int .i64 (z : Int) ∧ Hid (ChAt x body c n z) ∧ Hid (RdAt wr g (R.go (c + n))) ∧ Hid (BtAt wr b body) ∧ Hid (QF g w wr)) (fun _ wr => btMe wr b)
    case atStart => exact ⟨[], 0, n, z, rfl, HA0, HR1, HT1, HQ1⟩
    case round =>
      clear HA0 HR1 HT1 HQ1 HC HR0 HT0 HQ0
      obtain ⟨body, c, n, z, rfl, HA, HR, HT, HQ⟩ := hrel
      have hlen := (unhide HA).len
      by_cases hz : z = 0
      · subst hz
        have HL := hide (line_any g (R.go (c + n)) wr (unhide HR))
        rw [unhide HX] at HL
        cases hl : qLine 0 (x.drop (c + n)) with
        | no s =>
          rw [hl] at HL
          have HE : Hid (F = .no s) := hide (by rw [unhide HF]; exact (unhide HA).last_no hl)
          clear hl
          go_wp2_with (go_at_call 13; refine (unhide HL).mono ?_; rintro e w2 ⟨rfl, q2⟩; have HQ2 := hide ((unhide HQ).trans q2); clear q2)
          exact ⟨rfl, unhide HErr _ (unhide HE) _ (unhide HQ2)⟩
        | ok l m =>
          rw [hl] at HL
          by_cases hle : l = []
          · subst hle
            have HE : Hid (F = .ok body (c + n + m)) := hide (by rw [unhide HF]; exact (unhide HA).last_ok hl)
            clear hl
            go_wp2_with (first | (go_at_call 13; refine (unhide HL).mono ?_; rintro e w2 ⟨⟨rfl, r2⟩, q2⟩; have HQ2 := hide ((unhide HQ).trans q2); have HR2 := hide r2; have HT2 := hide ((unhide HT).qf q2 (unhide HR)); clear q2 r2) | (go_at_call 14; with_reducible refine (need_ok 400 _).mono ?_; rintro e w3 ⟨rfl, rfl⟩; have HS3 := hide (sbString_any' b body w3 (unhide HT2))) | (go_at_call 44; refine (unhide HS3).mono ?_; rintro e w4 ⟨rfl, b4⟩; have r4 := (unhide HR2).same (b4.block g (unhide HGB)); have c6 := r4.c6; have f6 := r4.fz 6; have HR5 := hide (r4.setB body); have HQ5 := hide (((unhide HQ2).grow b4 (Nat.le_of_eq (unhide HB0).symm)).set 6 (qv body)); clear r4 b4))
            refine bodyPost_end (results_none rfl _ _ _) rfl ?_
            exact unhide HOk _ _ (unhide HE) _ (by have := unhide HR5; simp only [Rd.go, Nat.add_assoc] at this ⊢; exact this) (unhide HQ5)
          · have HE : Hid (F = .no 400) := hide (by rw [unhide HF]; exact (unhide HA).last_bad hl hle)
            have hle1 : (l == []) = false := beq_eq_false_iff_ne.2 hle
            have hle2 : l.isEmpty = false := by cases l with
              | nil => exact absurd rfl hle
              | cons _ _ => rfl
            clear hl hle
            go_wp2_with (first | (go_at_call 13; refine (unhide HL).mono ?_; rintro e w2 ⟨⟨rfl, r2⟩, q2⟩; have HQ2 := hide ((unhide HQ).trans q2); clear q2 r2) | (go_at_call 14; with_reducible refine (need_no 400 _).mono ?_; rintro e w3 ⟨rfl, rfl⟩))
            exact ⟨rfl, unhide HErr _ (unhide HE) _ (unhide HQ2)⟩
      · have hz1 : (0 : Int) < (z : Int) := by omega
        have hz64 : z < 65536 := qSizeL_lt (unhide HA).size
        have HLe := hide (sbLen_any b body wr (unhide HT))
        have wr1 : IntKind.i64.wrap ((body.length : Int) + (z : Int)) = ((body.length + z : Nat) : Int) := by rw [IntKind.wrap_i64]; omega
        by_cases ho : body.length + z ≤ 1000
        · have ho1 : (body.length : Int) + (z : Int) ≤ 1000 := by omega
          have HTk := hide (take_any g (R.go (c + n)) z wr (unhide HR) (by omega))
          rw [unhide HX] at HTk
          cases ht : qTake z (x.drop (c + n)) with
          | no s =>
            rw [ht] at HTk
            have HE : Hid (F = .no s) := hide (by rw [unhide HF]; exact (unhide HA).take_no hz ho ht)
            clear hz ho ht
            go_wp2_with (first | (go_at_call 41; refine (unhide HLe).mono ?_; rintro e w2 ⟨rfl, rfl⟩) | (go_at_call 14; with_reducible refine (need_ok 413 _).mono ?_; rintro e w3 ⟨rfl, rfl⟩) | (go_at_call 43; refine (unhide HTk).mono ?_; rintro e w4 ⟨rfl, q4⟩; have HQ4 := hide ((unhide HQ).trans q4); clear q4))
            exact ⟨rfl, unhide HErr _ (unhide HE) _ (unhide HQ4)⟩
          | ok y m =>
            rw [ht] at HTk
            have hyl := (unhide HA).mid hz ho ht
            have HWr : Hid (∀ W, BtAt W b body → Calls Tryz.prog 42 #[.pointer (some ⟨b, 0, none⟩), qv y] W fun e w' => e = .returned (.tuple #[.int .i64 (y.length : Int), .nilIface]) ∧ BtAt w' b (body ++ y) ∧ Below b W w') := hide (fun W hW => sbWrite_any b body y W hW (by have := hyl.1; omega))
            have HNx : Hid (∀ W, RdAt W g (R.go (c + n + m)) → Calls Tryz.prog 30 #[.pointer (some ⟨g, 0, none⟩)] W (QEnds (qNext (x.drop (c + n + m))) bv g (R.go (c + n + m)) W)) := hide (fun W hW => by have := next_any g (R.go (c + n + m)) W hW; rwa [unhide HX] at this)
            cases hb1 : x[c + n + m]? with
            | none =>
              have HE : Hid (F = .no 0) := hide (by rw [unhide HF]; exact (unhide HA).end_no hz ho ht (qEnd_none hb1))
              rw [List.drop_of_length_le (List.getElem?_eq_none_iff.1 hb1)] at HNx
              clear hz ho ht hyl hb1
              go_wp2_with (first | (go_at_call 41; refine (unhide HLe).mono ?_; rintro e w2 ⟨rfl, rfl⟩) | (go_at_call 14; with_reducible refine (need_ok 413 _).mono ?_; rintro e w3 ⟨rfl, rfl⟩) | (go_at_call 43; refine (unhide HTk).mono ?_; rintro e w4 ⟨⟨rfl, r4⟩, q4⟩; have HQ4 := hide ((unhide HQ).trans q4); have HT4 := hide ((unhide HT).qf q4 (unhide HR)); have HR4 : Hid (RdAt w4 g (R.go (c + n + m))) := hide (by simp only [Rd.go, Nat.add_assoc] at r4 ⊢; exact r4); clear q4 r4) | (go_at_call 42; refine (unhide HWr _ (unhide HT4)).mono ?_; rintro e w5 ⟨rfl, t5, b5⟩; have HR5 := hide ((unhide HR4).same (b5.block g (unhide HGB))); have HQ5 := hide ((unhide HQ4).grow b5 (Nat.le_of_eq (unhide HB0).symm)); clear t5 b5) | (go_at_call 30; refine (unhide HNx _ (unhide HR5)).mono ?_; rintro e w6 ⟨rfl, q6⟩; have HQ6 := hide ((unhide HQ5).trans q6); clear q6))
              exact ⟨rfl, unhide HErr _ (unhide HE) _ (unhide HQ6)⟩
            | some d =>
              have hdc := drop_cons hb1
              rw [hdc] at HNx
              by_cases h13 : d.toNat = 13
              · have e13 : ((d.toNat : Int) == 13) = true := u8_eq h13
                have HEn : Hid (∀ W, RdAt W g (R.go (c + n + m + 1)) → Calls Tryz.prog 31 #[.pointer (some ⟨g, 0, none⟩)] W (QEnds (qLF (x.drop (c + n + m + 1))) (fun _ => .tuple #[]) g (R.go (c + n + m + 1)) W)) := hide (fun W hW => by have := end_any g (R.go (c + n + m + 1)) W hW; rwa [unhide HX] at this)
                cases hlf : qLF (x.drop (c + n + m + 1)) with
                | no s =>
                  rw [hlf] at HEn
                  have HE : Hid (F = .no s) := hide (by rw [unhide HF]; exact (unhide HA).end_no hz ho ht (by rw [qEnd_lf hb1 h13, hlf]; rfl))
                  clear hz ho ht hyl hb1 hdc h13 hlf
                  go_wp2_with (first | (go_at_call 41; refine (unhide HLe).mono ?_; rintro e w2 ⟨rfl, rfl⟩) | (go_at_call 14; with_reducible refine (need_ok 413 _).mono ?_; rintro e w3 ⟨rfl, rfl⟩) | (go_at_call 43; refine (unhide HTk).mono ?_; rintro e w4 ⟨⟨rfl, r4⟩, q4⟩; have HQ4 := hide ((unhide HQ).trans q4); have HT4 := hide ((unhide HT).qf q4 (unhide HR)); have HR4 : Hid (RdAt w4 g (R.go (c + n + m))) := hide (by simp only [Rd.go, Nat.add_assoc] at r4 ⊢; exact r4); clear q4 r4) | (go_at_call 42; refine (unhide HWr _ (unhide HT4)).mono ?_; rintro e w5 ⟨rfl, t5, b5⟩; have HR5 := hide ((unhide HR4).same (b5.block g (unhide HGB))); have HQ5 := hide ((unhide HQ4).grow b5 (Nat.le_of_eq (unhide HB0).symm)); clear t5 b5) | (go_at_call 30; refine (unhide HNx _ (unhide HR5)).mono ?_; rintro e w6 ⟨⟨rfl, r6⟩, q6⟩; have HQ6 := hide ((unhide HQ5).trans q6); have HR6 : Hid (RdAt w6 g (R.go (c + n + m + 1))) := hide (by simp only [Rd.go, Nat.add_assoc] at r6 ⊢; exact r6); clear q6 r6) | (go_at_call 14; with_reducible refine (need_ok 400 _).mono ?_; rintro e w7 ⟨rfl, rfl⟩) | (go_at_call 31; refine (unhide HEn _ (unhide HR6)).mono ?_; rintro e w8 ⟨rfl, q8⟩; have HQ8 := hide ((unhide HQ6).trans q8); clear q8))
                  exact ⟨rfl, unhide HErr _ (unhide HE) _ (unhide HQ8)⟩
                | ok u k =>
                  have hk : k = 1 := qLF_ok hlf
                  subst hk
                  rw [hlf] at HEn
                  have hE2 : qEnd (x.drop (c + n + m)) = .ok () 2 := by rw [qEnd_lf hb1 h13, hlf]; rfl
                  have HSz : Hid (∀ W, RdAt W g (R.go (c + n + m + 2)) → Calls Tryz.prog 40 #[.pointer (some ⟨g, 0, none⟩)] W (QEnds (qSizeL (x.drop (c + n + m + 2))) (fun n => .int .i64 (n : Int)) g (R.go (c + n + m + 2)) W)) := hide (fun W hW => by have := size_any g (R.go (c + n + m + 2)) W hW; rwa [unhide HX] at this)
                  cases hs2 : qSizeL (x.drop (c + n + m + 2)) with
                  | no s =>
                    rw [hs2] at HSz
                    have HE : Hid (F = .no s) := hide (by rw [unhide HF]; exact (unhide HA).size_no hz ho ht hE2 hs2)
                    clear hz ho ht hyl hb1 hdc h13 hlf hE2 hs2
                    go_wp2_with (first | (go_at_call 41; refine (unhide HLe).mono ?_; rintro e w2 ⟨rfl, rfl⟩) | (go_at_call 14; with_reducible refine (need_ok 413 _).mono ?_; rintro e w3 ⟨rfl, rfl⟩) | (go_at_call 43; refine (unhide HTk).mono ?_; rintro e w4 ⟨⟨rfl, r4⟩, q4⟩; have HQ4 := hide ((unhide HQ).trans q4); have HT4 := hide ((unhide HT).qf q4 (unhide HR)); have HR4 : Hid (RdAt w4 g (R.go (c + n + m))) := hide (by simp only [Rd.go, Nat.add_assoc] at r4 ⊢; exact r4); clear q4 r4) | (go_at_call 42; refine (unhide HWr _ (unhide HT4)).mono ?_; rintro e w5 ⟨rfl, t5, b5⟩; have HT5 := hide t5; have HR5 := hide ((unhide HR4).same (b5.block g (unhide HGB))); have HQ5 := hide ((unhide HQ4).grow b5 (Nat.le_of_eq (unhide HB0).symm)); clear t5 b5) | (go_at_call 30; refine (unhide HNx _ (unhide HR5)).mono ?_; rintro e w6 ⟨⟨rfl, r6⟩, q6⟩; have HQ6 := hide ((unhide HQ5).trans q6); have HT6 := hide ((unhide HT5).qf q6 (unhide HR5)); have HR6 : Hid (RdAt w6 g (R.go (c + n + m + 1))) := hide (by simp only [Rd.go, Nat.add_assoc] at r6 ⊢; exact r6); clear q6 r6) | (go_at_call 14; with_reducible refine (need_ok 400 _).mono ?_; rintro e w7 ⟨rfl, rfl⟩) | (go_at_call 31; refine (unhide HEn _ (unhide HR6)).mono ?_; rintro e w8 ⟨⟨rfl, r8⟩, q8⟩; have HQ8 := hide ((unhide HQ6).trans q8); have HT8 := hide ((unhide HT6).qf q8 (unhide HR6)); have HR8 : Hid (RdAt w8 g (R.go (c + n + m + 2))) := hide (by simp only [Rd.go, Nat.add_assoc] at r8 ⊢; exact r8); clear q8 r8) | (go_at_call 40; refine (unhide HSz _ (unhide HR8)).mono ?_; rintro e w9 ⟨rfl, q9⟩; have HQ9 := hide ((unhide HQ8).trans q9); clear q9))
                    exact ⟨rfl, unhide HErr _ (unhide HE) _ (unhide HQ9)⟩
                  | ok z' n' =>
                    rw [hs2] at HSz
                    have HA9 := hide ((unhide HA).next hz ho ht hE2 hs2)
                    have HM1 := hide (btMe_eq (unhide HT))
                    have HYL : Hid (0 < y.length ∧ body.length + y.length ≤ 1000) := hide (by have := hyl.1; omega)
                    clear hz ho ht hyl hb1 hdc h13 hlf hE2 hs2
                    go_wp2_with (first | (go_at_call 41; refine (unhide HLe).mono ?_; rintro e w2 ⟨rfl, rfl⟩) | (go_at_call 14; with_reducible refine (need_ok 413 _).mono ?_; rintro e w3 ⟨rfl, rfl⟩) | (go_at_call 43; refine (unhide HTk).mono ?_; rintro e w4 ⟨⟨rfl, r4⟩, q4⟩; have HQ4 := hide ((unhide HQ).trans q4); have HT4 := hide ((unhide HT).qf q4 (unhide HR)); have HR4 : Hid (RdAt w4 g (R.go (c + n + m))) := hide (by simp only [Rd.go, Nat.add_assoc] at r4 ⊢; exact r4); clear q4 r4) | (go_at_call 42; refine (unhide HWr _ (unhide HT4)).mono ?_; rintro e w5 ⟨rfl, t5, b5⟩; have HT5 := hide t5; have HR5 := hide ((unhide HR4).same (b5.block g (unhide HGB))); have HQ5 := hide ((unhide HQ4).grow b5 (Nat.le_of_eq (unhide HB0).symm)); clear t5 b5) | (go_at_call 30; refine (unhide HNx _ (unhide HR5)).mono ?_; rintro e w6 ⟨⟨rfl, r6⟩, q6⟩; have HQ6 := hide ((unhide HQ5).trans q6); have HT6 := hide ((unhide HT5).qf q6 (unhide HR5)); have HR6 : Hid (RdAt w6 g (R.go (c + n + m + 1))) := hide (by simp only [Rd.go, Nat.add_assoc] at r6 ⊢; exact r6); clear q6 r6) | (go_at_call 14; with_reducible refine (need_ok 400 _).mono ?_; rintro e w7 ⟨rfl, rfl⟩) | (go_at_call 31; refine (unhide HEn _ (unhide HR6)).mono ?_; rintro e w8 ⟨⟨rfl, r8⟩, q8⟩; have HQ8 := hide ((unhide HQ6).trans q8); have HT8 := hide ((unhide HT6).qf q8 (unhide HR6)); have HR8 : Hid (RdAt w8 g (R.go (c + n + m + 2))) := hide (by simp only [Rd.go, Nat.add_assoc] at r8 ⊢; exact r8); clear q8 r8) | (go_at_call 40; refine (unhide HSz _ (unhide HR8)).mono ?_; rintro e w9 ⟨⟨rfl, r9⟩, q9⟩; have HQ9 := hide ((unhide HQ8).trans q9); have HT9 := hide ((unhide HT8).qf q9 (unhide HR8)); have HR9 : Hid (RdAt w9 g (R.go (c + n + m + 2 + n'))) := hide (by simp only [Rd.go, Nat.add_assoc] at r9 ⊢; exact r9); clear q9 r9))
                    go_roundw
                    case rel => exact ⟨body ++ y, c + n + m + 2, n', z', rfl, HA9, HR9, HT9, HQ9⟩
                    case measure => rw [unhide HM1, btMe_eq (unhide HT9), List.length_append]; have := unhide HYL; omega
              · have e13 : ((d.toNat : Int) == 13) = false := u8_ne h13
                have HE : Hid (F = .no 400) := hide (by rw [unhide HF]; exact (unhide HA).end_no hz ho ht (qEnd_bad hb1 h13))
                clear hz ho ht hyl hb1 hdc h13
                go_wp2_with (first | (go_at_call 41; refine (unhide HLe).mono ?_; rintro e w2 ⟨rfl, rfl⟩) | (go_at_call 14; with_reducible refine (need_ok 413 _).mono ?_; rintro e w3 ⟨rfl, rfl⟩) | (go_at_call 43; refine (unhide HTk).mono ?_; rintro e w4 ⟨⟨rfl, r4⟩, q4⟩; have HQ4 := hide ((unhide HQ).trans q4); have HT4 := hide ((unhide HT).qf q4 (unhide HR)); have HR4 : Hid (RdAt w4 g (R.go (c + n + m))) := hide (by simp only [Rd.go, Nat.add_assoc] at r4 ⊢; exact r4); clear q4 r4) | (go_at_call 42; refine (unhide HWr _ (unhide HT4)).mono ?_; rintro e w5 ⟨rfl, t5, b5⟩; have HR5 := hide ((unhide HR4).same (b5.block g (unhide HGB))); have HQ5 := hide ((unhide HQ4).grow b5 (Nat.le_of_eq (unhide HB0).symm)); clear t5 b5) | (go_at_call 30; refine (unhide HNx _ (unhide HR5)).mono ?_; rintro e w6 ⟨⟨rfl, r6⟩, q6⟩; have HQ6 := hide ((unhide HQ5).trans q6); clear q6 r6) | (go_at_call 14; with_reducible refine (need_no 400 _).mono ?_; rintro e w7 ⟨rfl, rfl⟩))
                exact ⟨rfl, unhide HErr _ (unhide HE) _ (unhide HQ6)⟩
        · have HE : Hid (F = .no 413) := hide (by rw [unhide HF]; exact (unhide HA).over hz ho)
          have ho1 : decide (((body.length + z : Nat) : Int) ≤ 1000) = false := decide_eq_false (by omega)
          have ho2 : decide (body.length + z ≤ 1000) = false := decide_eq_false ho
          have ho3 : decide ((body.length : Int) + (z : Int) ≤ 1000) = false := decide_eq_false (by omega)
          clear hz ho
          go_wp2_with (first | (go_at_call 41; refine (unhide HLe).mono ?_; rintro e w2 ⟨rfl, rfl⟩) | (go_at_call 14; with_reducible refine (need_no 413 _).mono ?_; rintro e w3 ⟨rfl, rfl⟩))
          exact ⟨rfl, unhide HErr _ (unhide HE) _ (unhide HQ)⟩
end Go.Proofs.YtankbanonbmffabGreatDoor
