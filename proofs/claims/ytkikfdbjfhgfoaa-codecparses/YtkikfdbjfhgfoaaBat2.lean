/-
  DERIVED. The walks of checkBatch, PutBatch.
-/
import Derived.Test.YtkikfdbjfhgfoaaBat
namespace Go.Proofs.Ytkikfdbjfhgfoaa
open Go.RowKit
set_option linter.unusedVariables false

def okAll (x : Bat) : Prop := ∀ e ∈ x.events, okEv e
open Classical in
/-- The number of checkBatch's answer. -/
noncomputable def batE (x : Bat) : Int := if okBatch x then (if okAll x then 0 else 13) else 11
open Classical in
theorem batE_form {x : Bat} (h : ¬ okBatch x) : batE x = 11 := by unfold batE; rw [if_neg h]
open Classical in
theorem batE_event {x : Bat} (h : okBatch x) (h2 : ¬ okAll x) : batE x = 13 := by unfold batE; rw [if_pos h, if_neg h2]
open Classical in
theorem batE_ok {x : Bat} (h : okBatch x) (h2 : okAll x) : batE x = 0 := by unfold batE; rw [if_pos h, if_pos h2]
open Classical in
theorem batE_zero {x : Bat} (h : batE x = 0) : okBatch x ∧ okAll x := by
  by_cases h1 : okBatch x
  · by_cases h2 : okAll x
    · exact ⟨h1, h2⟩
    · rw [batE_event h1 h2] at h; cases h
  · rw [batE_form h1] at h; cases h

theorem bat_cases {s k : List UInt8} {fi : Int} {es : List Evn} (h : ¬ okBatch ⟨s, k, fi, es⟩) : ¬ okName s ∨ (okName s ∧ 60 < k.length) ∨ (okName s ∧ k.length ≤ 60 ∧ fi < 0) ∨ (okName s ∧ k.length ≤ 60 ∧ 0 ≤ fi ∧ 1099511627776 < fi) ∨ (okName s ∧ k.length ≤ 60 ∧ 0 ≤ fi ∧ fi ≤ 1099511627776 ∧ es = []) ∨ (okName s ∧ k.length ≤ 60 ∧ 0 ≤ fi ∧ fi ≤ 1099511627776 ∧ 16 < es.length) := by
  by_cases h1 : okName s
  · by_cases h2 : 60 < k.length
    · exact .inr (.inl ⟨h1, h2⟩)
    · by_cases h3 : fi < 0
      · exact .inr (.inr (.inl ⟨h1, by omega, h3⟩))
      · by_cases h4 : 1099511627776 < fi
        · exact .inr (.inr (.inr (.inl ⟨h1, by omega, by omega, h4⟩)))
        · by_cases h5 : es = []
          · exact .inr (.inr (.inr (.inr (.inl ⟨h1, by omega, by omega, by omega, h5⟩))))
          · refine .inr (.inr (.inr (.inr (.inr ⟨h1, by omega, by omega, by omega, ?_⟩))))
            have := List.length_pos_iff.2 h5
            by_cases h6 : 16 < es.length
            · exact h6
            · exact absurd ⟨h1, by show k.length ≤ 60; omega, by show 0 ≤ fi; omega, by show fi ≤ _; omega, by show 1 ≤ es.length; omega, by show es.length ≤ 16; omega⟩ h
  · exact .inl h1

set_option maxHeartbeats 4000000 in
theorem checkBatch_form (s k : List UInt8) (fi : Int) (a : Option Addr) (n c : Nat) (es : List Evn) (w : World) (hs : s.length ≤ 9223372036854775807) (hv : EvL w (.slice a n c) es) (hbad : ¬ okBatch ⟨s, k, fi, es⟩) :
    Calls Try.prog 20 #[.agg (bt s k fi a n c)] w fun e w' => e = .returned (.int .i64 11) ∧ Below w.heap.size w w' := by
  obtain rfl : n = es.length := by obtain ⟨_, _, e, _⟩ := hv; cases e; rfl
  have HB := hide ((Below.refl w.heap.size w).alloc (Nat.le_refl _) (.cells (bt s k fi a es.length c) 25))
  rcases bat_cases hbad with hn | ⟨hn, h2⟩ | ⟨hn, h2, h3⟩ | ⟨hn, h2, h3, h4⟩ | ⟨hn, h2, h3, h4, h5⟩ | ⟨hn, h2, h3, h4, h5⟩
  · have HN := hide (ans_false hn)
    clear hbad hn hv
    go_enter Try.func20, Try.ntmps20
    go_wp2_with (go_at_call 41; refine (nameAllowed_any s _ hs).mono ?_; rintro e w' ⟨rfl, rfl⟩; rw [unhide HN])
    go_ret
    exact ⟨rfl, unhide HB⟩
  all_goals
    have HN := hide (ans_true hn)
    first | subst h5 | (have hN0 : ((es.length : Int) == 0) = false := beq_eq_false_iff_ne.2 (by clear HN HB hn hbad hv; omega)) | skip
    clear hbad hn hv HB
    go_enter Try.func20, Try.ntmps20
    go_wp2_with (go_at_call 41; refine (nameAllowed_any s _ hs).mono ?_; rintro e w' ⟨rfl, rfl⟩; rw [unhide HN])
    go_ret
    exact ⟨rfl, (Below.refl _ _).alloc (Nat.le_refl _) _⟩

set_option maxHeartbeats 4000000 in
theorem checkBatch_events (s k : List UInt8) (fi : Int) (a : Option Addr) (n c : Nat) (es : List Evn) (w : World) (hs : s.length ≤ 9223372036854775807) (hv : EvL w (.slice a n c) es) (hfit : ∀ e ∈ es, fitE e) (hok : okBatch ⟨s, k, fi, es⟩) :
    Calls Try.prog 20 #[.agg (bt s k fi a n c)] w fun e w' => e = .returned (.int .i64 (batE ⟨s, k, fi, es⟩)) ∧ Below w.heap.size w w' := by
  have HG := hide (And.intro (fun h => batE_ok hok h) (fun h => batE_event hok h))
  obtain ⟨h1, h2, h3, h4, h5, h6⟩ := hok
  simp only at h1 h2 h3 h4 h5 h6
  have HNm := hide (ans_true h1)
  obtain ⟨ao, cap, e, g1, g2, g4⟩ := id hv
  cases e
  obtain ⟨N, hN⟩ : ∃ N, N = es.length := ⟨_, rfl⟩
  have HG4 := hide g4
  have HFit := hide hfit
  have HN := hide hN
  rw [← hN] at g1 h5 h6 ⊢
  clear g4 hN hv hfit h1
  go_enter Try.func20, Try.ntmps20
  have hN0 : ((N : Int) == 0) = false := beq_eq_false_iff_ne.2 (by omega)
  go_wp2_with (go_at_call 41; refine (nameAllowed_any s _ hs).mono ?_; rintro e w' ⟨rfl, rfl⟩; rw [unhide HNm])
  obtain ⟨w0, hw0⟩ : ∃ w0, w0 = w.alloc (.cells (bt s k fi a N c) 25) := ⟨_, rfl⟩
  rw [← hw0]
  have b0 : Below w.heap.size w w0 := by rw [hw0]; exact (Below.refl _ _).alloc (Nat.le_refl _) _
  have HB0 := hide b0
  clear hw0 b0
  go_loopw [4, 5, 39] (fun _ _ i wr => ∃ q : Nat, q ≤ N ∧ i = .int .i64 q ∧ Hid (∀ j, j < q → ∀ e, es[j]? = some e → okEv e) ∧ Below w.heap.size w wr) (fun _ _ i _ => N - (intOf i).toNat)
  case atStart => exact ⟨0, by omega, rfl, hide (fun j hj => by omega), unhide HB0⟩
  case round =>
    obtain ⟨q, hq, rfl, HJ, hbel⟩ := hrel
    have hsw := hbel.size
    have HBw := hide hbel
    clear hbel
    by_cases hlt : q < N
    · have hql : q < es.length := by have := unhide HN; omega
      obtain ⟨b, off, rfl, hbl, hc⟩ := unhide HG4 (by omega)
      obtain ⟨c0, c1, ea, en, ec, c2, c3⟩ := hc q hql
      obtain ⟨f, hf⟩ : ∃ f, f = es[q] := ⟨_, rfl⟩
      rw [← hf] at c0 c1 c3
      have d0 := ((unhide HBw).cell (p := ⟨b, off + q * 3, none⟩) hbl).trans c0
      have d1 := ((unhide HBw).cell (p := ⟨b, off + q * 3 + 1, none⟩) hbl).trans c1
      have d2 := ((unhide HBw).cell (p := ⟨b, off + q * 3 + 2, none⟩) hbl).trans c2
      have HF : Hid (es[q]? = some f) := hide (by rw [hf]; exact List.getElem?_eq_getElem hql)
      have HFO := hide (unhide HFit f (by rw [hf]; exact List.getElem_mem hql))
      have HFd := hide c3
      obtain ⟨ft, fv', ff⟩ := f
      simp only at d0 d1 d2
      clear hf hc c0 c1 c2 c3
      go_wp2_with fail
      refine (Check_any ft fv' ea en ec ff _ (unhide HFO).1 ((unhide HFd).below ((unhide HBw).alloc hsw _) (Nat.le_refl _)) (fun g hg => ((unhide HFO).2 g hg).1)).mono ?_
      rintro e w5 ⟨rfl, b5⟩
      have HB5 := hide (((unhide HBw).alloc hsw _).trans (b5.mono (by simp; omega)))
      clear b5
      by_cases hok : okEvent ft fv' ff
      · rw [chk_ok hok]
        have HJ2 : Hid (∀ j, j < q + 1 → ∀ e, es[j]? = some e → okEv e) := hide (fun j hj e he => by
          by_cases h : j < q
          · exact unhide HJ j h e he
          · have : j = q := by omega
            subst this
            rw [unhide HF] at he
            cases he
            exact hok)
        clear hok
        go_wp2
        go_roundw
        case rel => exact ⟨q + 1, by omega, by go_num, HJ2, unhide HB5⟩
        case measure => simp [intOf]; omega
      · rw [chk_bad hok]
        have HA := hide ((unhide HG).2 (fun h => hok (h _ (List.mem_of_getElem? (unhide HF)))))
        clear hok
        go_wp2
        go_ret
        rw [unhide HA]
        exact ⟨rfl, unhide HB5⟩
    · have HA := hide ((unhide HG).1 (fun e he => by
        obtain ⟨j, hj, e2⟩ := List.mem_iff_getElem.1 he
        exact unhide HJ j (by have := unhide HN; simp only at hj; omega) e (by rw [← e2]; exact List.getElem?_eq_getElem hj)))
      go_wp2
      go_ret
      rw [unhide HA]
      exact ⟨rfl, unhide HBw⟩

theorem checkBatch_any (s k : List UInt8) (fi : Int) (a : Option Addr) (n c : Nat) (es : List Evn) (w : World) (hs : s.length ≤ 9223372036854775807) (hv : EvL w (.slice a n c) es) (hfit : ∀ e ∈ es, fitE e) :
    Calls Try.prog 20 #[.agg (bt s k fi a n c)] w fun e w' => e = .returned (.int .i64 (batE ⟨s, k, fi, es⟩)) ∧ Below w.heap.size w w' := by
  by_cases h : okBatch ⟨s, k, fi, es⟩
  · exact checkBatch_events s k fi a n c es w hs hv hfit h
  · rw [batE_form h]
    exact checkBatch_form s k fi a n c es w hs hv h

/-- The error of PutBatch. -/
noncomputable def putE (x : Bat) : Int := if batE x ≠ 0 then batE x else if 2000 < (layBt x).length then 12 else 0

set_option maxHeartbeats 4000000 in
theorem PutBatch_any (v : Value) (l : List UInt8) (s k : List UInt8) (fi : Int) (a : Option Addr) (n c : Nat) (es : List Evn) (w : World) (hl : Sl w v l) (hll : l.length + 2100 ≤ 140737488355328) (hs : s.length ≤ 9223372036854775807) (hv : EvL w (.slice a n c) es) (hfit : ∀ e ∈ es, fitE e) :
    Calls Try.prog 7 #[v, .agg (bt s k fi a n c)] w fun e w' => ∃ v', e = .returned (.tuple #[v', .int .i64 (putE ⟨s, k, fi, es⟩)]) ∧ Below w.heap.size w w' ∧ (putE ⟨s, k, fi, es⟩ ≠ 0 → v' = .slice none 0 0) ∧ (putE ⟨s, k, fi, es⟩ = 0 → Own w' w.heap.size v' (l ++ layBt ⟨s, k, fi, es⟩)) := by
  obtain ⟨w0, hw0⟩ : ∃ w0, w0 = w.alloc (.cells (bt s k fi a n c) 25) := ⟨_, rfl⟩
  have b0 : Below w.heap.size w w0 := by rw [hw0]; exact (Below.refl _ _).alloc (Nat.le_refl _) _
  have s0 : w.heap.size < w0.heap.size := by rw [hw0]; simp
  have z0 : w0.cell? ⟨w.heap.size, 0, none⟩ = some (sv s) := by rw [hw0]; simp
  have z1 : w0.cell? ⟨w.heap.size, 1, none⟩ = some (sv k) := by rw [hw0]; simp
  have z2 : w0.cell? ⟨w.heap.size, 2, none⟩ = some (.int .i64 fi) := by rw [hw0]; simp
  have z3 : w0.cell? ⟨w.heap.size, 3, none⟩ = some (.slice a n c) := by rw [hw0]; simp
  have HW0 := hide hw0
  have HB0 := hide b0
  have HV := hide hv
  have HL := hide hl
  have HFit := hide hfit
  have HP : Hid (putE ⟨s, k, fi, es⟩ = if batE ⟨s, k, fi, es⟩ ≠ 0 then batE ⟨s, k, fi, es⟩ else if 2000 < (layBt ⟨s, k, fi, es⟩).length then 12 else 0) := hide rfl
  clear hw0 b0 hv hl hfit
  by_cases hz : batE ⟨s, k, fi, es⟩ = 0
  · obtain ⟨hok, hall⟩ := batE_zero hz
    have HZ := hide hz
    have HOK := hide (And.intro hok (fun e he => And.intro (hall e he) (unhide HFit e he)))
    clear hz hok hall
    go_enter Try.func7, Try.ntmps7
    go_wp2_with (go_at_call 20; rw [← unhide HW0]; refine (checkBatch_any s k fi a n c es _ hs ((unhide HV).below (unhide HB0) (Nat.le_refl _)) (unhide HFit)).mono ?_; rintro e w1 ⟨rfl, b1⟩; rw [unhide HZ]; have s1 := b1.size; have y0 := (b1.cell (p := ⟨w.heap.size, 0, none⟩) s0).trans z0; have y1 := (b1.cell (p := ⟨w.heap.size, 1, none⟩) s0).trans z1; have y2 := (b1.cell (p := ⟨w.heap.size, 2, none⟩) s0).trans z2; have y3 := (b1.cell (p := ⟨w.heap.size, 3, none⟩) s0).trans z3; have HB1 := hide ((unhide HB0).trans (b1.mono (Nat.le_of_lt s0))); clear b1)
    refine (layBatch_any s k fi a n c es _ (unhide HOK).1 (unhide HOK).2 ((unhide HV).below (unhide HB1) (Nat.le_refl _))).mono ?_
    rintro e w2 ⟨v2, rfl, own2, b2⟩
    obtain ⟨M, hM⟩ : ∃ M, M = (layBt ⟨s, k, fi, es⟩).length := ⟨_, rfl⟩
    obtain ⟨a2, c2, hf2, q1, q2, _⟩ := own2.sl
    unfold maxLen at q2
    rw [← hM] at hf2 q1
    subst hf2
    have s2 := b2.size
    have HB2 := hide ((unhide HB1).trans (b2.mono (by omega)))
    have HO2 := hide own2
    have HM := hide hM
    clear own2 b2 hM
    by_cases hlong : 2000 < M
    · have HR : Hid (putE ⟨s, k, fi, es⟩ = 12) := hide (by rw [unhide HP, unhide HZ, if_neg (by simp), ← unhide HM, if_pos hlong])
      go_wp2
      go_ret2
      rw [unhide HR]
      exact ⟨_, rfl, unhide HB2, fun _ => rfl, fun h => by cases h⟩
    · have HR : Hid (putE ⟨s, k, fi, es⟩ = 0) := hide (by rw [unhide HP, unhide HZ, if_neg (by simp), ← unhide HM, if_neg hlong])
      have hM1 : 1 ≤ M := by
        rw [unhide HM]
        have := (lay_len s.length).1
        simp [layBt, layT]; omega
      go_wp2_with (first | (go_at_call 22; refine (closed_any v l _ ((unhide HL).below (unhide HB2) (Nat.le_refl _))).mono ?_; rintro e w' ⟨v1, rfl, hroom, rfl⟩; have HRM := hide hroom; clear hroom) | (at_builtin; refine wpList_append_room rfl (.tmp 19) (.tmp 20) rfl w.heap.size _ l rfl (.inr (unhide HRM)) _ (layBt ⟨s, k, fi, es⟩) rfl (unhide HO2).sl ?hne ?hlen ?hbase ?_))
      case hne => intro e; have := unhide HM; rw [e] at this; simp at this; omega
      case hlen => rw [← unhide HM]; omega
      case hbase => omega
      intro v3 w3 own3 b3
      have HO3 := hide own3
      have HB3 := hide ((unhide HB2).trans b3)
      clear own3 b3
      go_wp2
      go_ret2
      rw [unhide HR]
      exact ⟨_, rfl, unhide HB3, fun h => absurd rfl h, fun _ => unhide HO3⟩
  · have HR : Hid (putE ⟨s, k, fi, es⟩ = batE ⟨s, k, fi, es⟩) := hide (by rw [unhide HP, if_pos hz])
    have hne : (batE ⟨s, k, fi, es⟩ != 0) = true := by rw [bne_iff_ne]; exact hz
    have HZ := hide hz
    obtain ⟨z, hzz⟩ : ∃ z, batE ⟨s, k, fi, es⟩ = z := ⟨_, rfl⟩
    rw [hzz] at hne
    have HZZ := hide hzz
    clear hz hzz
    go_enter Try.func7, Try.ntmps7
    go_wp2_with (go_at_call 20; rw [← unhide HW0]; refine (checkBatch_any s k fi a n c es _ hs ((unhide HV).below (unhide HB0) (Nat.le_refl _)) (unhide HFit)).mono ?_; rintro e w1 ⟨rfl, b1⟩; rw [unhide HZZ]; have HB1 := hide ((unhide HB0).trans (b1.mono (Nat.le_of_lt s0))); clear b1)
    go_ret2
    rw [unhide HR, unhide HZZ]
    exact ⟨_, rfl, unhide HB1, fun _ => rfl, fun h => absurd ((unhide HZZ).trans h) (unhide HZ)⟩
end Go.Proofs.Ytkikfdbjfhgfoaa
