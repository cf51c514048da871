/-
  DERIVED. The walks of the document's named, right and Keyed.
-/
import Derived.Test.YtabcmmhmghgliaaRefChk
namespace Go.Proofs.Ytabcmmhmghgliaa
open Go.RowKit
set_option linter.unusedVariables false

set_option maxHeartbeats 1000000 in
theorem snamed_any (s k : List UInt8) (w : World) (hs : s.length ≤ 9223372036854775807) (hk : k.length ≤ 9223372036854775807) :
    Calls Try.prog 41 #[sv s, sv k] w fun e w' => e = .returned (.bool (ans (okNames s k))) ∧ w = w' := by
  by_cases h1 : 1 ≤ s.length
  · have q1 : decide ((1 : Int) ≤ (s.length : Int)) = true := decide_eq_true (by omega)
    by_cases h2 : s.length ≤ 60
    · have q2 : decide ((s.length : Int) ≤ 60) = true := decide_eq_true (by omega)
      by_cases h3 : k.length ≤ 60
      · have q3 : decide ((k.length : Int) ≤ 60) = true := decide_eq_true (by omega)
        have HA := hide (ans_true (p := okNames s k) ⟨h1, h2, h3⟩)
        go_enter Try.func41, Try.ntmps41
        go_wp2
        go_ret
        rw [unhide HA]
        exact ⟨rfl, rfl⟩
      · have q3 : decide ((k.length : Int) ≤ 60) = false := decide_eq_false (by omega)
        have HA := hide (ans_false (p := okNames s k) (fun h => h3 h.2.2))
        go_enter Try.func41, Try.ntmps41
        go_wp2
        go_ret
        rw [unhide HA]
        exact ⟨rfl, rfl⟩
    · have q2 : decide ((s.length : Int) ≤ 60) = false := decide_eq_false (by omega)
      have HA := hide (ans_false (p := okNames s k) (fun h => h2 h.2.1))
      go_enter Try.func41, Try.ntmps41
      go_wp2
      go_ret
      rw [unhide HA]
      exact ⟨rfl, rfl⟩
  · have q1 : decide ((1 : Int) ≤ (s.length : Int)) = false := decide_eq_false (by omega)
    have HA := hide (ans_false (p := okNames s k) (fun h => h1 h.1))
    go_enter Try.func41, Try.ntmps41
    go_wp2
    go_ret
    rw [unhide HA]
    exact ⟨rfl, rfl⟩

theorem keyD_drop (k : List UInt8) {Bs : List Bat} {j p : Nat} {b : Bat} (h : Bs[j]? = some b) : keyD k p (Bs.drop j) = if k ≠ [] ∧ b.k = k then some ⟨b.s, b.f, p, b.es.length⟩ else keyD k (p + b.es.length) (Bs.drop (j + 1)) := by
  obtain ⟨hl, rfl⟩ := List.getElem?_eq_some_iff.1 h
  rw [List.drop_eq_getElem_cons hl, keyD]
theorem totB_take {Bs : List Bat} {j : Nat} {b : Bat} (h : Bs[j]? = some b) : totB (Bs.take (j + 1)) = totB (Bs.take j) + b.es.length := by
  rw [List.take_add_one, h, Option.toList_some, totB_snoc]
theorem totB_take_le {Bs : List Bat} (h : BsOk Bs) (j : Nat) : totB (Bs.take j) ≤ 16000 := by
  have h1 := totB_le (Bs := Bs.take j) (fun b hb => (h.b b (List.mem_of_mem_take hb)).1)
  have h2 : (Bs.take j).length ≤ Bs.length := by rw [List.length_take]; omega
  have := h.n
  omega

set_option maxRecDepth 20000 in
set_option maxHeartbeats 4000000 in
theorem rKeyed_go (rb : Nat) (Bs : List Bat) (k : List UInt8) (w : World) (h : RRd w rb Bs) (hok : BsOk Bs) (hk : k.length ≤ 9223372036854775807) :
    Calls Try.prog 32 #[.pointer (some ⟨rb, 0, none⟩), sv k] w fun e w' => e = .returned (.tuple #[sv (kdS (keyD k 0 Bs)), .agg (kdF (keyD k 0 Bs)), .bool (keyD k 0 Bs).isSome]) ∧ Below w.heap.size w w' := by
  obtain ⟨wa, hwa⟩ : ∃ wa, wa = w.alloc (.cells (apV 0 0 0 false) 44) := ⟨_, rfl⟩
  have ba : Below w.heap.size w wa := by rw [hwa]; exact (Below.refl _ _).alloc (Nat.le_refl _) _
  have ha : ABox wa w.heap.size 0 0 0 false := by unfold ABox; rw [hwa]; exact heap_alloc_self _ _
  obtain ⟨v, hv, hsl⟩ := h.grown ba
  obtain ⟨a, c, hvs⟩ : ∃ a c, v = .slice a Bs.length c := by obtain ⟨a, c, e, _⟩ := hsl; exact ⟨a, c, e⟩
  subst hvs
  obtain ⟨n, hn⟩ : ∃ n, n = Bs.length := ⟨_, rfl⟩
  have HN := hide hn
  rw [← hn] at hv hsl
  have HV : Hid (∀ W, Below wa.heap.size wa W → W.cell? ⟨rb, 0, none⟩ = some (.slice a n c)) := hide (fun W hW => keptQ hW hv)
  have HSl : Hid (∀ W, Below wa.heap.size wa W → SlQ 4 BtAt W (.slice a n c) Bs) := hide (fun W hW => hsl.grown (fun _ _ _ _ _ => BtAt.grown) hW)
  have HA : Hid (∀ W, Below wa.heap.size wa W → ABox W w.heap.size 0 0 0 false ∧ Below w.heap.size w W) := hide (fun W hW => ⟨ha.same (hW.block _ (lt_of_block ha)), ba.trans (hW.mono ba.size)⟩)
  have hnm : n ≤ 9223372036854775807 := by have := hsl.len; omega
  have HWa := hide hwa
  have HOk := hide hok
  obtain ⟨D, hD⟩ : ∃ D, D = keyD k 0 Bs := ⟨_, rfl⟩
  rw [← hD]
  have HD : Hid (D = keyD k (totB (Bs.take 0)) (Bs.drop 0)) := hide (by rw [hD]; rfl)
  have HB0 : Hid (Below wa.heap.size wa wa) := hide (Below.refl _ _)
  clear hwa ba ha h hok hv hsl hn hD
  go_enter Try.func32, Try.ntmps32
  go_upto_region 1 with fail
  rw [show w.alloc (.cells #[Value.int .i64 0, .int .i64 0, .int .i64 0, .bool false] 44) = wa from (unhide HWa).symm]
  go_wp2_with fail
  go_loopw [7, 8] (fun p i W => ∃ (j : Nat), j ≤ n ∧ p = .int .i64 ((totB (Bs.take j) : Nat) : Int) ∧ i = .int .i64 (j : Int) ∧ Hid (D = keyD k (totB (Bs.take j)) (Bs.drop j)) ∧ Hid (Below wa.heap.size wa W)) (fun _ i _ => n - (intOf i).toNat)
  case atStart => exact ⟨0, by omega, by simp [totB], rfl, HD, HB0⟩
  case round =>
    clear HD HB0
    obtain ⟨j, hj, rfl, rfl, HD, HB⟩ := hrel
    have v0 := unhide HV wr (unhide HB)
    obtain ⟨ha, hbw⟩ := unhide HA wr (unhide HB)
    by_cases hlt : j < n
    · obtain ⟨b, hb⟩ : ∃ b, Bs[j]? = some b := ⟨_, List.getElem?_eq_getElem (by have := unhide HN; omega)⟩
      have hbm := List.mem_of_getElem? hb
      obtain ⟨g, off, rfl, _, c0, c1, c2, ea, ec, c3, _⟩ := (unhide HSl wr (unhide HB)).at hb
      have HDd := hide (keyD_drop k (p := totB (Bs.take j)) hb)
      have HTt := hide (totB_take hb)
      obtain ⟨m, hm⟩ : ∃ m, m = b.es.length := ⟨_, rfl⟩
      rw [← hm] at c3 HDd HTt
      have hm16 : m ≤ 16 := by rw [hm]; exact ((unhide HOk).b b hbm).1
      have hf := ((unhide HOk).b b hbm).2.1
      obtain ⟨T, hT⟩ : ∃ T, T = totB (Bs.take j) := ⟨_, rfl⟩
      have hTl : T ≤ 16000 := by rw [hT]; exact totB_take_le (unhide HOk) j
      rw [← hT] at HD HDd HTt ⊢
      have hji : (j : Int) < (n : Int) := by omega
      have hj0 : ¬ (j : Int) < 0 := by omega
      by_cases hk0 : k = []
      · have HD2 : Hid (D = keyD k (totB (Bs.take (j + 1))) (Bs.drop (j + 1))) := hide (by rw [unhide HD, unhide HDd, if_neg (fun q => q.1 hk0), unhide HTt])
        have HTr : Hid ((T : Int) + (m : Int) = ((totB (Bs.take (j + 1)) : Nat) : Int)) := hide (by rw [unhide HTt]; simp)
        subst hk0
        clear hb hbm hm hT ha hbw hf
        go_wp2_with fail
        go_roundw
        case rel => exact ⟨j + 1, by omega, by rw [← unhide HTr], by go_num, HD2, HB⟩
        case measure => simp [intOf]; omega
      · have hke : (k == []) = false := by simpa using hk0
        have hkn : k.isEmpty = false := by cases k; exact absurd rfl hk0; rfl
        by_cases hbk : b.k = k
        · have HX : Hid (D = some ⟨b.s, b.f, T, m⟩) := hide (by rw [unhide HD, unhide HDd, if_pos ⟨hk0, hbk⟩])
          rw [hbk] at c1
          obtain ⟨a0, a1, a2, a3, a4⟩ := ha.cells
          have HP := hide (ha.put (b.f : Int) (T : Int) (m : Int) false)
          have HE := hide (below_put hbw (Nat.le_refl w.heap.size) (b.f : Int) (T : Int) (m : Int) false)
          clear hb hbm hm hT ha hbw hbk hk0
          go_upto_region 6 with fail
          go_region
          all_goals
            go_wp2
            rw [unhide HX]
            exact bodyPost_ret (results_tct rfl _ _ w.heap.size 44 (apV (b.f : Int) (T : Int) (m : Int) false) (0, 0) _ (sv b.s) (.bool true) rfl rfl rfl (unhide HP) Try.underlying44 rfl sizeApp) rfl ⟨rfl, (unhide HE).drew⟩
        · have HD2 : Hid (D = keyD k (totB (Bs.take (j + 1))) (Bs.drop (j + 1))) := hide (by rw [unhide HD, unhide HDd, if_neg (fun q => hbk q.2), unhide HTt])
          have HTr : Hid ((T : Int) + (m : Int) = ((totB (Bs.take (j + 1)) : Nat) : Int)) := hide (by rw [unhide HTt]; simp)
          have hne : (b.k == k) = false := by simpa using hbk
          have hne2 : (b.k.toArray.toList == k.toArray.toList) = false := by simpa using hbk
          clear hb hbm hm hT ha hbw hf hbk hk0
          go_wp2_with fail
          go_roundw
          case rel => exact ⟨j + 1, by omega, by rw [← unhide HTr], by go_num, HD2, HB⟩
          case measure => simp [intOf]; omega
    · have HX : Hid (D = none) := hide (by rw [unhide HD, List.drop_eq_nil_of_le (by have := unhide HN; omega), keyD])
      have hji : ¬ (j : Int) < (n : Int) := by omega
      obtain ⟨a0, a1, a2, a3, a4⟩ := ha.cells
      have HP := hide (ha.put 0 0 0 false)
      have HE := hide (below_put hbw (Nat.le_refl w.heap.size) 0 0 0 false)
      clear ha hbw
      go_wp2_with fail
      rw [unhide HX]
      exact bodyPost_ret (results_tct rfl _ _ w.heap.size 44 (apV 0 0 0 false) (0, 0) _ (sv []) (.bool false) rfl rfl rfl (unhide HP) Try.underlying44 rfl sizeApp) rfl ⟨rfl, unhide HE⟩
end Go.Proofs.Ytabcmmhmghgliaa
