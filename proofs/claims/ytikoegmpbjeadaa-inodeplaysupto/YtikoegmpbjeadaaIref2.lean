/-
  DERIVED. The document's Cut and Copy.
-/
import Derived.Test.YtikoegmpbjeadaaIref
import Derived.Test.YtikoegmpbjeadaaIread
import Derived.Deep.Cut
import Derived.Deep.CutRange
namespace Go.Proofs.Ytikoegmpbjeadaa
open Go.RowKit
set_option linter.unusedVariables false

/-- The first so many of numbers of one's own. -/
theorem NOwn.head {w : World} {base : Nat} {lo : Option Addr} {q cap : Nat} {L : List Nat} (h : NOwn w base (.slice lo q cap) L) (a : Nat) (ha : a ≤ L.length) : Nr w (.slice lo a cap) (L.take a) := by
  obtain ⟨ao, cap', e, h1, h2, h4⟩ := h.form
  injection e with e1 e2 e3
  subst e1 e3
  have hl : (L.take a).length = a := by rw [List.length_take]; omega
  refine ⟨lo, cap, by rw [hl], by rw [hl]; omega, h2, fun hne => ?_⟩
  rw [hl] at hne
  obtain ⟨g, rfl, hg, hc⟩ := h4 (by omega)
  exact ⟨g, 0, rfl, hg, fun i hi => by
    rw [hl] at hi
    rw [Nat.zero_add, hc i (by omega), List.getElem_take]⟩
theorem NOwn.nilcap {w : World} {base : Nat} {lo : Option Addr} {q cap : Nat} {L : List Nat} (h : NOwn w base (.slice lo q cap) L) (hlo : lo = none) : cap = 0 := by
  subst hlo
  rcases h.2 with ⟨e, _⟩ | ⟨g, c, cur, e, _⟩
  · cases e; rfl
  · cases e

theorem rCut_far (w : World) (b n : Nat) (v : Value) (L : List Nat) (h : RdAt w b n v L) (k : Int) (hk : k < 0 ∨ (n : Int) < k) :
    Calls Try.prog 30 #[.pointer (some ⟨b, 0, none⟩), .int .i64 k] w fun e w' => e = .returned (.tuple #[.slice none 0 0, .int .i64 60]) ∧ w' = w := by
  have c0 := h.num
  clear h
  by_cases h1 : k < 0
  · clear hk
    go_enter Try.func30, Try.ntmps30
    go_wp2
    go_ret2
    exact ⟨rfl, rfl⟩
  · have h2 : (n : Int) < k := by omega
    clear hk
    go_enter Try.func30, Try.ntmps30
    go_wp2
    go_ret2
    exact ⟨rfl, rfl⟩

set_option maxRecDepth 20000 in
set_option maxHeartbeats 4000000 in
theorem rCut_ok (w : World) (b n : Nat) (v : Value) (L : List Nat) (h : RdAt w b n v L) (k : Nat) (hk : k ≤ n) :
    Calls Try.prog 30 #[.pointer (some ⟨b, 0, none⟩), .int .i64 (k : Int)] w fun e w' => ∃ a c, e = .returned (.tuple #[c, .int .i64 0]) ∧ RdAt w' b k a (L.take (bf k)) ∧ ROwn w' w.heap.size c (canon (L.drop (bf k))) ∧ w.grownBy w' (some b) := by
  have c0 := h.num
  have c1 := h.val
  have hle := h.le
  have HM := hide h
  have hbk : bf k ≤ L.length := by rw [h.len]; unfold bf; omega
  obtain ⟨lo, cap, hv, hv1, hv2, hv4⟩ := h.list.form
  clear hv4
  subst hv
  have HLn := hide h.list
  have hsm := h.small
  have hn1 : ¬ (k : Int) < 0 := by omega
  have hn2 : ¬ (n : Int) < (k : Int) := by omega
  have hkI : (k : Int) ≤ 32768 := by omega
  clear h
  obtain ⟨q, hq⟩ : ∃ q, q = L.length := ⟨_, rfl⟩
  rw [← hq] at hbk hv1 HLn hsm c1 HM
  have HQ := hide hq
  clear hq
  go_enter Try.func30, Try.ntmps30
  go_wp2_with fail
  refine (rneed_any w k (by omega)).mono ?_
  rintro e w1 ⟨rfl, rfl⟩
  obtain ⟨bt, hbt⟩ : ∃ bt, bt = bf k := ⟨_, rfl⟩
  rw [← hbt] at hbk ⊢
  have HBt := hide hbt
  clear hbt
  have hbI : (bt : Int) ≤ (q : Int) := by omega
  have hqc : (q : Int) ≤ (cap : Int) := by omega
  have hcm : (cap : Int) ≤ 9223372036854775807 := by omega
  have HPc : Hid (∀ (N C : Nat) (A : Option Addr), N = q - bt → (A = lo.map (fun x => x.add bt) ∧ C = cap - bt) ∨ (bt = 0 ∧ A = lo ∧ C = cap) ∨ (cap = bt ∧ C ≤ 9223372036854775807) → Nr w1 (.slice A N C) (L.drop bt)) := hide (fun N C A h1 h2 => by
    have h3 := (unhide HLn).pieces (unhide HQ) bt q N C A hbk (Nat.le_refl _) hv1 h1 h2
    rw [List.take_of_length_le (by rw [← unhide HQ]; exact Nat.le_refl _)] at h3
    exact h3)
  have HDl : Hid ((L.drop bt).length ≤ 10000) := hide (by rw [List.length_drop, ← unhide HQ]; omega)
  have HDw : Hid (low (L.drop bt)) := hide (low_drop (unhide HM).lw bt)
  have fin : ∀ (A : Option Addr) (N C : Nat), Nr w1 (.slice A N C) (L.drop bt) → Calls Try.prog 45 #[.slice A N C] w1 fun e w' => ∃ u, e = .returned u ∧ ROwn w' w1.heap.size u (canon (L.drop bt)) ∧ w1.grownBy w' none := fun A N C h => Whole_any w1 _ _ h (unhide HDw) (unhide HDl)
  have FIN := hide fin
  clear fin
  go_upto_region 4 with fail
  go_cut [7] from 20 to 26 (fun c wx => ROwn wx w1.heap.size c (canon (L.drop bt)) ∧ w1.grownBy wx none)
  case first =>
    have alt : (cap = bt) ∨ (¬ cap = bt ∧ bt = 0) ∨ (¬ cap = bt ∧ ¬ bt = 0) := by omega
    rcases alt with hcb | ⟨hcb, hb0⟩ | ⟨hcb, hb0⟩
    · obtain rfl : q = bt := by omega
      subst hcb
      clear hbI hqc
      go_wp2_with fail
      refine (unhide FIN _ _ _ (unhide HPc _ _ _ (by omega) (.inr (.inr ⟨(by first | rfl | trivial), by omega⟩)))).mono ?_
      rintro e w2 ⟨c2, rfl, o2, g2⟩
      have O2 := hide o2
      have G2 := hide g2
      clear o2 g2
      go_wp2_with fail
      go_meet
      exact ⟨unhide O2, unhide G2⟩
    · subst hb0
      go_wp2_with fail
      refine (unhide FIN _ _ _ (unhide HPc _ _ _ (by omega) (.inr (.inl ⟨(by first | rfl | trivial), rfl, rfl⟩)))).mono ?_
      rintro e w2 ⟨c2, rfl, o2, g2⟩
      have O2 := hide o2
      have G2 := hide g2
      clear o2 g2
      go_wp2_with fail
      go_meet
      exact ⟨unhide O2, unhide G2⟩
    · go_wp2_with fail
      refine (unhide FIN _ _ _ (unhide HPc _ _ _ rfl (.inl ⟨rfl, rfl⟩))).mono ?_
      rintro e w2 ⟨c2, rfl, o2, g2⟩
      have O2 := hide o2
      have G2 := hide g2
      clear o2 g2
      go_wp2_with fail
      go_meet
      exact ⟨unhide O2, unhide G2⟩
  case rest =>
    obtain ⟨o2, g2⟩ := hcut
    have O2 := hide o2
    have G2 := hide g2
    have M2 := hide ((unhide HM).grown g2)
    have L2 := hide ((unhide HLn).grown g2)
    have d1 := (unhide M2).val
    have hbl := (unhide M2).lt
    have d1' := (unhide M2).grown (World.grownBy_alloc wc (.cells #[] 3) none) |>.val
    have HHd : Hid (Nr (wc.alloc (.cells #[] 3)) (.slice lo bt cap) (L.take bt)) := hide (((unhide L2).head bt (by rw [← unhide HQ]; omega)).kept (World.grownBy_alloc _ _ _))
    have HNc : Hid (∀ c, Value.slice lo bt cap = .slice none 0 c → c = 0) := hide (fun c e => by
      injection e with e1 e2 e3
      subst e3
      exact (unhide L2).nilcap e1)
    have HTl : Hid ((L.take bt).length = bt) := hide (by rw [List.length_take, ← unhide HQ]; omega)
    clear o2 g2 c0 c1 FIN HPc
    go_wp2_with (at_builtin; refine wpList_append_nums rfl (.tmp 28) (.tmp 34) rfl wc.heap.size _ [] rfl (nown_empty wc) _ (L.take bt) rfl (unhide HHd) (unhide HNc) (by rw [unhide HTl]; simp; omega) (by simp) ?_)
    intro v3 w3 o3 g3
    have g23 : wc.grownBy w3 none := (World.grownBy_alloc _ _ _).andThen g3 (fun z e => .inl (by cases e; exact Nat.le_refl _))
    have m3 := (unhide M2).grown g23
    have hs1 : w3.grownBy ((w3.setCell ⟨b, 1, none⟩ v3).setCell ⟨b, 0, none⟩ (.int .i64 (k : Int))) (some b) := (setCell_grown _ _ _ _).trans (setCell_grown _ _ _ _)
    have hh1 := heap_setCell_same w3 b 1 _ _ v3 m3.blk
    have hh2 := heap_setCell_same _ b 0 _ _ (.int .i64 (k : Int)) hh1
    have HT : Hid (RdAt ((w3.setCell ⟨b, 1, none⟩ v3).setCell ⟨b, 0, none⟩ (.int .i64 (k : Int))) b k v3 (L.take (bf k))) := hide (m3.turned (by rw [← unhide HBt]; exact o3) (by omega) (by rw [← unhide HBt, unhide HTl]) (low_take m3.lw _) _ hh2 hs1)
    have HOc : Hid (ROwn ((w3.setCell ⟨b, 1, none⟩ v3).setCell ⟨b, 0, none⟩ (.int .i64 (k : Int))) w1.heap.size u7 (canon (L.drop (bf k)))) := hide (by
      rw [← unhide HBt]
      exact ((unhide O2).grown g23).kept hs1 (fun z hz e => ((unhide O2).grown g23).ne hz m3.blk (by decide) (by simpa using e)))
    have HGf : Hid (w1.grownBy ((w3.setCell ⟨b, 1, none⟩ v3).setCell ⟨b, 0, none⟩ (.int .i64 (k : Int))) (some b)) := hide ((((unhide G2).trans g23).but _).trans hs1)
    have f3 := m3.frozen
    have e0 := m3.num
    have e1 := m3.val
    obtain ⟨ao3, cap3, hv3, _⟩ := o3.form
    obtain ⟨n3, hn3⟩ : ∃ n3, v3 = .slice ao3 n3 cap3 := ⟨_, hv3⟩
    clear hv3
    subst hn3
    clear o3 g3 g23 m3 hs1 hh1 hh2 O2 G2 M2 L2 HHd HNc d1 d1' HM HLn
    go_wp2
    go_ret2
    exact ⟨_, _, rfl, unhide HT, unhide HOc, unhide HGf⟩
end Go.Proofs.Ytikoegmpbjeadaa
