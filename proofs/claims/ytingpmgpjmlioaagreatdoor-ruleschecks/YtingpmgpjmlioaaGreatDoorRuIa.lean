/-
  DERIVED. The iterators of a table: what makes them, and what they go through: cases.
-/
import Derived.Test.YtingpmgpjmlioaaGreatDoorRuDa
import Derived.Test.YtingpmgpjmlioaaGreatDoorRgo
namespace Go.Proofs.YtingpmgpjmlioaaGreatDoor
open Go.RowKit Go.Shelf
set_option linter.unusedVariables false
attribute [local go_sem] Oper.semAt_some

theorem cases_any (ha : Option Addr) (hn hc : Nat) (va : Option Addr) (vn vc : Nat) (w : World) :
    Calls Tryz.prog 44 #[.agg (rulV ha hn hc va vn vc)] w fun e w' => e = .returned (.func (.func 85) #[] #[.pointer (some ⟨w.heap.size, 0, none⟩)]) ∧ w' = w.alloc (.cells (rulV ha hn hc va vn vc) 25) := by
  have hmf : ∀ (fn : Fn) (first cap : Array Value) (w : World), (Instr.makeFunc fn first cap).run Tryz.prog w = .ok (.func fn first cap) w := fun _ _ _ _ => rfl
  go_enter Tryz.func44, Tryz.ntmps44
  go_wp2_with fail
  go_ret
  exact ⟨rfl, rfl⟩
theorem emits_any (ha : Option Addr) (hn hc : Nat) (va : Option Addr) (vn vc : Nat) (w : World) :
    Calls Tryz.prog 45 #[.agg (rulV ha hn hc va vn vc)] w fun e w' => e = .returned (.func (.func 86) #[] #[.pointer (some ⟨w.heap.size, 0, none⟩)]) ∧ w' = w.alloc (.cells (rulV ha hn hc va vn vc) 25) := by
  have hmf : ∀ (fn : Fn) (first cap : Array Value) (w : World), (Instr.makeFunc fn first cap).run Tryz.prog w = .ok (.func fn first cap) w := fun _ _ _ _ => rfl
  go_enter Tryz.func45, Tryz.ntmps45
  go_wp2_with fail
  go_ret
  exact ⟨rfl, rfl⟩
theorem conditions_any (ha : Option Addr) (hn hc : Nat) (va : Option Addr) (vn vc : Nat) (w : World) :
    Calls Tryz.prog 65 #[.agg (rulV ha hn hc va vn vc)] w fun e w' => e = .returned (.func (.func 94) #[] #[.pointer (some ⟨w.heap.size, 0, none⟩)]) ∧ w' = w.alloc (.cells (rulV ha hn hc va vn vc) 25) := by
  have hmf : ∀ (fn : Fn) (first cap : Array Value) (w : World), (Instr.makeFunc fn first cap).run Tryz.prog w = .ok (.func fn first cap) w := fun _ _ _ _ => rfl
  go_enter Tryz.func65, Tryz.ntmps65
  go_wp2_with fail
  go_ret
  exact ⟨rfl, rfl⟩
theorem sets_any (ha : Option Addr) (hn hc : Nat) (va : Option Addr) (vn vc : Nat) (w : World) :
    Calls Tryz.prog 88 #[.agg (rulV ha hn hc va vn vc)] w fun e w' => e = .returned (.func (.func 114) #[] #[.pointer (some ⟨w.heap.size, 0, none⟩)]) ∧ w' = w.alloc (.cells (rulV ha hn hc va vn vc) 25) := by
  have hmf : ∀ (fn : Fn) (first cap : Array Value) (w : World), (Instr.makeFunc fn first cap).run Tryz.prog w = .ok (.func fn first cap) w := fun _ _ _ _ => rfl
  go_enter Tryz.func88, Tryz.ntmps88
  go_wp2_with fail
  go_ret
  exact ⟨rfl, rfl⟩
theorem expressions_any (ha : Option Addr) (hn hc : Nat) (va : Option Addr) (vn vc : Nat) (w : World) :
    Calls Tryz.prog 46 #[.agg (rulV ha hn hc va vn vc)] w fun e w' => e = .returned (.func (.func 87) #[] #[.pointer (some ⟨w.heap.size, 0, none⟩)]) ∧ w' = w.alloc (.cells (rulV ha hn hc va vn vc) 25) := by
  have hmf : ∀ (fn : Fn) (first cap : Array Value) (w : World), (Instr.makeFunc fn first cap).run Tryz.prog w = .ok (.func fn first cap) w := fun _ _ _ _ => rfl
  go_enter Tryz.func46, Tryz.ntmps46
  go_wp2_with fail
  go_ret
  exact ⟨rfl, rfl⟩

theorem list_split {γ : Type} {l : List γ} {k : Nat} {x : γ} (h : l[k]? = some x) : l = l.take k ++ x :: l.drop (k + 1) := by
  obtain ⟨h1, h2⟩ := List.getElem?_eq_some_iff.1 h
  rw [← h2, ← List.drop_eq_getElem_cons h1, List.take_append_drop]
theorem flat_pre {β γ : Type} {f : β → List γ} {l : List β} {k j : Nat} {h : β} {x : γ} (hk : l[k]? = some h) (hj : (f h)[j]? = some x) : ((l.take k).flatMap f ++ (f h).take j) ++ [x] <+: l.flatMap f := by
  refine ⟨(f h).drop (j + 1) ++ (l.drop (k + 1)).flatMap f, ?_⟩
  have e1 := list_split hk
  have e2 := list_split hj
  conv => rhs; rw [e1, List.flatMap_append, List.flatMap_cons]
  conv => rhs; rhs; lhs; rw [e2]
  simp
theorem flat_succ {β γ : Type} {f : β → List γ} {l : List β} {k : Nat} {h : β} (hk : l[k]? = some h) : (l.take (k + 1)).flatMap f = (l.take k).flatMap f ++ f h := by
  rw [List.take_add_one, hk]; simp
theorem take_succT {γ : Type} {l : List γ} {k : Nat} {x : γ} (h : l[k]? = some x) : l.take (k + 1) = l.take k ++ [x] := by
  rw [List.take_add_one, h]; rfl

set_option maxHeartbeats 4000000 in
set_option maxRecDepth 100000 in
theorem cases_goes (q : Nat) (ha : Option Addr) (hc : Nat) (hs : List HaV) (va : Option Addr) (vn vc : Nat) (w : World) (hq : w.heap[q]? = some (.cells (rulV ha hs.length hc va vn vc) 25)) (ht : SlOf 3 HaR w (.slice ha hs.length hc) hs) :
    Goes Tryz.prog 85 #[.pointer (some ⟨q, 0, none⟩)] CsV.v (casesV hs) w := by
  intro n l J Jx W hW hJ hJx hY h0
  have hr0 : W.cell? ⟨q, 0, none⟩ = some (.slice ha hs.length hc) := kept hW ((cell_of_row _ _ _ _ _ _ hq).trans rfl)
  have HT := hide (ht.grown (fun _ _ _ _ _ => HaR.grown) hW)
  obtain ⟨-, hl1, hl2⟩ := ht.len
  obtain ⟨N, hN⟩ : ∃ N, N = hs.length := ⟨_, rfl⟩
  have HN := hide hN
  rw [← hN] at hr0 hl1 HT
  have HY := hide hY
  have HJ := hide hJ
  have HJ0 := hide h0
  clear hW hq ht hY hJ hJx h0 hN
  refine callsIn_of_wp Tryz.func85 rfl trivial ?_ rfl
  simp only [Tryz.ntmps85, List.size_toArray, List.length_cons, List.length_nil, Nat.reduceAdd, Nat.reduceSub, Array.replicate_succ, Array.replicate_zero, List.push_toArray, List.append_toArray, List.nil_append, List.cons_append]
  gi_wp2
  clear hr0
  gi_loopw [4, 6, 10, 14, 15, 16, 17, 18, 19, 20, 21, 22, 23, 24, 25] (fun _ _ i _ _ _ _ _ _ _ _ _ _ _ _ wr => ∃ (k : Nat), i = .int .i64 k ∧ k ≤ N ∧ Hid (J ((hs.take k).flatMap (·.cases)) wr) ∧ Hid (Below W.heap.size W wr)) (fun _ _ i _ _ _ _ _ _ _ _ _ _ _ _ _ => N - (intOf i).toNat)
  case atStart => exact ⟨0, rfl, by omega, HJ0, hide (Below.refl _ _)⟩
  case round =>
    obtain ⟨k, rfl, hk, HJs, HB⟩ := hrel
    clear HJ0
    by_cases hlt : k < N
    · have hlt' : (k : Int) < (N : Int) := by omega
      obtain ⟨h, huk⟩ : ∃ u, hs[k]? = some u := ⟨_, List.getElem?_eq_getElem (by have := unhide HN; omega)⟩
      have HUk := hide huk
      obtain ⟨b, off, hma, -, d0, d1, d2, hat⟩ := ((unhide HT).grown (fun _ _ _ _ _ => HaR.grown) (unhide HB)).at huk
      rw [hma]
      clear huk
      have hb4 : Below wr.heap.size wr (wr.alloc (.cells h.v 62)) := (Below.refl _ _).alloc (Nat.le_refl _) _
      have HJ4 := hide (unhide HJ _ _ _ (unhide HJs) (hb4.mono (unhide HB).size))
      have HB4 := hide ((unhide HB).trans (hb4.mono (unhide HB).size))
      have HC4 := hide (hat.2.grown (fun _ _ _ _ _ => CsR.grown) hb4)
      obtain ⟨-, hc1, hc2⟩ := hat.2.len
      obtain ⟨M, hM⟩ : ∃ M, M = h.cases.length := ⟨_, rfl⟩
      have HM := hide hM
      have harg : (wr.alloc (.cells h.v 62)) = wr.alloc (.cells #[sv h.cmd, .slice h.na h.needs.length h.nc, .slice h.ca M h.cc] 62) := by rw [hM]
      rw [harg] at HJ4 HB4 HC4
      rw [← hM] at d2 hc1 HC4
      clear hb4 hat hM harg
      gi_wp2
      gi_loopw [6, 17] (fun _ i wz => ∃ (j : Nat), i = .int .i64 j ∧ j ≤ M ∧ Hid (J ((hs.take k).flatMap (·.cases) ++ h.cases.take j) wz) ∧ Hid (Below W.heap.size W wz) ∧ Hid (SlOf 3 CsR wz (.slice h.ca M h.cc) h.cases)) (fun _ i _ => M - (intOf i).toNat)
      case atStart => exact ⟨0, rfl, by omega, hide (by simpa using unhide HJ4), HB4, HC4⟩
      case round =>
        obtain ⟨j, rfl, hj, HJz, HBz, HCz⟩ := hrel
        clear HJ4 HB4 HC4 HJs HB
        by_cases hjlt : j < M
        · have hjlt' : (j : Int) < (M : Int) := by omega
          obtain ⟨x, hxj⟩ : ∃ u, h.cases[j]? = some u := ⟨_, List.getElem?_eq_getElem (by have := unhide HM; omega)⟩
          obtain ⟨b2, off2, hma2, -, c0, c1, c2, -⟩ := (unhide HCz).at hxj
          rw [hma2]
          have hb6 : Below wr.heap.size wr (wr.alloc (.cells x.v 66)) := (Below.refl _ _).alloc (Nat.le_refl _) _
          obtain ⟨fn, tmps, assign, body, hy, hR⟩ := unhide HY _ x _ (unhide HJ _ _ _ (unhide HJz) (hb6.mono (unhide HBz).size)) (flat_pre (f := (·.cases)) (unhide HUk) hxj)
          dsimp only [CsV.v] at hy
          have HB6 := hide ((unhide HBz).trans (hb6.mono (unhide HBz).size))
          have HC6 := hide ((unhide HCz).grown (fun _ _ _ _ _ => CsR.grown) hb6)
          have HS := hide (take_succT hxj)
          clear hb6 hxj
          gi_wp2
          refine ⟨(fun h => by cases h), (round_any hR).mono ?_⟩
          rintro e W3 (⟨rfl, hJ3, hk3⟩ | ⟨rfl, hJx3, -⟩)
          · have HJ3 : Hid (J ((hs.take k).flatMap (·.cases) ++ h.cases.take (j + 1)) W3) := hide (by rw [unhide HS, ← List.append_assoc]; exact hJ3)
            have HB3 := hide ((unhide HB6).trans (hk3.mono (unhide HB6).size))
            have HC3 := hide ((unhide HC6).grown (fun _ _ _ _ _ => CsR.grown) hk3)
            clear hJ3 hk3 hR hy
            gi_wp2
            go_roundw
            case rel => exact ⟨j + 1, by congr 1, by omega, HJ3, HB3, by rw [← hma2]; exact HC3⟩
            case measure => simp [intOf]; omega
          · have HX3 := hide hJx3
            have HP := hide (show (List.take k hs).flatMap (·.cases) ++ h.cases.take j ++ [x] <+: casesV hs from flat_pre (f := (·.cases)) (unhide HUk) (by
              have := unhide HS
              have h1 : (h.cases.take (j + 1))[j]? = some x := by rw [this, List.getElem?_append_right (by simp; omega)]; simp; have := unhide HM; simp [Nat.min_eq_left (show j ≤ h.cases.length by omega)]
              rwa [List.getElem?_take_of_lt (by omega)] at h1))
            clear hJx3 hR hy
            gi_wp2
            refine bodyPost_ret (results_none rfl _ _ _) rfl ?_
            exact ⟨⟨_, rfl⟩, .inr ⟨_, unhide HP, unhide HX3⟩⟩
        · have hjlt' : ¬ (j : Int) < (M : Int) := by omega
          have HJn : Hid (J ((hs.take (k + 1)).flatMap (·.cases)) wr) := hide (by
            rw [flat_succ (unhide HUk)]
            have e : h.cases.take j = h.cases := List.take_of_length_le (by have := unhide HM; omega)
            rw [← e]
            exact unhide HJz)
          gi_wp2
          go_roundw
          case rel => exact ⟨k + 1, by congr 1, by omega, HJn, HBz⟩
          case measure => simp [intOf]; omega
    · have hlt' : ¬ (k : Int) < (N : Int) := by omega
      have HJn : Hid (J (casesV hs) wr) := hide (by
        have := unhide HJs
        rwa [List.take_of_length_le (by have := unhide HN; omega)] at this)
      gi_wp2
      go_end0
      exact ⟨⟨_, rfl⟩, .inl (unhide HJn)⟩
end Go.Proofs.YtingpmgpjmlioaaGreatDoor
