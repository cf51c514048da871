/-
  DERIVED. What is told where there is no index (R1).
-/
import Derived.Test.YtabcmmhmghgliaaXchk
namespace Go.Proofs.Ytabcmmhmghgliaa
open Go.RowKit Go.Maps
set_option linter.unusedVariables false

theorem results_cct {P : Program} {fn : Func} {p p' u : Tmp} {ty ty' : TypeId} (h : fn.results = #[.cell p ty, .cell p' ty', .tmp u]) (tmps : Array Value) (w : World) (g : Nat) (t : TypeId) (cs : Array Value) (fr : Nat × Nat) (d : TypeDesc) (g' : Nat) (t' : TypeId) (cs' : Array Value) (fr' : Nat × Nat) (d' : TypeDesc) (x : Value)
    (hp : tmps.getD p undef = .pointer (some ⟨g, 0, none⟩)) (hp' : tmps.getD p' undef = .pointer (some ⟨g', 0, none⟩)) (hx : tmps.getD u undef = x) (hg : w.heap[g]? = some (.cells cs t fr)) (hg' : w.heap[g']? = some (.cells cs' t' fr'))
    (hu : P.underlying ty = some d) (hd : (match d with | .struct _ | .array _ _ => true | _ => false) = true) (hi : (P.info? ty).map (·.size) = some cs.size)
    (hu' : P.underlying ty' = some d') (hd' : (match d' with | .struct _ | .array _ _ => true | _ => false) = true) (hi' : (P.info? ty').map (·.size) = some cs'.size) :
    (results fn tmps).run P w = .ok (.tuple #[.agg cs, .agg cs', x]) w := by
  have hp1 : tmps[p]?.getD undef = .pointer (some ⟨g, 0, none⟩) := by simpa using hp
  have hp2 : tmps[p']?.getD undef = .pointer (some ⟨g', 0, none⟩) := by simpa using hp'
  have hp3 : tmps[u]?.getD undef = x := by simpa using hx
  simp [results, h, hp1, hp2, hp3, asAddr, run_loadVar_row w g t ty cs fr d hg hu hd hi, run_loadVar_row w g' t' ty' cs' fr' d' hg' hu' hd' hi']
theorem results_tct {P : Program} {fn : Func} {p u v : Tmp} {ty : TypeId} (h : fn.results = #[.tmp u, .cell p ty, .tmp v]) (tmps : Array Value) (w : World) (g : Nat) (t : TypeId) (cs : Array Value) (fr : Nat × Nat) (d : TypeDesc) (x y : Value)
    (hp : tmps.getD p undef = .pointer (some ⟨g, 0, none⟩)) (hx : tmps.getD u undef = x) (hy : tmps.getD v undef = y) (hg : w.heap[g]? = some (.cells cs t fr))
    (hu : P.underlying ty = some d) (hd : (match d with | .struct _ | .array _ _ => true | _ => false) = true) (hi : (P.info? ty).map (·.size) = some cs.size) :
    (results fn tmps).run P w = .ok (.tuple #[x, .agg cs, y]) w := by
  have hp1 : tmps[p]?.getD undef = .pointer (some ⟨g, 0, none⟩) := by simpa using hp
  have hp2 : tmps[u]?.getD undef = x := by simpa using hx
  have hp3 : tmps[v]?.getD undef = y := by simpa using hy
  simp [results, h, hp1, hp2, hp3, asAddr, run_loadVar_row w g t ty cs fr d hg hu hd hi]

set_option maxHeartbeats 1000000 in
theorem Try_nil (w : World) (s k : List UInt8) (x : Int) (a : Option Addr) (n c : Nat) : Calls Try.prog 11 #[.pointer none, sv s, .int .i64 x, sv k, .slice a n c] w fun e w' => e = .returned (.tuple #[.agg (apV 0 0 0 false), .agg (bt [] [] 0 none 0 0), .int .i64 1]) ∧ Below w.heap.size w w' := by
  have HB := hide (((Below.refl w.heap.size w).alloc (Nat.le_refl _) (.cells (apV 0 0 0 false) 44)).alloc (by simp) (.cells (bt [] [] 0 none 0 0) 33))
  have h1 : ((w.alloc (.cells (apV 0 0 0 false) 44)).alloc (.cells (bt [] [] 0 none 0 0) 33)).heap[w.heap.size]? = some (.cells (apV 0 0 0 false) 44 (0, 0)) := by rw [Below.heap_alloc _ _ _ (by simp)]; exact heap_alloc_self _ _
  have h2 : ((w.alloc (.cells (apV 0 0 0 false) 44)).alloc (.cells (bt [] [] 0 none 0 0) 33)).heap[w.heap.size + 1]? = some (.cells (bt [] [] 0 none 0 0) 33 (0, 0)) := by
    rw [show w.heap.size + 1 = (w.alloc (.cells (apV 0 0 0 false) 44)).heap.size by simp]; exact heap_alloc_self _ _
  have H1 := hide h1
  have H2 := hide h2
  clear h1 h2
  go_enter Try.func11, Try.ntmps11
  go_wp2
  exact bodyPost_ret (results_cct rfl _ _ w.heap.size 44 (apV 0 0 0 false) (0, 0) _ (w.heap.size + 1) 33 (bt [] [] 0 none 0 0) (0, 0) _ (.int .i64 1) rfl rfl rfl (unhide H1) (unhide H2) Try.underlying44 rfl sizeApp Try.underlying33 rfl sizeBatch) rfl ⟨rfl, unhide HB⟩

theorem Stream_nil (w : World) (s : List UInt8) (x y : Int) : Calls Try.prog 21 #[.pointer none, sv s, .int .i64 x, .int .i64 y] w fun e w' => e = .returned (.tuple #[nilS, .int .i64 1]) ∧ w' = w := by
  go_enter Try.func21, Try.ntmps21
  go_wp2
  go_ret2
  exact ⟨rfl, rfl⟩
theorem All_nil (w : World) (x y : Int) : Calls Try.prog 7 #[.pointer none, .int .i64 x, .int .i64 y] w fun e w' => e = .returned (.tuple #[nilS, .int .i64 1]) ∧ w' = w := by
  go_enter Try.func7, Try.ntmps7
  go_wp2
  go_ret2
  exact ⟨rfl, rfl⟩
theorem Add_nil (w : World) (s k : List UInt8) (fi : Int) (a : Option Addr) (n c : Nat) : Calls Try.prog 13 #[.pointer none, .agg (bt s k fi a n c)] w fun e w' => e = .returned (.int .i64 1) ∧ Below w.heap.size w w' := by
  have HB := hide ((Below.refl w.heap.size w).alloc (Nat.le_refl _) (.cells (bt s k fi a n c) 33))
  go_enter Try.func13, Try.ntmps13
  go_wp2
  go_ret
  exact ⟨rfl, unhide HB⟩
theorem field0 (a : Option Addr) (n c : Nat) (m k : Option Nat) (w : World) : (Instr.field 68 (.agg (stV (.slice a n c) m k)) 0).run Try.prog w = .ok (.slice a n c) w := by kernel_rfl
theorem field1 (a : Option Addr) (n c : Nat) (m k : Option Nat) (w : World) : (Instr.field 68 (.agg (stV (.slice a n c) m k)) 1).run Try.prog w = .ok (.map m) w := by kernel_rfl
theorem field2 (a : Option Addr) (n c : Nat) (m k : Option Nat) (w : World) : (Instr.field 68 (.agg (stV (.slice a n c) m k)) 2).run Try.prog w = .ok (.map k) w := by kernel_rfl
set_option maxRecDepth 20000 in
theorem Len_nil (w : World) : Calls Try.prog 14 #[.pointer none] w fun e w' => e = .returned (.int .i64 0) ∧ Below w.heap.size w w' := by
  have HB := hide ((Below.refl w.heap.size w).alloc (Nat.le_refl _) (.cells (stV nilS none none) 68))
  go_enter Try.func14, Try.ntmps14
  go_wp2_with fail
  refine (now_nil w).mono ?_
  rintro e w1 ⟨rfl, rfl⟩
  have f0 := field0 none 0 0 none none
  go_wp2
  go_ret
  exact ⟨rfl, unhide HB⟩

theorem zeroK2 (w : World) : (zeroValue 96).run Try.prog w = .ok (kdV none) w := zeroKeyed w
theorem find_none (w : World) (s : List UInt8) (hs : s.length ≤ maxLen) : (Instr.findKey 9 (sv s) []).run Try.prog w = .ok none w := by
  rcases keyedS.find w (lit_key hs) [] (by simp) with h | ⟨j, e, _, h, _⟩
  · exact h.1
  · simp at h
theorem look_none (w : World) (s : List UInt8) (hs : s.length ≤ maxLen) : (Instr.lookup 65 (.map none) (sv s) false).run Try.prog w = .ok nilS w := by
  simp [Instr.lookup, keyedS.check w true (lit_key hs), find_none w s hs, zeroInts w]
theorem lookK_none (w : World) (s : List UInt8) (hs : s.length ≤ maxLen) : (Instr.lookup 66 (.map none) (sv s) true).run Try.prog w = .ok (.tuple #[kdV none, .bool false]) w := by
  simp [Instr.lookup, keyedS.check w true (lit_key hs), find_none w s hs, zeroKeyed w]

theorem version_nil (w : World) (s : List UInt8) (hs : s.length ≤ maxLen) : Calls Try.prog 47 #[.agg (stV nilS none none), sv s] w fun e w' => e = .returned (.int .i64 0) ∧ Below w.heap.size w w' := by
  have hl := look_none (w.alloc (.cells (stV nilS none none) 68)) s hs
  have HB := hide ((Below.refl w.heap.size w).alloc (Nat.le_refl _) (.cells (stV nilS none none) 68))
  go_enter Try.func47, Try.ntmps47
  go_wp2
  go_ret
  exact ⟨rfl, unhide HB⟩
set_option maxRecDepth 20000 in
theorem Version_nil (w : World) (s : List UInt8) (hs : s.length ≤ maxLen) : Calls Try.prog 33 #[.pointer none, sv s] w fun e w' => e = .returned (.int .i64 0) ∧ Below w.heap.size w w' := by
  have hb1 := (Below.refl w.heap.size w).alloc (Nat.le_refl _) (.cells (stV nilS none none) 68)
  have HB := hide hb1
  have VN := hide (version_nil (w.alloc (.cells (stV nilS none none) 68)) s hs)
  clear hb1
  go_enter Try.func33, Try.ntmps33
  go_wp2_with fail
  refine (now_nil w).mono ?_
  rintro e w1 ⟨rfl, rfl⟩
  go_wp2_with fail
  refine (unhide VN).mono ?_
  rintro e w2 ⟨rfl, b2⟩
  have HB2 := hide ((unhide HB).trans (b2.mono (by simp)))
  clear b2
  go_wp2
  go_ret
  exact ⟨rfl, unhide HB2⟩
set_option maxRecDepth 20000 in
theorem Keyed_nil (w : World) (s : List UInt8) (hs : s.length ≤ maxLen) : Calls Try.prog 31 #[.pointer none, sv s] w fun e w' => e = .returned (.tuple #[sv [], .agg (apV 0 0 0 false), .bool false]) ∧ Below w.heap.size w w' := by
  have f2 := field2 none 0 0 none none
  obtain ⟨w2, hw2⟩ : ∃ w2, w2 = (w.alloc (.cells (apV 0 0 0 false) 44)).alloc (.cells (stV nilS none none) 68) := ⟨_, rfl⟩
  have b2 : Below w.heap.size w w2 := by rw [hw2]; exact ((Below.refl _ _).alloc (Nat.le_refl _) _).alloc (by simp) _
  have z2 : w2.heap.size = w.heap.size + 2 := by rw [hw2]; simp
  have HA : ABox w2 w.heap.size 0 0 0 false := by unfold ABox; rw [hw2, Below.heap_alloc _ _ _ (by simp)]; exact heap_alloc_self _ _
  have hl := lookK_none w2 s hs
  simp only [kdV] at hl
  have HP := hide ((HA.same (Below.heap_alloc w2 (.cells (kdA [] 0 0 0 false) 96) w.heap.size (by omega))).put 0 0 0 false)
  have HB := hide (below_put (b2.alloc b2.size (.cells (kdA [] 0 0 0 false) 96)) (Nat.le_refl w.heap.size) 0 0 0 false)
  obtain ⟨w3, hw3⟩ : ∃ w3, w3 = w2.alloc (.cells (kdA [] 0 0 0 false) 96) := ⟨_, rfl⟩
  rw [← hw3] at HP HB
  have HK : w3.heap[w2.heap.size]? = some (.cells (kdA [] 0 0 0 false) 96 (0, 0)) := by rw [hw3]; exact heap_alloc_self _ _
  have HA3 : ABox w3 w.heap.size 0 0 0 false := by rw [hw3]; exact HA.same (Below.heap_alloc _ _ _ (by omega))
  obtain ⟨a0, a1, a2, a3, a4⟩ := HA3.cells
  have k0 : w3.cell? ⟨w2.heap.size, 0, none⟩ = some (sv []) := (cell_of_row _ _ _ _ _ _ HK).trans rfl
  have k1 : w3.cell? ⟨w2.heap.size, 1, none⟩ = some (.int .i64 0) := (cell_of_row _ _ _ _ _ _ HK).trans rfl
  have k2 : w3.cell? ⟨w2.heap.size, 2, none⟩ = some (.int .i64 0) := (cell_of_row _ _ _ _ _ _ HK).trans rfl
  have k3 : w3.cell? ⟨w2.heap.size, 3, none⟩ = some (.int .i64 0) := (cell_of_row _ _ _ _ _ _ HK).trans rfl
  have k4 : w3.cell? ⟨w2.heap.size, 4, none⟩ = some (.bool false) := (cell_of_row _ _ _ _ _ _ HK).trans rfl
  have Z2 := hide z2
  clear b2 HA HA3 HK z2
  go_enter Try.func31, Try.ntmps31
  go_wp2_with fail
  refine (now_nil _).mono ?_
  rintro e w1 ⟨rfl, rfl⟩
  rw [← hw2]
  clear hw2
  go_upto_region 2 with fail
  rw [← hw3]
  clear hw3 hl
  obtain ⟨kb, hkb⟩ : ∃ kb, kb = w2.heap.size := ⟨_, rfl⟩
  rw [← hkb] at k0 k1 k2 k3 k4 ⊢
  have hne : ¬ kb = w.heap.size := by have := unhide Z2; omega
  clear hkb
  go_region
  all_goals
    go_wp2
    exact bodyPost_ret (results_tct rfl _ _ w.heap.size 44 (apV 0 0 0 false) (0, 0) _ (sv []) (.bool false) rfl rfl rfl (unhide HP) Try.underlying44 rfl sizeApp) rfl ⟨rfl, (unhide HB).drew⟩
end Go.Proofs.Ytabcmmhmghgliaa
