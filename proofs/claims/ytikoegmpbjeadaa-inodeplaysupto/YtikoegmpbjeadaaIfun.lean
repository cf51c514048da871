/-
  DERIVED. New, blocksFor, Size, Blocks, Need, slices.Clone, Runs.
-/
import Derived.Test.YtikoegmpbjeadaaImem
namespace Go.Proofs.Ytikoegmpbjeadaa
open Go.RowKit
set_option linter.unusedVariables false

theorem New_any (w : World) : Calls Try.prog 10 #[] w fun e w' => e = .returned (.pointer (some ⟨w.heap.size, 0, none⟩)) ∧ NdAt w' w.heap.size 0 (.slice none 0 0) [] ∧ w.grownBy w' none := by
  go_enter Try.func10, Try.ntmps10
  go_wp2
  go_ret
  exact ⟨rfl, NdAt.new w, World.grownBy_alloc _ _ _⟩

theorem blocksFor_any (w : World) (n : Nat) (hn : n ≤ 32768) : Calls Try.prog 37 #[.int .i64 (n : Int)] w fun e w' => e = .returned (.int .i64 (bf n : Int)) ∧ w' = w := by
  have h1 : (n : Int) ≤ 32768 := by omega
  go_enter Try.func37, Try.ntmps37
  go_wp2
  go_ret
  refine ⟨congrArg (fun z => Ending.returned (.int .i64 z)) ?_, rfl⟩
  unfold bf
  omega
theorem Size_any (w : World) (b n : Nat) (v : Value) (L : List Nat) (h : NdAt w b n v L) : Calls Try.prog 21 #[.pointer (some ⟨b, 0, none⟩)] w fun e w' => e = .returned (.int .i64 (n : Int)) ∧ w' = w := by
  have c0 := h.num
  go_enter Try.func21, Try.ntmps21
  go_wp2
  go_ret
  exact ⟨rfl, rfl⟩
theorem Size_nil (w : World) : Calls Try.prog 21 #[.pointer none] w fun e w' => e = .returned (.int .i64 0) ∧ w' = w := by
  go_enter Try.func21, Try.ntmps21
  go_wp2
  go_ret
  exact ⟨rfl, rfl⟩
theorem Blocks_any (w : World) (b n : Nat) (v : Value) (L : List Nat) (h : NdAt w b n v L) : Calls Try.prog 22 #[.pointer (some ⟨b, 0, none⟩)] w fun e w' => e = .returned (.int .i64 (L.length : Int)) ∧ w' = w := by
  have H := hide h
  clear h
  go_enter Try.func22, Try.ntmps22
  go_wp2_with fail
  refine (Size_any w b n v L (unhide H)).mono ?_
  rintro e w1 ⟨rfl, rfl⟩
  go_wp2_with fail
  refine (blocksFor_any w1 n (unhide H).le).mono ?_
  rintro e w2 ⟨rfl, rfl⟩
  go_wp2
  go_ret
  rw [(unhide H).len]
  exact ⟨rfl, rfl⟩
theorem Blocks_nil (w : World) : Calls Try.prog 22 #[.pointer none] w fun e w' => e = .returned (.int .i64 0) ∧ w' = w := by
  go_enter Try.func22, Try.ntmps22
  go_wp2_with fail
  refine (Size_nil w).mono ?_
  rintro e w1 ⟨rfl, rfl⟩
  go_wp2_with fail
  refine (blocksFor_any w1 0 (by omega)).mono ?_
  rintro e w2 ⟨rfl, rfl⟩
  go_wp2
  go_ret
  exact ⟨rfl, rfl⟩

theorem Need_ok (w : World) (b n : Nat) (v : Value) (L : List Nat) (h : NdAt w b n v L) (m : Nat) (hm : n + m ≤ 32768) : Calls Try.prog 18 #[.pointer (some ⟨b, 0, none⟩), .int .i64 (m : Int)] w fun e w' => e = .returned (.tuple #[.int .i64 ((bf (n + m) - bf n : Nat) : Int), .int .i64 0]) ∧ w' = w := by
  have c0 := h.num
  have h1 : ¬ (m : Int) < 0 := by omega
  have h2 : ¬ ((32768 : Int) - (n : Int) < (m : Int)) := by omega
  have h3 : (n : Int) + (m : Int) ≤ 32768 := by omega
  have h4 : (n : Int) ≤ 32768 := by omega
  have H := hide h
  clear h
  go_enter Try.func18, Try.ntmps18
  go_wp2_with fail
  refine (blocksFor_any w (n + m) hm).mono ?_
  rintro e w1 ⟨rfl, rfl⟩
  go_wp2_with fail
  refine (Blocks_any w1 b n v L (unhide H)).mono ?_
  rintro e w2 ⟨rfl, rfl⟩
  have e1 := (unhide H).len
  have e2 := bf_le (unhide H).le
  have e3 := bf_le hm
  have e4 : bf n ≤ bf (n + m) := by unfold bf; omega
  go_wp2
  go_ret2
  refine ⟨congrArg (fun z => Ending.returned (.tuple #[.int .i64 z, .int .i64 0])) ?_, rfl⟩
  omega
theorem Need_neg (w : World) (b n : Nat) (v : Value) (L : List Nat) (h : NdAt w b n v L) (m : Int) (hm : m < 0) : Calls Try.prog 18 #[.pointer (some ⟨b, 0, none⟩), .int .i64 m] w fun e w' => e = .returned (.tuple #[.int .i64 0, .int .i64 1]) ∧ w' = w := by
  clear h
  go_enter Try.func18, Try.ntmps18
  go_wp2
  go_ret2
  exact ⟨rfl, rfl⟩
theorem Need_far (w : World) (b n : Nat) (v : Value) (L : List Nat) (h : NdAt w b n v L) (m : Int) (hm : 32768 < (n : Int) + m) (h0 : 0 ≤ m) (h9 : m ≤ 9223372036854775807) : Calls Try.prog 18 #[.pointer (some ⟨b, 0, none⟩), .int .i64 m] w fun e w' => e = .returned (.tuple #[.int .i64 0, .int .i64 60]) ∧ w' = w := by
  have c0 := h.num
  have h1 : ¬ m < 0 := by omega
  have h2 : (32768 : Int) - (n : Int) < m := by omega
  have h5 := h.le
  have h4 : (n : Int) ≤ 32768 := by omega
  clear h hm
  go_enter Try.func18, Try.ntmps18
  go_wp2
  go_ret2
  exact ⟨rfl, rfl⟩
theorem Need_nil (w : World) (m : Int) : Calls Try.prog 18 #[.pointer none, .int .i64 m] w fun e w' => e = .returned (.tuple #[.int .i64 0, .int .i64 1]) ∧ w' = w := by
  go_enter Try.func18, Try.ntmps18
  go_wp2
  go_ret2
  exact ⟨rfl, rfl⟩

theorem Clone_nil (w : World) : Calls Try.prog 43 #[.slice none 0 0] w fun e w' => e = .returned (.slice none 0 0) ∧ w' = w := by
  have hnil := fun (w : World) => Lib.run_eql_slice_nil (P := Try.prog) (w := w) 32
  go_enter Try.func43, Try.ntmps43
  go_wp2
  go_ret
  exact ⟨rfl, rfl⟩
/-- A part of runs that lie in one block. -/
theorem Clone_part (w : World) (g off c : Nat) (xs : List (Nat × Nat)) (hlen : xs.length ≤ 65536)
    (hc : ∀ j u, (rcells xs)[j]? = some u → w.cell? ⟨g, off + j, none⟩ = some u) :
    Calls Try.prog 43 #[.slice (some ⟨g, off, none⟩) xs.length c] w fun e w' => ∃ u, e = .returned u ∧ ROwn w' w.heap.size u xs ∧ w.grownBy w' none := by
  have hnil := fun (w : World) => Lib.run_eql_slice_nil (P := Try.prog) (w := w) 32
  obtain ⟨i0, hi, hz0, hz1, hz2⟩ := info_parts Try.infoRun3
  have HC : Hid (∀ j u, (rcells xs)[j]? = some u → (w.alloc (.cells #[] 51)).cell? ((⟨g, off, none⟩ : Addr).add j) = some u) := hide (fun j u hj => by
    rw [addr_add]
    have h := hc j u hj
    have hl := World.block_lt_of_cell? w _ h
    exact ((Below.refl w.heap.size w).alloc (Nat.le_refl _) _).cell (p := ⟨g, off + j, none⟩) hl |>.trans h)
  have HO : Hid (ROwn (w.alloc (.cells #[] 51)) w.heap.size (.slice (some ⟨w.heap.size, 0, none⟩) 0 0) []) := hide ⟨rfl, .inr ⟨w.heap.size, 0, #[], rfl, Nat.le_refl _, heap_alloc_new _ _, by simp, by unfold maxLen; omega, by simp, by simp [rcells]⟩⟩
  clear hc
  go_enter Try.func43, Try.ntmps43
  go_wp2_with (at_builtin; refine wpList_append_own _ rfl (.tmp 5) (.tmp 6) 32 rfl w.heap.size 51 i0 (.agg #[.int .i64 0, .int .i64 0]) 2 16 Try.underlying32 hi hz0 hz1 hz2 rfl (by decide) _ 0 [] rfl (unhide HO) ⟨g, off, none⟩ xs.length c (rcells xs) rfl (rcells_len xs) (unhide HC) (rcells_one xs) ?b1 ?b2 ?b3 ?_)
  case b1 => unfold maxLen; omega
  case b2 => omega
  case b3 => simp
  intro v' w1 hown hgr _
  have hg : w.grownBy w1 none := (World.grownBy_alloc w (.cells #[] 51) none).andThen hgr (fun j e => by cases e; exact .inl (Nat.le_refl _))
  have HOn : Hid (ROwn w1 w.heap.size v' xs) := hide (by unfold ROwn; simpa using hown)
  clear hown hgr hnil
  go_wp2
  go_ret
  exact ⟨v', rfl, unhide HOn, hg⟩
theorem ROwn.cells {w : World} {base g n cap : Nat} {xs : List (Nat × Nat)} (h : ROwn w base (.slice (some ⟨g, 0, none⟩) n cap) xs) (j : Nat) (u : Value) (hj : (rcells xs)[j]? = some u) : w.cell? ⟨g, j, none⟩ = some u := by
  have := World.ownsRow.cells h (g := g) rfl j u hj
  rw [addr_add, Nat.zero_add] at this
  exact this
theorem Clone_own (w : World) (base : Nat) (v : Value) (xs : List (Nat × Nat)) (h : ROwn w base v xs) (hlen : xs.length ≤ 65536) :
    Calls Try.prog 43 #[v] w fun e w' => ∃ u, e = .returned u ∧ ROwn w' w.heap.size u xs ∧ w.grownBy w' none := by
  rcases h.2 with ⟨rfl, h0⟩ | ⟨g, cap, cur, rfl, hb, hg, hn, hm, hs, ht⟩
  · obtain rfl : xs = [] := List.eq_nil_of_length_eq_zero h0
    refine (Clone_nil w).mono ?_
    rintro e w' ⟨rfl, rfl⟩
    exact ⟨_, rfl, ROwn.nil _ _, World.grownBy.refl _ _⟩
  · exact Clone_part w g 0 cap xs hlen fun j u hj => by rw [Nat.zero_add]; exact h.cells j u hj
theorem Runs_any (w : World) (b n : Nat) (v : Value) (L : List Nat) (h : NdAt w b n v L) : Calls Try.prog 26 #[.pointer (some ⟨b, 0, none⟩)] w fun e w' => ∃ u, e = .returned u ∧ ROwn w' w.heap.size u (canon L) ∧ w.grownBy w' none := by
  have c1 := h.val
  have H := hide h
  clear h
  go_enter Try.func26, Try.ntmps26
  go_wp2_with fail
  refine (Clone_own w 0 v (canon L) (unhide H).runs (by have := (unhide H).small; omega)).mono ?_
  rintro e w1 ⟨u, rfl, ho, hg⟩
  have HO := hide ho
  have HG := hide hg
  clear ho hg c1
  go_wp2
  go_ret
  exact ⟨u, rfl, unhide HO, unhide HG⟩
theorem Runs_nil (w : World) : Calls Try.prog 26 #[.pointer none] w fun e w' => e = .returned (.slice none 0 0) ∧ w' = w := by
  go_enter Try.func26, Try.ntmps26
  go_wp2
  go_ret
  exact ⟨rfl, rfl⟩
end Go.Proofs.Ytikoegmpbjeadaa
