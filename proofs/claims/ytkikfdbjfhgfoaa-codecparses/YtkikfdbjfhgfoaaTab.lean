/-
  DERIVED. The walk of makeSumTable: the table's cells.
-/
import Derived.Test.YtkikfdbjfhgfoaaBase
import Derived.Laws.Rows
import Derived.Laws.Tables
import Derived.Laws.Closers25b
import Derived.RegionTactic
import Derived.BigRegion
import Derived.Deep.QuietTactic
import Derived.BigQuiet
namespace Go.Proofs.Ytkikfdbjfhgfoaa
open Go.RowKit

def tabCells (L : List Nat) : Array Value := (L.map (fun n : Nat => Value.int .u32 (n : Int))).toArray

/-- A block that holds a table. -/
def Tab (w : World) (g : Nat) (L : List Nat) : Prop := w.heap[g]? = some (.cells (tabCells L) 77 (0, 0)) ∧ L.length = 256

theorem tab_size (L : List Nat) : (tabCells L).size = L.length := by simp [tabCells]

theorem Tab.cell {w : World} {g : Nat} {L : List Nat} (h : Tab w g L) (i : Nat) (hi : i < 256) : w.cell? ⟨g, i, none⟩ = some (.int .u32 (L.getD i 0 : Nat)) := by
  have hL := h.2
  simp [World.cell?, h.1, tabCells, List.getD_eq_getElem?_getD, List.getElem?_eq_getElem (show i < L.length by omega)]

theorem Tab.frozen {w : World} {g : Nat} {L : List Nat} (h : Tab w g L) (i : Nat) : w.frozen? ⟨g, i, none⟩ = false := by
  simp [World.frozen?, h.1]

theorem Tab.set {w : World} {g : Nat} {L : List Nat} (h : Tab w g L) (i x : Nat) : Tab (w.setCell ⟨g, i, none⟩ (.int .u32 (x : Int))) g (L.set i x) := by
  refine ⟨?_, by simpa using h.2⟩
  have hl := h.1
  simp only [World.setCell, Array.getElem?_modify, hl]
  have e : (tabCells L).setIfInBounds i (.int .u32 (x : Int)) = tabCells (L.set i x) := by
    apply Array.ext'
    simp [tabCells, List.map_set]
  simp [e]

theorem Tab.below {B : Nat} {w w' : World} {g : Nat} {L : List Nat} (h : Tab w g L) (hb : Below B w w') (hg : g < B) : Tab w' g L := ⟨(hb.block g hg).trans h.1, h.2⟩
theorem Tab.lt {w : World} {g : Nat} {L : List Nat} (h : Tab w g L) : g < w.heap.size := lt_of_block h.1
theorem Tab.alloc {w : World} {g : Nat} {L : List Nat} (h : Tab w g L) (o : Obj) : Tab (w.alloc o) g L := h.below ((Below.refl w.heap.size w).alloc (Nat.le_refl _) o) h.lt

theorem toNat_u32 (a : Nat) (ha : a < 4294967296) : (BitVec.ofInt 32 (a : Int)).toNat = a := by
  rw [BitVec.ofInt_natCast, BitVec.toNat_ofNat]; exact Nat.mod_eq_of_lt (by omega)
theorem xor_u32 (a b : Nat) (ha : a < 4294967296) (hb : b < 4294967296) : bits .xor .u32 (a : Int) (b : Int) = ((a ^^^ b : Nat) : Int) := by
  have hx : a ^^^ b < 4294967296 := Nat.xor_lt_two_pow (n := 32) ha hb
  show IntKind.u32.wrap ((BitVec.ofInt 32 (a : Int) ^^^ BitVec.ofInt 32 (b : Int)).toNat : Int) = _
  rw [BitVec.toNat_xor, toNat_u32 a ha, toNat_u32 b hb, IntKind.wrap_u32]
  omega
theorem or_u32 (a b : Nat) (ha : a < 4294967296) (hb : b < 4294967296) : bits .or .u32 (a : Int) (b : Int) = ((a ||| b : Nat) : Int) := by
  have hx : a ||| b < 4294967296 := Nat.or_lt_two_pow (n := 32) ha hb
  show IntKind.u32.wrap ((BitVec.ofInt 32 (a : Int) ||| BitVec.ofInt 32 (b : Int)).toNat : Int) = _
  rw [BitVec.toNat_or, toNat_u32 a ha, toNat_u32 b hb, IntKind.wrap_u32]
  omega
theorem and_u32 (a b : Nat) (ha : a < 4294967296) (hb : b < 4294967296) : bits .and .u32 (a : Int) (b : Int) = ((a &&& b : Nat) : Int) := by
  have hx : a &&& b < 4294967296 := Nat.and_lt_two_pow (n := 32) a hb
  show IntKind.u32.wrap ((BitVec.ofInt 32 (a : Int) &&& BitVec.ofInt 32 (b : Int)).toNat : Int) = _
  rw [BitVec.toNat_and, toNat_u32 a ha, toNat_u32 b hb, IntKind.wrap_u32]
  omega
theorem and1_u32 (a : Nat) (ha : a < 4294967296) : bits .and .u32 (a : Int) 1 = ((a % 2 : Nat) : Int) := by
  have := and_u32 a 1 ha (by decide)
  rw [Nat.and_one_is_mod] at this
  exact this

theorem low_all : (List.range 256).all (fun i => i == 0 || (bits BinOp.and IntKind.i64 (i : Int) (-(i : Int)) == (lowb i : Int) && bits BinOp.xor IntKind.i64 (i : Int) (lowb i : Int) == ((i ^^^ lowb i : Nat) : Int) && decide (lowb i < 256) && decide (i ^^^ lowb i < 256))) = true := by decide +kernel
theorem low_at (i : Nat) (h1 : 1 ≤ i) (h2 : i < 256) : (bits BinOp.and IntKind.i64 (i : Int) (-(i : Int)) = (lowb i : Int) ∧ bits BinOp.xor IntKind.i64 (i : Int) (lowb i : Int) = ((i ^^^ lowb i : Nat) : Int)) ∧ lowb i < 256 ∧ i ^^^ lowb i < 256 := by
  have := byte_all _ low_all i h2
  simp only [Bool.or_eq_true, Bool.and_eq_true, beq_iff_eq, decide_eq_true_eq] at this
  rcases this with h | h
  · omega
  · exact ⟨⟨h.1.1.1, h.1.1.2⟩, h.1.2, h.2⟩
theorem low_tab (i : Nat) (h1 : 1 ≤ i) (h2 : i < 256) : bits BinOp.and IntKind.i64 (i : Int) (-(i : Int)) = (lowb i : Int) := (low_at i h1 h2).1.1
theorem low_xor (i : Nat) (h1 : 1 ≤ i) (h2 : i < 256) : bits BinOp.xor IntKind.i64 (i : Int) (lowb i : Int) = ((i ^^^ lowb i : Nat) : Int) := (low_at i h1 h2).1.2
theorem low_lt (i : Nat) (h1 : 1 ≤ i) (h2 : i < 256) : lowb i < 256 ∧ i ^^^ lowb i < 256 := (low_at i h1 h2).2

theorem tab_one (L : List Nat) : (tabCells L).all (·.oneCell') = true := by
  simp [tabCells, Value.oneCell']

theorem below_setRow' (B : Nat) (w : World) (g : Nat) (cs : Array Value) (h : B ≤ g) : Below B w (w.setRow g cs) := by
  refine ⟨rfl, rfl, rfl, by simp [World.setRow], fun k hk => ?_⟩
  simp only [World.setRow, Array.getElem?_modify]
  rw [if_neg (by omega)]

def zeroTab : Array Value := tabCells (List.replicate 256 0)

theorem run_alloc_tab (w : World) : (Instr.alloc 77 true (.tuple #[])).run Try.prog w = .ok (.pointer (some ⟨w.heap.size, 0, none⟩)) (w.alloc (.cells zeroTab 77)) := by kernel_rfl

theorem wpList_alloc_tab {w : World} {ops : Array Oper} {rest : List Oper} {o : Oper} {a : Act} {Q : Exit → Act → World → Prop} (hgd : o.guard = none)
    (ho : o.op = .alloc 77) (h : wpList Try.prog ops Q rest (a.put o.dst (.pointer (some ⟨w.heap.size, 0, none⟩))) (w.alloc (.cells zeroTab 77))) : wpList Try.prog ops Q (o :: rest) a w := by
  refine wpList_plain hgd fun K hK => ?_
  unfold Oper.wp execOp
  simp only [ho, Sem.run_bind, Sem.run_pure, run_alloc_tab, Result.andThen_ok]
  exact hK _ _ h

theorem zero_tab (w : World) : Tab (w.alloc (.cells zeroTab 77)) w.heap.size (tabA 0) := by
  refine ⟨?_, List.length_replicate⟩
  show (w.heap.push _)[w.heap.size]? = _
  rw [Array.getElem?_push, if_pos rfl]
  rfl

set_option maxHeartbeats 1000000 in
set_option maxRecDepth 100000 in
theorem makeSumTable_any (w : World) :
    Calls Try.prog 37 #[] w fun e w' => e = .returned (.agg (tabCells crcTab)) ∧ Below w.heap.size w w' := by
  go_enter Try.func37, Try.ntmps37
  go_wp2_with (refine wpList_alloc_tab rfl rfl ?_)
  have t0 : Tab ((w.alloc (.cells zeroTab 77)).alloc (.cells zeroTab 77)) w.heap.size (tabA 0) := (zero_tab w).alloc _
  have t1 : Tab ((w.alloc (.cells zeroTab 77)).alloc (.cells zeroTab 77)) (w.heap.size + 1) (tabA 0) := by
    have := zero_tab (w.alloc (.cells zeroTab 77))
    simpa using this
  have b0 : Below w.heap.size w ((w.alloc (.cells zeroTab 77)).alloc (.cells zeroTab 77)) := ((Below.refl _ _).alloc (Nat.le_refl _) _).alloc (by simp) _
  go_loopw [2, 3, 4] (fun r bit _ wr => ∃ j : Nat, j ≤ 8 ∧ bit = .int .i64 (128 / 2 ^ j : Nat) ∧ r = .int .u32 (rAt j : Nat) ∧ Tab wr w.heap.size (tabA 0) ∧ Tab wr (w.heap.size + 1) (tabA j) ∧ Below w.heap.size w wr) (fun _ bit _ _ => (intOf bit).toNat)
  case atStart => exact ⟨0, by omega, rfl, rfl, t0, t1, b0⟩
  case round =>
    obtain ⟨j, hj, rfl, rfl, h0, h1, hb⟩ := hrel
    clear t0 t1 b0
    have hr := rAt_lt j
    obtain ⟨r, hre⟩ : ∃ r, r = rAt j := ⟨_, rfl⟩
    obtain ⟨bt, hbt⟩ : ∃ bt, bt = 128 / 2 ^ j := ⟨_, rfl⟩
    rw [← hre] at hr ⊢
    rw [← hbt]
    by_cases hj8 : j < 8
    · obtain ⟨hb1, hb2, hb3⟩ : 1 ≤ bt ∧ bt ≤ 128 ∧ bt / 2 = 128 / 2 ^ (j + 1) := by
        rcases (show j = 0 ∨ j = 1 ∨ j = 2 ∨ j = 3 ∨ j = 4 ∨ j = 5 ∨ j = 6 ∨ j = 7 by omega) with rfl | rfl | rfl | rfl | rfl | rfl | rfl | rfl <;> subst hbt <;> decide
      have HB := hide hb3
      have HR := hide hre
      have hcl := h1.cell bt (by omega)
      have hfz := h1.frozen bt
      have h1' : Tab (wr.setCell ⟨w.heap.size + 1, bt, none⟩ (.int .u32 (r : Int))) (w.heap.size + 1) (tabA (j + 1)) := by
        have := h1.set bt r
        rw [tabA, ← hbt, ← hre]; exact this
      have hand : bits .and .u32 (r : Int) 1 = ((r % 2 : Nat) : Int) := and1_u32 r hr
      have h0' : Tab (wr.setCell ⟨w.heap.size + 1, bt, none⟩ (.int .u32 (r : Int))) w.heap.size (tabA 0) := by
        refine ⟨?_, h0.2⟩
        rw [Below.heap_setCell _ _ _ _ (by simp)]
        exact h0.1
      have hb' := hb.setCell (p := ⟨w.heap.size + 1, bt, none⟩) (by simp) (.int .u32 (r : Int))
      clear hb3 hre hbt h1 h0 hb
      by_cases hodd : r % 2 = 1
      · have hodd' : (((r % 2 : Nat) : Int) == 1) = true := beq_iff_eq.2 (by omega)
        have hx : bits .xor .u32 ((r : Int) / 2) 2197175160 = ((r / 2 ^^^ 2197175160 : Nat) : Int) := xor_u32 (r / 2) 2197175160 (by omega) (by decide)
        have HS : Hid (rAt (j + 1) = r / 2 ^^^ 2197175160) := hide (by rw [rAt, ← unhide HR, stp, if_pos hodd])
        clear hodd
        go_wp2
        go_roundw
        case rel => exact ⟨j + 1, by omega, by rw [← unhide HB]; go_num, by rw [unhide HS], h0', h1', hb'⟩
        case measure => simp [intOf]; omega
      · have hodd' : (((r % 2 : Nat) : Int) == 1) = false := beq_eq_false_iff_ne.2 (by omega)
        have HS : Hid (rAt (j + 1) = r / 2) := hide (by rw [rAt, ← unhide HR, stp, if_neg hodd])
        clear hodd
        go_wp2
        go_roundw
        case rel => exact ⟨j + 1, by omega, by rw [← unhide HB]; go_num, by rw [unhide HS]; go_num, h0', h1', hb'⟩
        case measure => simp [intOf]; omega
    · obtain rfl : j = 8 := by omega
      obtain rfl : bt = 0 := by subst hbt; decide
      clear hbt hre
      go_wp2
      go_loopw [5, 6] (fun i _ wr => ∃ k : Nat, k ≤ 255 ∧ i = .int .i64 (k + 1 : Nat) ∧ Tab wr w.heap.size (tabA 0) ∧ Tab wr (w.heap.size + 1) (tabB k) ∧ Below w.heap.size w wr) (fun i _ _ => 256 - (intOf i).toNat)
      case atStart => exact ⟨0, by omega, rfl, h0, h1, hb⟩
      case round =>
        clear h0 h1 hb hr hj hj8
        obtain ⟨k, hk, rfl, h0, h1, hb⟩ := hrel
        obtain ⟨i, hi⟩ : ∃ i, i = k + 1 := ⟨_, rfl⟩
        rw [← hi]
        have HI := hide hi
        have hi1 : 1 ≤ i := by omega
        have hi2 : i ≤ 256 := by omega
        clear hi
        by_cases hlt : i < 256
        · have hlow := low_tab i hi1 hlt
          have hxr := low_xor i hi1 hlt
          obtain ⟨q1, q2⟩ := low_lt i hi1 hlt
          obtain ⟨lo, hlo⟩ : ∃ lo, lo = lowb i := ⟨_, rfl⟩
          obtain ⟨xo, hxo⟩ : ∃ xo, xo = i ^^^ lowb i := ⟨_, rfl⟩
          rw [← hxo] at hxr q2
          rw [← hlo] at hxr hlow q1
          have HLO := hide hlo
          have HXO := hide hxo
          clear hlo hxo
          have c1 := h1.cell lo q1
          have c2 := h1.cell xo q2
          have c3 := h1.cell i hlt
          have f3 := h1.frozen i
          have l1 := tabB_lt k lo
          have l2 := tabB_lt k xo
          obtain ⟨a1, ha1⟩ : ∃ a, a = (tabB k).getD lo 0 := ⟨_, rfl⟩
          obtain ⟨a2, ha2⟩ : ∃ a, a = (tabB k).getD xo 0 := ⟨_, rfl⟩
          rw [← ha1] at c1 l1
          rw [← ha2] at c2 l2
          have hx := xor_u32 a1 a2 l1 l2
          have HA1 := hide ha1
          have HA2 := hide ha2
          clear ha1 ha2
          have h1' : Tab ((wr.setCell ⟨w.heap.size + 1, i, none⟩ (.int .u32 ((a1 ^^^ a2 : Nat) : Int))).drew) (w.heap.size + 1) (tabB i) := by
            have := h1.set i (a1 ^^^ a2)
            have e : tabB i = (tabB k).set i (a1 ^^^ a2) := by
              rw [unhide HA1, unhide HA2, unhide HXO, unhide HLO, unhide HI]; rfl
            rw [e]
            exact this
          have h0' : Tab ((wr.setCell ⟨w.heap.size + 1, i, none⟩ (.int .u32 ((a1 ^^^ a2 : Nat) : Int))).drew) w.heap.size (tabA 0) := by
            refine ⟨?_, h0.2⟩
            show (wr.setCell _ _).heap[_]? = _
            rw [Below.heap_setCell _ _ _ _ (by simp)]
            exact h0.1
          have hb' := (hb.setCell (p := ⟨w.heap.size + 1, i, none⟩) (by simp) (.int .u32 ((a1 ^^^ a2 : Nat) : Int))).drew
          clear h1 h0 hb
          go_wp2
          go_region
          go_wp2
          go_roundw
          case rel => exact ⟨i, by omega, by go_num, h0', h1', hb'⟩
          case measure => simp [intOf]; omega
        · obtain rfl : i = 256 := by omega
          have hk5 : k = 255 := by have := unhide HI; omega
          have h1' : Tab wr (w.heap.size + 1) crcTab := by rw [hk5] at h1; exact h1
          clear h1 hk5 HI
          go_wp2_with (first | (refine wpList_load_row rfl 77 (.tmp 1) rfl (w.heap.size + 1) rfl 77 (tabCells crcTab) (0, 0) _ h1'.1 Try.underlying77 rfl (by rw [tab_size, h1'.2]; kernel_rfl) ?_) | (refine wpList_store_row rfl 77 (.tmp 0) (.tmp 41) rfl w.heap.size (tabCells crcTab) rfl rfl 77 (tabCells (tabA 0)) h0.1 (by rw [tab_size, h1'.2]; kernel_rfl) (by rw [tab_size, tab_size, h1'.2]; exact tabA_len 0) (tab_one _) ?_))
          refine bodyPost_ret (v := .agg (tabCells crcTab)) (results_cell_row rfl _ _ w.heap.size 77 (tabCells crcTab) (0, 0) _ rfl (setRow_heap _ _ _ _ _ _ h0.1) Try.underlying77 rfl (by rw [tab_size, h1'.2]; kernel_rfl)) rfl ⟨rfl, ?_⟩
          exact hb.trans (below_setRow' _ _ _ _ (Nat.le_refl _))
end Go.Proofs.Ytkikfdbjfhgfoaa
