/-
  DERIVED. The law's do: Get, Put, what is asked, and nothing.
-/
import Derived.Test.YtmhlfbgchhmffaaCdo
namespace Go.Proofs.Ytmhlfbgchhmffaa
open Go.RowKit Go.Maps
set_option linter.unusedVariables false


set_option maxRecDepth 20000 in
set_option maxHeartbeats 4000000 in
theorem do_get (w : World) (N c b M Z : Nat) (L L' : List Ii.T) (X X' : List It) (k v : Int) (d : Bool) (rv1 : Int) (ro : Bool) (h : Two N c b M Z L X w)
    (hC : ∀ W, Ii.CAt W N c M Z L → N ≤ W.heap.size → Calls Try.prog 21 #[.pointer (some ⟨c, 0, none⟩), .int .i64 k] W (CPost N c M (Z + 1) (.tuple #[.int .i64 rv1, .bool ro]) L' W))
    (hR : ∀ W v0, RC W N b M v0 X → N ≤ W.heap.size → Calls Try.prog 34 #[.pointer (some ⟨b, 0, none⟩), .int .i64 k] W (GPost W N b M (.tuple #[.int .i64 rv1, .bool ro]) X')) :
    Calls Try.prog 10 #[.pointer (some ⟨c, 0, none⟩), .pointer (some ⟨b, 0, none⟩), .agg #[.int .i64 1, .int .i64 k, .int .i64 v, .bool d]] w (DPost N c b M (Z + 1) L' X' w) := by
  obtain ⟨hb1, hb2⟩ := h.box 1 k v d
  have H0 := hide hb1
  have B0 := hide hb2
  have HB : Hid ((w.alloc (box 1 k v d)).heap[w.heap.size]? = some (.cells #[.int .i64 1, .int .i64 k, .int .i64 v, .bool d] 33 (0, 0))) := hide (heap_alloc_new w _)
  have HC := hide hC
  have HR := hide hR
  have h1 : (rv1 == rv1) = true := by simp
  have h2 : (ro == ro) = true := by simp
  clear h hb1 hb2 hC hR
  go_enter Try.func10, Try.ntmps10
  go_wp2_with fail
  refine (unhide HC _ (unhide H0).ca (unhide H0).sz).mono ?_
  rintro e w2 ⟨rfl, a2, f2⟩
  have HC1 : Hid (Two N c b M (Z + 1) L' X w2) := hide ((unhide H0).fr a2 f2)
  have BC1 : Hid (Below N w w2) := hide ((unhide B0).trans (f2.below (unhide H0).sz))
  have XB : w2.heap[w.heap.size]? = some (.cells #[.int .i64 1, .int .i64 k, .int .i64 v, .bool d] 33 (0, 0)) := (f2.block _ (lt_of_block (unhide HB)) (.inr (not_mine (unhide HB) (by decide)))).trans (unhide HB)
  have x1 : w2.cell? ⟨w.heap.size, 1, none⟩ = some (.int .i64 k) := (cell_of_row _ _ _ _ _ _ XB).trans rfl
  have x2 : w2.cell? ⟨w.heap.size, 2, none⟩ = some (.int .i64 v) := (cell_of_row _ _ _ _ _ _ XB).trans rfl
  have x3 : w2.cell? ⟨w.heap.size, 3, none⟩ = some (.bool d) := (cell_of_row _ _ _ _ _ _ XB).trans rfl
  clear a2 f2 XB
  go_wp2_with fail
  obtain ⟨rv, hrv⟩ := (unhide HC1).rc
  refine (unhide HR _ rv hrv (unhide HC1).sz).mono ?_
  rintro e w3 ⟨rfl, a3, f3⟩
  have HE : Hid (Two N c b M (Z + 1) L' X' w3) := hide ((unhide HC1).rfr a3 f3)
  have BE : Hid (Below N w w3) := hide ((unhide BC1).trans (f3.below (unhide HC1).sz))
  clear a3 f3 hrv rv
  go_wp2
  go_ret
  exact ⟨rfl, unhide HE, unhide BE⟩

set_option maxRecDepth 20000 in
set_option maxHeartbeats 4000000 in
theorem do_put (w : World) (N c b M Z : Nat) (L : List Ii.T) (X X' : List It) (k v : Int) (d : Bool) (r1 r2 : Int) (r3 r4 : Bool) (r5 : Int) (h : Two N c b M Z L X w)
    (hC : ∀ W, Ii.CAt W N c M Z L → N ≤ W.heap.size → Calls Try.prog 22 #[.pointer (some ⟨c, 0, none⟩), .int .i64 k, .int .i64 v, .bool d] W fun e w' => e = .returned (.tuple #[.int .i64 r1, .int .i64 r2, .bool r3, .bool r4, .int .i64 r5]) ∧ (∃ L', Ii.CAt w' N c M (Z + 1) L' ∧ L'.map strip = X') ∧ Ii.Fr N W w')
    (hR : ∀ W v0, RC W N b M v0 X → N ≤ W.heap.size → Calls Try.prog 35 #[.pointer (some ⟨b, 0, none⟩), .int .i64 k, .int .i64 v, .bool d] W (GPost W N b M (.tuple #[.int .i64 r1, .int .i64 r2, .bool r3, .bool r4, .int .i64 r5]) X')) :
    Calls Try.prog 10 #[.pointer (some ⟨c, 0, none⟩), .pointer (some ⟨b, 0, none⟩), .agg #[.int .i64 2, .int .i64 k, .int .i64 v, .bool d]] w fun e w' => e = .returned (.bool true) ∧ (∃ L', Two N c b M (Z + 1) L' (L'.map strip) w') ∧ Below N w w' := by
  obtain ⟨hb1, hb2⟩ := h.box 2 k v d
  have H0 := hide hb1
  have B0 := hide hb2
  have HB : Hid ((w.alloc (box 2 k v d)).heap[w.heap.size]? = some (.cells #[.int .i64 2, .int .i64 k, .int .i64 v, .bool d] 33 (0, 0))) := hide (heap_alloc_new w _)
  have HC := hide hC
  have HR := hide hR
  have h1 : (r1 == r1) = true := by simp
  have h2 : (r2 == r2) = true := by simp
  have h3 : (r3 == r3) = true := by simp
  have h4 : (r4 == r4) = true := by simp
  have h5 : (r5 == r5) = true := by simp
  clear h hb1 hb2 hC hR
  go_enter Try.func10, Try.ntmps10
  go_wp2_with fail
  refine (unhide HC _ (unhide H0).ca (unhide H0).sz).mono ?_
  rintro e w2 ⟨rfl, ⟨L', a2, eL⟩, f2⟩
  have EL := hide eL
  have HC1 : Hid (Two N c b M (Z + 1) L' X w2) := hide ((unhide H0).fr a2 f2)
  have BC1 : Hid (Below N w w2) := hide ((unhide B0).trans (f2.below (unhide H0).sz))
  have XB : w2.heap[w.heap.size]? = some (.cells #[.int .i64 2, .int .i64 k, .int .i64 v, .bool d] 33 (0, 0)) := (f2.block _ (lt_of_block (unhide HB)) (.inr (not_mine (unhide HB) (by decide)))).trans (unhide HB)
  have x1 : w2.cell? ⟨w.heap.size, 1, none⟩ = some (.int .i64 k) := (cell_of_row _ _ _ _ _ _ XB).trans rfl
  have x2 : w2.cell? ⟨w.heap.size, 2, none⟩ = some (.int .i64 v) := (cell_of_row _ _ _ _ _ _ XB).trans rfl
  have x3 : w2.cell? ⟨w.heap.size, 3, none⟩ = some (.bool d) := (cell_of_row _ _ _ _ _ _ XB).trans rfl
  clear a2 f2 XB eL
  go_wp2_with fail
  obtain ⟨rv, hrv⟩ := (unhide HC1).rc
  refine (unhide HR _ rv hrv (unhide HC1).sz).mono ?_
  rintro e w3 ⟨rfl, a3, f3⟩
  have HE : Hid (Two N c b M (Z + 1) L' X' w3) := hide ((unhide HC1).rfr a3 f3)
  have BE : Hid (Below N w w3) := hide ((unhide BC1).trans (f3.below (unhide HC1).sz))
  clear a3 f3 hrv rv
  go_wp2
  go_ret
  exact ⟨rfl, ⟨L', by rw [unhide EL]; exact unhide HE⟩, unhide BE⟩

set_option maxRecDepth 20000 in
set_option maxHeartbeats 4000000 in
theorem do_asked (w : World) (N c b M Z : Nat) (L : List Ii.T) (k v : Int) (d : Bool) (h : Two N c b M Z L (L.map strip) w) :
    Calls Try.prog 10 #[.pointer (some ⟨c, 0, none⟩), .pointer (some ⟨b, 0, none⟩), .agg #[.int .i64 7, .int .i64 k, .int .i64 v, .bool d]] w (DPost N c b M Z L (L.map strip) w) := by
  obtain ⟨hb1, hb2⟩ := h.box 7 k v d
  have H0 := hide hb1
  have B0 := hide hb2
  have hN := h.sz
  clear h hb1 hb2
  go_enter Try.func10, Try.ntmps10
  go_wp2_with fail
  refine (asked_any _ N c b M Z L (unhide H0)).mono ?_
  rintro e w2 ⟨rfl, a2, f2⟩
  have HE := hide a2
  have BE : Hid (Below N w w2) := hide ((unhide B0).trans (f2.mono (unhide H0).sz))
  clear a2 f2
  go_wp2
  go_ret
  exact ⟨rfl, unhide HE, unhide BE⟩
set_option maxRecDepth 20000 in
set_option maxHeartbeats 4000000 in
theorem do_nothing (w : World) (N c b M Z : Nat) (L : List Ii.T) (kind k v : Int) (d : Bool) (h : Two N c b M Z L (L.map strip) w) (h1 : (kind == 1) = false) (h2 : (kind == 2) = false) (h3 : (kind == 3) = false) (h4 : (kind == 4) = false) (h5 : (kind == 5) = false) (h6 : (kind == 6) = false) (h7 : (kind == 7) = false) :
    Calls Try.prog 10 #[.pointer (some ⟨c, 0, none⟩), .pointer (some ⟨b, 0, none⟩), .agg #[.int .i64 kind, .int .i64 k, .int .i64 v, .bool d]] w (DPost N c b M Z L (L.map strip) w) := by
  obtain ⟨hb1, hb2⟩ := h.box kind k v d
  have H0 := hide hb1
  have B0 := hide hb2
  clear h hb1 hb2
  go_enter Try.func10, Try.ntmps10
  go_wp2
  go_ret
  exact ⟨rfl, unhide H0, unhide B0⟩
end Go.Proofs.Ytmhlfbgchhmffaa
