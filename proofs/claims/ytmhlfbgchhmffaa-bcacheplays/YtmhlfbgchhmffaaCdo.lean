/-
  DERIVED. The law's do, by kinds.
-/
import Derived.Test.YtmhlfbgchhmffaaCasked
namespace Go.Proofs.Ytmhlfbgchhmffaa
open Go.RowKit Go.Maps
set_option linter.unusedVariables false

theorem Two.fr {N c b M Z Z' : Nat} {L L' : List Ii.T} {X : List It} {W W' : World} (h : Two N c b M Z L X W) (hc : Ii.CAt W' N c M Z' L') (hf : Ii.Fr N W W') : Two N c b M Z' L' X W' :=
  ⟨hc, h.rc.elim (fun v hv => ⟨v, hv.fr hf⟩), Nat.le_trans h.sz hf.size⟩
theorem Two.rfr {N c b M Z : Nat} {L : List Ii.T} {X X' : List It} {W W' : World} (h : Two N c b M Z L X W) (hr : ∃ v, RC W' N b M v X') (hf : RFr N W W') : Two N c b M Z L X' W' :=
  ⟨CAt.rfr h.ca hf, hr, Nat.le_trans h.sz hf.size⟩
/-- What a call on the program's cache comes to. -/
def CPost (N c M Z : Nat) (r : Value) (L' : List Ii.T) (W : World) (e : Ending) (w' : World) : Prop := e = .returned r ∧ Ii.CAt w' N c M Z L' ∧ Ii.Fr N W w'
def DPost (N c b M Z : Nat) (L' : List Ii.T) (X' : List It) (w : World) (e : Ending) (w' : World) : Prop := e = .returned (.bool true) ∧ Two N c b M Z L' X' w' ∧ Below N w w'
abbrev box (kind k v : Int) (d : Bool) : Obj := .cells #[.int .i64 kind, .int .i64 k, .int .i64 v, .bool d] 33
theorem Two.box {N c b M Z : Nat} {L : List Ii.T} {X : List It} {W : World} (h : Two N c b M Z L X W) (kind k v : Int) (d : Bool) : Two N c b M Z L X (W.alloc (box kind k v d)) ∧ Below N W (W.alloc (box kind k v d)) :=
  ⟨h.below ((Below.refl W.heap.size W).alloc (Nat.le_refl _) _), (Below.refl N W).alloc h.sz _⟩
theorem box_kept {N c b M Z : Nat} {L : List Ii.T} {X : List It} {W w1 w2 : World} {k4 : Array Value} (h : Two N c b M Z L X w1) (hw : w1.heap[W.heap.size]? = some (.cells k4 33 (0, 0))) (hf : Ii.Fr N w1 w2) : w2.heap[W.heap.size]? = some (.cells k4 33 (0, 0)) :=
  (hf.block _ (lt_of_block hw) (.inr (not_mine hw (by decide)))).trans hw

set_option maxRecDepth 20000 in
set_option maxHeartbeats 4000000 in
theorem do_pin (w : World) (N c b M Z : Nat) (L L' : List Ii.T) (X X' : List It) (k v r : Int) (d : Bool) (h : Two N c b M Z L X w)
    (hC : ∀ W, Ii.CAt W N c M Z L → Calls Try.prog 23 #[.pointer (some ⟨c, 0, none⟩), .int .i64 k] W (CPost N c M (Z + 1) (.int .i64 r) L' W))
    (hR : ∀ W v, RC W N b M v X → N ≤ W.heap.size → Calls Try.prog 36 #[.pointer (some ⟨b, 0, none⟩), .int .i64 1, .int .i64 k] W (GPost W N b M (.int .i64 r) X')) :
    Calls Try.prog 10 #[.pointer (some ⟨c, 0, none⟩), .pointer (some ⟨b, 0, none⟩), .agg #[.int .i64 3, .int .i64 k, .int .i64 v, .bool d]] w (DPost N c b M (Z + 1) L' X' w) := by
  obtain ⟨hb1, hb2⟩ := h.box 3 k v d
  have H0 : Hid (Two N c b M Z L X (w.alloc (box 3 k v d)).drew) := hide (hb1.drewN 1)
  have B0 : Hid (Below N w (w.alloc (box 3 k v d)).drew) := hide (below_drewN hb2 1)
  have HB : Hid ((w.alloc (box 3 k v d)).drew.heap[w.heap.size]? = some (.cells #[.int .i64 3, .int .i64 k, .int .i64 v, .bool d] 33 (0, 0))) := hide (heap_alloc_new w _)
  have HC := hide hC
  have HR := hide hR
  have hrr : (r == r) = true := by simp
  clear h hb1 hb2 hC hR
  go_enter Try.func10, Try.ntmps10
  go_wp2_with fail
  go_region_law (first | (go_simp; go_wp2_with (first
    | (go_at_call 23; refine (unhide HC _ (unhide H0).ca).mono ?_; rintro e w2 ⟨rfl, a2, f2⟩; have HC1 : Hid (Two N c b M (Z + 1) L' X w2) := hide ((unhide H0).fr a2 f2); have BC1 : Hid (Below N w w2) := hide ((unhide B0).trans (f2.below (unhide H0).sz)); have XB : Hid (w2.heap[w.heap.size]? = some (.cells #[.int .i64 3, .int .i64 k, .int .i64 v, .bool d] 33 (0, 0))) := hide ((f2.block _ (lt_of_block (unhide HB)) (.inr (not_mine (unhide HB) (by decide)))).trans (unhide HB)); have x1 : w2.cell? ⟨w.heap.size, 1, none⟩ = some (.int .i64 k) := (cell_of_row _ _ _ _ _ _ (unhide XB)).trans rfl; clear a2 f2)
    | (go_at_call 36; obtain ⟨rv, hrv⟩ := (unhide HC1).rc; refine (unhide HR _ rv hrv (unhide HC1).sz).mono ?_; rintro e w3 ⟨rfl, a3, f3⟩; have HE : Hid (Two N c b M (Z + 1) L' X' w3) := hide ((unhide HC1).rfr a3 f3); have BE : Hid (Below N w w3) := hide ((unhide BC1).trans (f3.below (unhide HC1).sz)); clear a3 f3 hrv rv)
    | fail)))
  all_goals go_wp2
  all_goals go_ret
  all_goals exact ⟨rfl, unhide HE, unhide BE⟩

set_option maxRecDepth 20000 in
set_option maxHeartbeats 4000000 in
theorem do_unpin (w : World) (N c b M Z : Nat) (L L' : List Ii.T) (X X' : List It) (k v r : Int) (d : Bool) (h : Two N c b M Z L X w)
    (hC : ∀ W, Ii.CAt W N c M Z L → Calls Try.prog 24 #[.pointer (some ⟨c, 0, none⟩), .int .i64 k] W (CPost N c M (Z + 1) (.int .i64 r) L' W))
    (hR : ∀ W v, RC W N b M v X → N ≤ W.heap.size → Calls Try.prog 36 #[.pointer (some ⟨b, 0, none⟩), .int .i64 2, .int .i64 k] W (GPost W N b M (.int .i64 r) X')) :
    Calls Try.prog 10 #[.pointer (some ⟨c, 0, none⟩), .pointer (some ⟨b, 0, none⟩), .agg #[.int .i64 4, .int .i64 k, .int .i64 v, .bool d]] w (DPost N c b M (Z + 1) L' X' w) := by
  obtain ⟨hb1, hb2⟩ := h.box 4 k v d
  have H0 : Hid (Two N c b M Z L X (w.alloc (box 4 k v d)).drew) := hide (hb1.drewN 1)
  have B0 : Hid (Below N w (w.alloc (box 4 k v d)).drew) := hide (below_drewN hb2 1)
  have HB : Hid ((w.alloc (box 4 k v d)).drew.heap[w.heap.size]? = some (.cells #[.int .i64 4, .int .i64 k, .int .i64 v, .bool d] 33 (0, 0))) := hide (heap_alloc_new w _)
  have HC := hide hC
  have HR := hide hR
  have hrr : (r == r) = true := by simp
  clear h hb1 hb2 hC hR
  go_enter Try.func10, Try.ntmps10
  go_wp2_with fail
  go_region_law (first | (go_simp; go_wp2_with (first
    | (go_at_call 24; refine (unhide HC _ (unhide H0).ca).mono ?_; rintro e w2 ⟨rfl, a2, f2⟩; have HC1 : Hid (Two N c b M (Z + 1) L' X w2) := hide ((unhide H0).fr a2 f2); have BC1 : Hid (Below N w w2) := hide ((unhide B0).trans (f2.below (unhide H0).sz)); have XB : Hid (w2.heap[w.heap.size]? = some (.cells #[.int .i64 4, .int .i64 k, .int .i64 v, .bool d] 33 (0, 0))) := hide ((f2.block _ (lt_of_block (unhide HB)) (.inr (not_mine (unhide HB) (by decide)))).trans (unhide HB)); have x1 : w2.cell? ⟨w.heap.size, 1, none⟩ = some (.int .i64 k) := (cell_of_row _ _ _ _ _ _ (unhide XB)).trans rfl; clear a2 f2)
    | (go_at_call 36; obtain ⟨rv, hrv⟩ := (unhide HC1).rc; refine (unhide HR _ rv hrv (unhide HC1).sz).mono ?_; rintro e w3 ⟨rfl, a3, f3⟩; have HE : Hid (Two N c b M (Z + 1) L' X' w3) := hide ((unhide HC1).rfr a3 f3); have BE : Hid (Below N w w3) := hide ((unhide BC1).trans (f3.below (unhide HC1).sz)); clear a3 f3 hrv rv)
    | fail)))
  all_goals go_wp2
  all_goals go_ret
  all_goals exact ⟨rfl, unhide HE, unhide BE⟩

set_option maxRecDepth 20000 in
set_option maxHeartbeats 4000000 in
theorem do_clean (w : World) (N c b M Z : Nat) (L L' : List Ii.T) (X X' : List It) (k v r : Int) (d : Bool) (h : Two N c b M Z L X w)
    (hC : ∀ W, Ii.CAt W N c M Z L → Calls Try.prog 25 #[.pointer (some ⟨c, 0, none⟩), .int .i64 k] W (CPost N c M (Z + 1) (.int .i64 r) L' W))
    (hR : ∀ W v, RC W N b M v X → N ≤ W.heap.size → Calls Try.prog 36 #[.pointer (some ⟨b, 0, none⟩), .int .i64 3, .int .i64 k] W (GPost W N b M (.int .i64 r) X')) :
    Calls Try.prog 10 #[.pointer (some ⟨c, 0, none⟩), .pointer (some ⟨b, 0, none⟩), .agg #[.int .i64 5, .int .i64 k, .int .i64 v, .bool d]] w (DPost N c b M (Z + 1) L' X' w) := by
  obtain ⟨hb1, hb2⟩ := h.box 5 k v d
  have H0 : Hid (Two N c b M Z L X (w.alloc (box 5 k v d)).drew) := hide (hb1.drewN 1)
  have B0 : Hid (Below N w (w.alloc (box 5 k v d)).drew) := hide (below_drewN hb2 1)
  have HB : Hid ((w.alloc (box 5 k v d)).drew.heap[w.heap.size]? = some (.cells #[.int .i64 5, .int .i64 k, .int .i64 v, .bool d] 33 (0, 0))) := hide (heap_alloc_new w _)
  have HC := hide hC
  have HR := hide hR
  have hrr : (r == r) = true := by simp
  clear h hb1 hb2 hC hR
  go_enter Try.func10, Try.ntmps10
  go_wp2_with fail
  go_region_law (first | (go_simp; go_wp2_with (first
    | (go_at_call 25; refine (unhide HC _ (unhide H0).ca).mono ?_; rintro e w2 ⟨rfl, a2, f2⟩; have HC1 : Hid (Two N c b M (Z + 1) L' X w2) := hide ((unhide H0).fr a2 f2); have BC1 : Hid (Below N w w2) := hide ((unhide B0).trans (f2.below (unhide H0).sz)); have XB : Hid (w2.heap[w.heap.size]? = some (.cells #[.int .i64 5, .int .i64 k, .int .i64 v, .bool d] 33 (0, 0))) := hide ((f2.block _ (lt_of_block (unhide HB)) (.inr (not_mine (unhide HB) (by decide)))).trans (unhide HB)); have x1 : w2.cell? ⟨w.heap.size, 1, none⟩ = some (.int .i64 k) := (cell_of_row _ _ _ _ _ _ (unhide XB)).trans rfl; clear a2 f2)
    | (go_at_call 36; obtain ⟨rv, hrv⟩ := (unhide HC1).rc; refine (unhide HR _ rv hrv (unhide HC1).sz).mono ?_; rintro e w3 ⟨rfl, a3, f3⟩; have HE : Hid (Two N c b M (Z + 1) L' X' w3) := hide ((unhide HC1).rfr a3 f3); have BE : Hid (Below N w w3) := hide ((unhide BC1).trans (f3.below (unhide HC1).sz)); clear a3 f3 hrv rv)
    | fail)))
  all_goals go_wp2
  all_goals go_ret
  all_goals exact ⟨rfl, unhide HE, unhide BE⟩

set_option maxRecDepth 20000 in
set_option maxHeartbeats 4000000 in
theorem do_drop (w : World) (N c b M Z : Nat) (L L' : List Ii.T) (X X' : List It) (k v r : Int) (d : Bool) (h : Two N c b M Z L X w)
    (hC : ∀ W, Ii.CAt W N c M Z L → Calls Try.prog 26 #[.pointer (some ⟨c, 0, none⟩), .int .i64 k] W (CPost N c M (Z + 1) (.int .i64 r) L' W))
    (hR : ∀ W v, RC W N b M v X → N ≤ W.heap.size → Calls Try.prog 36 #[.pointer (some ⟨b, 0, none⟩), .int .i64 4, .int .i64 k] W (GPost W N b M (.int .i64 r) X')) :
    Calls Try.prog 10 #[.pointer (some ⟨c, 0, none⟩), .pointer (some ⟨b, 0, none⟩), .agg #[.int .i64 6, .int .i64 k, .int .i64 v, .bool d]] w (DPost N c b M (Z + 1) L' X' w) := by
  obtain ⟨hb1, hb2⟩ := h.box 6 k v d
  have H0 : Hid (Two N c b M Z L X (w.alloc (box 6 k v d)).drew) := hide (hb1.drewN 1)
  have B0 : Hid (Below N w (w.alloc (box 6 k v d)).drew) := hide (below_drewN hb2 1)
  have HB : Hid ((w.alloc (box 6 k v d)).drew.heap[w.heap.size]? = some (.cells #[.int .i64 6, .int .i64 k, .int .i64 v, .bool d] 33 (0, 0))) := hide (heap_alloc_new w _)
  have HC := hide hC
  have HR := hide hR
  have hrr : (r == r) = true := by simp
  clear h hb1 hb2 hC hR
  go_enter Try.func10, Try.ntmps10
  go_wp2_with fail
  go_region_law (first | (go_simp; go_wp2_with (first
    | (go_at_call 26; refine (unhide HC _ (unhide H0).ca).mono ?_; rintro e w2 ⟨rfl, a2, f2⟩; have HC1 : Hid (Two N c b M (Z + 1) L' X w2) := hide ((unhide H0).fr a2 f2); have BC1 : Hid (Below N w w2) := hide ((unhide B0).trans (f2.below (unhide H0).sz)); have XB : Hid (w2.heap[w.heap.size]? = some (.cells #[.int .i64 6, .int .i64 k, .int .i64 v, .bool d] 33 (0, 0))) := hide ((f2.block _ (lt_of_block (unhide HB)) (.inr (not_mine (unhide HB) (by decide)))).trans (unhide HB)); have x1 : w2.cell? ⟨w.heap.size, 1, none⟩ = some (.int .i64 k) := (cell_of_row _ _ _ _ _ _ (unhide XB)).trans rfl; clear a2 f2)
    | (go_at_call 36; obtain ⟨rv, hrv⟩ := (unhide HC1).rc; refine (unhide HR _ rv hrv (unhide HC1).sz).mono ?_; rintro e w3 ⟨rfl, a3, f3⟩; have HE : Hid (Two N c b M (Z + 1) L' X' w3) := hide ((unhide HC1).rfr a3 f3); have BE : Hid (Below N w w3) := hide ((unhide BC1).trans (f3.below (unhide HC1).sz)); clear a3 f3 hrv rv)
    | fail)))
  all_goals go_wp2
  all_goals go_ret
  all_goals exact ⟨rfl, unhide HE, unhide BE⟩
end Go.Proofs.Ytmhlfbgchhmffaa
