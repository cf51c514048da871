/-
  DERIVED. Free: how many blocks may be taken.
-/
import Derived.Test.YtmnmciajldoabaaAall
namespace Go.Proofs.Ytmnmciajldoabaa
open Go.RowKit Go.Shelf
set_option linter.unusedVariables false
attribute [local go_sem] Oper.semAt_some

theorem total_cl_le (pre : List (Nat × Nat)) : total (pre.map cl) ≤ 512 * pre.length := by
  induction pre with
  | nil => simp [total]
  | cons x xs ih => rw [List.map_cons, total_cons]; have := cl_in x; simp; omega
theorem runs_len (B : Nat) (U V : Nat → Bool) (hB : B ≤ 512) : (runsOf B U V).length ≤ 512 :=
  Nat.le_trans (length_le_total (fun x hx => (runsOf_in hB x hx).1)) (Nat.le_trans (runsOf_total B U V) hB)

/-- A run's box. -/
def RBox (W : World) (Bx : Nat) (x : Nat × Nat) : Prop := W.heap[Bx]? = some (.cells #[.int .i64 (x.1 : Int), .int .i64 (x.2 : Int)] 36 (0, 0))
theorem RBox.lt {W : World} {Bx : Nat} {x : Nat × Nat} (h : RBox W Bx x) : Bx < W.heap.size := lt_of_block h
theorem RBox.c0 {W : World} {Bx : Nat} {x : Nat × Nat} (h : RBox W Bx x) : W.cell? ⟨Bx, 0, none⟩ = some (.int .i64 (x.1 : Int)) := by rw [cell_of_row _ _ _ _ _ _ h]; rfl
theorem RBox.c1 {W : World} {Bx : Nat} {x : Nat × Nat} (h : RBox W Bx x) : W.cell? ⟨Bx, 1, none⟩ = some (.int .i64 (x.2 : Int)) := by rw [cell_of_row _ _ _ _ _ _ h]; rfl
theorem RBox.frozen {W : World} {Bx : Nat} {x : Nat × Nat} (h : RBox W Bx x) (i : Nat) : W.frozen? ⟨Bx, i, none⟩ = false := by simp [World.frozen?, show W.heap[Bx]? = _ from h]
theorem RBox.own (B Bx : Nat) (x : Nat × Nat) : OwnFrom B (fun (_ : Unit) W => RBox W Bx x) := fun _ X Y row hs hg hr => (hg.block Bx hs.lt (fun e => by
  obtain ⟨_, o, ho, hc⟩ := hr Bx e.symm
  rw [show X.heap[Bx]? = _ from hs] at ho
  cases ho
  cases hc)).trans hs

theorem no_arr_int {tb : Nat} {W : World} {j : Nat} {n : Int} (h : W.cell? ⟨tb, 0, none⟩ = some (.int .i64 n)) : ¬ arr tb W j := by
  rintro ⟨len, cap, e⟩
  rw [h] at e
  cases e
/-- A number stored in a box ahead of the loop. -/
theorem Kp.setInt {w0 tb : Nat} {W : World} (htb : tb < w0) (c : Nat) (hc : c < w0) (v : Value) (ha : ∀ j, ¬ arr tb (W.setCell ⟨c, 0, none⟩ v) j) : Kp w0 tb W (W.setCell ⟨c, 0, none⟩ v) :=
  ⟨by simp, fun j _ _ _ hj _ _ => Below.heap_setCell W ⟨c, 0, none⟩ v j (show j ≠ c by omega), fun j h => absurd h (ha j)⟩

set_option maxRecDepth 100000 in
set_option maxHeartbeats 2000000 in
theorem Free_any (w : World) (b B : Nat) (U V : Nat → Bool) (h : MapAt w b B U V) :
    Calls Try.prog 22 #[.pointer (some ⟨b, 0, none⟩)] w fun e w' => e = .returned (.int .i64 (total (runsOf B U V) : Int)) ∧ w.grownBy w' none := by
  refine (callsIn_wide (n := 3)).1 ?_
  refine callsIn_of_wp_marks Try.func22 rfl trivial ?_ rfl
  simp only [Try.ntmps22, List.size_toArray, List.length_cons, List.length_nil, Nat.reduceAdd, Nat.reduceSub, Array.replicate_succ, Array.replicate_zero, List.push_toArray, List.append_toArray, List.nil_append, List.cons_append]
  have HM := hide h
  have hB := h.le
  clear h
  gi_wp2_with fail
  refine ⟨trivial, (callsIn_wide.2 (All_any _ _)).mono ?_⟩
  rintro e w' ⟨rfl, rfl⟩
  gi_wp2
  have bO := Boxed.new w 3 (.int .i64 0)
  have bN := Boxed.new (w.alloc (.cells #[.int .i64 0] 3)) 24 (.pointer (some ⟨b, 0, none⟩))
  rw [World.size_alloc] at bN
  obtain ⟨Wl, hWl⟩ : ∃ Wl, Wl = (w.alloc (.cells #[.int .i64 0] 3)).alloc (.cells #[.pointer (some ⟨b, 0, none⟩)] 24) := ⟨_, rfl⟩
  have hB0 : Below w.heap.size w Wl := by rw [hWl]; exact ((Below.refl _ w).alloc (Nat.le_refl _) _).alloc (by simp) _
  have hsz : Wl.heap.size = w.heap.size + 2 := by rw [hWl]; simp
  have bO' : Boxed Wl w.heap.size 3 (.int .i64 0) := by rw [hWl]; exact bO.alloc _
  have hm' : MapAt Wl b B U V := (unhide HM).below hB0 (unhide HM).lt
  rw [← hWl] at bN ⊢
  clear hWl bO
  refine wpIn_rangeFunc_ownH rfl (by omega) (gf := 40) (lb := #[.pointer (some ⟨w.heap.size + 1, 0, none⟩)]) rfl trivial (enters_of Try.func40 (by kernel_rfl) rfl)
    (AllIt_stops 2 b B (w.heap.size + 1) w.heap.size (w.heap.size + 1) U V Wl bN.cell bN.lt hm' (by omega) (by omega) (fun j => no_arr_int bO'.cell)) Kp.trans (Kp.book (by omega)) (Below.refl _ _) (fun _ => rfl)
    (fun pre W => Boxed W w.heap.size 3 (.int .i64 (total (pre.map cl) : Int)) ∧ Below w.heap.size w W)
    (fun _ _ _ => False)
    (OwnFrom.and (Own.from (boxed_own w.heap.size 3 (fun pre : List (Nat × Nat) => .int .i64 (total (pre.map cl) : Int))) _) (ownFrom_below (Nat.le_refl _) (by omega)))
    (fun _ _ _ _ _ hs _ _ => hs)
    ⟨bO', hB0⟩
    (fun x a' W => ∃ Bx, RBox W Bx (cl x) ∧ a' = { tmps := #[.pointer (some ⟨b, 0, none⟩), undef, .int .i64 0, .pointer (some ⟨w.heap.size, 0, none⟩), .pointer (some ⟨Bx, 0, none⟩), .pointer (some ⟨b, 0, none⟩), .func (.func 40) #[] #[.pointer (some ⟨w.heap.size + 1, 0, none⟩)], rv (cl x), undef, undef, undef, undef, undef], defers := [] })
    (fun x a' s A A' row hs hg hr => by
      obtain ⟨Bx, h2, h3⟩ := hs
      exact ⟨Bx, RBox.own _ Bx _ () A A' row h2 hg hr, h3⟩)
    ?assign ?body ?done ?stop
  case assign =>
    rintro l pre x W K ⟨hb1, hb2⟩ hK
    have HK := hide hK
    have hx := cl_in x
    obtain ⟨y, hy⟩ : ∃ y, y = cl x := ⟨_, rfl⟩
    rw [← hy] at hx HK ⊢
    obtain ⟨y1, y2⟩ := y
    unfold rv at HK ⊢
    simp only at hx HK ⊢
    clear hy hK
    gi_wp2
    exact unhide HK _ _ ((KeepsOthers.alloc _ _).from _) (Kp.of_grown (World.grownBy_alloc _ _ _) hb1.lt) ⟨hb1.alloc _, hb2.alloc hb2.size _⟩ ⟨W.heap.size, heap_alloc_new _ _, rfl⟩
  case body =>
    rintro l pre x a' W hl hr ⟨hb1, hb2⟩ ⟨Bx, hbx, rfl⟩ hlt
    have hlen := runs_len B U V hB
    have htot := total_cl_le pre
    have hx := cl_in x
    have HT : Hid (total ((pre ++ [x]).map cl) = total (pre.map cl) + (cl x).2) := hide (by rw [List.map_append, total_append]; simp [total])
    obtain ⟨y, hy⟩ : ∃ y, y = cl x := ⟨_, rfl⟩
    rw [← hy] at hx hbx HT ⊢
    clear hy
    obtain ⟨t, ht⟩ : ∃ t, t = total (pre.map cl) := ⟨_, rfl⟩
    rw [← ht] at hb1 HT htot
    clear ht
    have c := hb1.cell
    have c1 := hbx.c1
    have cf := hb1.frozen
    have h1 : (t : Int) ≤ 262144 := by omega
    have h2 : (y.2 : Int) ≤ 512 := by omega
    have hy0 : (0 : Int) ≤ y.2 := by omega
    gi_wp2
    refine ⟨(KeepsOthers.setCell _ _ _).from _, Kp.setInt (by omega) w.heap.size (by omega) _ (fun j => no_arr_int (hb1.set _).cell), ?_, hb2.setCell (p := ⟨w.heap.size, 0, none⟩) (Nat.le_refl _) _⟩
    rw [unhide HT]
    push_cast
    exact hb1.set _
  case done =>
    rintro D ys W hD rfl ⟨hb1, hb2⟩ hK
    rw [cl_map (runsOf_in hB)] at hb1
    have c := hb1.cell
    gi_wp2
    refine ⟨by simp, .inl ⟨_, _, rfl, run_takeDeferred hK, ?_⟩⟩
    exact ⟨_, results_tmp rfl _ _ _, rfl, grown_of_below (hb2.trans (belowK_b (w := w) (Nat.le_refl _) W D _ _ (by omega) hK rfl rfl))⟩
  case stop =>
    rintro D c pre W _ _ h _
    exact h.elim
end Go.Proofs.Ytmnmciajldoabaa
