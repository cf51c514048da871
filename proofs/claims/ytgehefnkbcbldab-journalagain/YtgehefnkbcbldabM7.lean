/-
  DERIVED. The chapter's examples are so.
-/
import Derived.Test.YtgehefnkbcbldabM6
import Derived.Test.YtgehefnkbcbldabM5
import Derived.Deep.Slices
import Derived.Deep.Lists
import Derived.Laws.AppendOwn
import Derived.Deep.RegionLaw
namespace Go.Proofs.Ytgehefnkbcbldab
open Go.RowKit
set_option linter.unusedVariables false
set_option maxRecDepth 20000

theorem okW_two (size : Nat) (h : 2 ≤ size) (A B : List UInt8) : okW (size : Int) [(0, A), (1, B)] := by
  intro p hp
  simp only [List.mem_cons, List.not_mem_nil, or_false] at hp
  rcases hp with rfl | rfl <;> simp only <;> omega

set_option maxHeartbeats 8000000 in
theorem Jawake_any (w : World) : Calls Try.prog 4 #[] w fun e w' => e = .returned (.bool true) ∧ Below w.heap.size w w' := by
  go_enter Try.func4, Try.ntmps4
  go_wp2_with fail
  refine (laid_r w w (Below.refl _ _) 64 (by omega) (by omega)).mono ?_
  rintro e w1 ⟨b, lb, T, rfl, r1, q1, n1, l1, f1⟩
  have R1 := hide r1
  have SZ := Size_r r1
  rw [l1] at SZ
  have HSZ := hide SZ
  clear r1 SZ
  go_wp2_with fail
  refine (unhide HSZ).mono ?_
  rintro e w2 ⟨rfl, rfl⟩
  go_wp2_with fail
  refine (Block_any 1 ⟨#[]⟩ w2 (by omega) (by omega)).mono ?_
  rintro e w3 ⟨rfl, s3, b3⟩
  obtain ⟨A, hA⟩ : ∃ A, A = headL ⟨#[]⟩ (fillL (UInt8.ofNat (pickR 1 255)) 512) := ⟨_, rfl⟩
  have hAl : A.length = 512 := by rw [hA]; exact headL_len _ _
  rw [← hA] at s3
  have B3 := hide b3
  have S3 := hide s3
  have z3 := b3.size
  have y3 : w2.heap.size < w3.heap.size := lt_of_block s3
  clear b3 s3 hA
  go_wp2_with fail
  refine (Block_any 2 ⟨#[]⟩ w3 (by omega) (by omega)).mono ?_
  rintro e w4 ⟨rfl, s4, b4⟩
  obtain ⟨C, hC⟩ : ∃ C, C = headL ⟨#[]⟩ (fillL (UInt8.ofNat (pickR 2 255)) 512) := ⟨_, rfl⟩
  have hCl : C.length = 512 := by rw [hC]; exact headL_len _ _
  rw [← hC] at s4
  have B4 := hide b4
  have S4 := hide s4
  have z4 := b4.size
  clear b4 s4 hC
  go_wp2_with fail
  obtain ⟨W5, hW5⟩ : ∃ W5, W5 = w4.alloc (.cells #[.int .i64 0, .slice (some ⟨w2.heap.size, 0, none⟩) 512 512, .int .i64 1, .slice (some ⟨w3.heap.size, 0, none⟩) 512 512] 42) := ⟨_, rfl⟩
  have hB5 : Below w4.heap.size w4 W5 := by rw [hW5]; exact (Below.refl _ _).alloc (Nat.le_refl _) _
  have hr5 : W5.heap[w4.heap.size]? = some (.cells #[.int .i64 0, .slice (some ⟨w2.heap.size, 0, none⟩) 512 512, .int .i64 1, .slice (some ⟨w3.heap.size, 0, none⟩) 512 512] 42 (0, 0)) := by rw [hW5]; exact heap_alloc_self _ _
  have y4 : w3.heap.size < w4.heap.size := lt_of_block (unhide S4)
  have z5 := hB5.size
  have sA : W5.heap[w2.heap.size]? = some (.cells (A.map bv).toArray 5 (0, 0)) := (hB5.block _ (by omega)).trans (((unhide B4).block _ (by omega)).trans (unhide S3))
  have sC : W5.heap[w3.heap.size]? = some (.cells (C.map bv).toArray 5 (0, 0)) := (hB5.block _ (by omega)).trans (unhide S4)
  have hB : Below w2.heap.size w2 W5 := ((unhide B3).trans ((unhide B4).mono z3)).trans (hB5.mono (by omega))
  obtain ⟨xa, hxa⟩ : ∃ xa, xa = w2.heap.size := ⟨_, rfl⟩
  obtain ⟨xc, hxc⟩ : ∃ xc, xc = w3.heap.size := ⟨_, rfl⟩
  have R5 : Hid (Rst w W5 b lb 2200 (fun j => j = xa ∨ j = xc) T false) := hide ((unhide R1).grown hB fun j hj => .inr (by rcases hj with rfl | rfl <;> omega))
  have hwr : Wrs W5 (.slice (some ⟨w4.heap.size, 0, none⟩) 2 2) [(0, A), (1, C)] := by
    refine ⟨_, 2, rfl, by simp, by omega, fun p hp => ?_, fun _ => ⟨w4.heap.size, 0, rfl, lt_of_block hr5, fun i hi => ?_⟩⟩
    · simp only [List.mem_cons, List.not_mem_nil, or_false] at hp
      rcases hp with rfl | rfl
      · exact ⟨hAl, by simp only; omega, by simp only; omega⟩
      · exact ⟨hCl, by simp only; omega, by simp only; omega⟩
    · have hi2 : i < 2 := hi
      rcases (show i = 0 ∨ i = 1 by omega) with rfl | rfl
      · exact ⟨_, _, (cell_of_row _ _ _ _ _ _ hr5).trans rfl, (cell_of_row _ _ _ _ _ _ hr5).trans rfl, sl_block sA hAl⟩
      · exact ⟨_, _, (cell_of_row _ _ _ _ _ _ hr5).trans rfl, (cell_of_row _ _ _ _ _ _ hr5).trans rfl, sl_block sC hCl⟩
  have ho5 := (unhide R5).ops
  obtain ⟨T2, t1, t2, t3, t4, t5⟩ := com_free q1 f1 (by omega) [(0, A), (1, C)] (by simp) (okW_two _ (by rw [l1]; decide) A C)
  have CM := Commit_r (unhide R5) q1 (by omega) _ _ hwr
  rw [t1] at CM
  have HCM := hide CM
  have SA := hide sA
  have SC := hide sC
  have HTQ := hide t2
  have HTP := hide t3
  rw [← hW5]
  rw [← hxa, ← hxc] at *
  clear hW5 hwr CM t1 hr5 sA sC hB hB5 R1 B3 B4 S3 S4 hxa hxc t2 t3 q1 n1 ho5 z3 y3 z4 y4 z5
  refine (unhide HCM).mono ?_
  rintro e w6 ⟨rfl, r6, g6⟩
  have R6 : Hid (RstD w w6 b 2400 (fun j => j = xa ∨ j = xc) T2) := hide r6.dev
  have SG6 := hide g6
  clear r6 g6 HCM R5
  go_wp2_with fail
  refine (Crash_r (unhide R6) (by omega) [] _ (ints_nil w)).mono ?_
  rintro e w7 ⟨rfl, r7, g7⟩
  have R7 := hide r7
  have SG7 := hide ((unhide SG6).trans g7)
  clear r7 g7 R6 SG6
  have hsd := ((unhide HTQ).sound (unhide HTP)).crash []
  have HOP := hide (Open_f (unhide R7) hsd (Free.crash T2 []) (by omega))
  have l7 : (T2.crash []).safe.length = 64 := by rw [crash_len, t4, l1]
  rw [l7] at HOP
  clear hsd l7
  go_wp2_with fail
  refine (unhide HOP).mono ?_
  rintro e w8 ⟨g8, mb, T3, rfl, r8, q8, p8, l8, f8⟩
  have R8 := hide r8
  have SG8 := hide ((unhide SG7).trans g8)
  have Q8 := hide q8
  clear r8 g8 SG7 R7 HOP p8
  go_wp2_with fail
  refine (Read_f (unhide R8) (unhide Q8) f8 (by omega) 0 (by rw [l8]; decide)).mono ?_
  rintro e w9 ⟨g9, qa, rfl, hqa, s9, h9, r9⟩
  have R9 := hide r9
  have SG9 := hide ((unhide SG8).trans g9)
  have Q9 := hide ((unhide Q8).burn f8)
  have S9 := hide s9
  clear r9 g9 SG8 R8 Q8 s9
  go_wp2_with fail
  refine (Read_f (unhide R9) (unhide Q9) f8.burn (by omega) 1 (by show 1 < T3.safe.length - 20; rw [l8]; decide)).mono ?_
  rintro e wA ⟨gA, qb, rfl, hqb, sA, hA9, rA⟩
  have e0 : over (prtW [(0, A), (1, C)]) zeros 0 = A := by simp [over, prtW]
  have e1 : over (prtW [(0, A), (1, C)]) zeros 1 = C := by simp [over, prtW]
  have k0 : Sl wA (.slice (some ⟨qa, 0, none⟩) 512 512) A := sl_block ((gA.2 qa (.inr rfl)).trans (by have := unhide S9; rw [e0] at this; exact this)) hAl
  have k1 : Sl wA (.slice (some ⟨qb, 0, none⟩) 512 512) C := sl_block (by rw [e1] at sA; exact sA) hCl
  have k2 : Sl wA (.slice (some ⟨xa, 0, none⟩) 512 512) A := sl_block ((gA.2 xa (.inl (.inl rfl))).trans (((unhide SG9).2 xa (.inl rfl)).trans (unhide SA))) hAl
  have k3 : Sl wA (.slice (some ⟨xc, 0, none⟩) 512 512) C := sl_block ((gA.2 xc (.inl (.inr rfl))).trans (((unhide SG9).2 xc (.inr rfl)).trans (unhide SC))) hCl
  have v0 := k0.strJ
  have v1 := k1.strJ
  have v2 := k2.strJ
  have v3 := k3.strJ
  have RA := hide rA.bel
  clear k0 k1 k2 k3 rA gA SG9 S9 sA R9 Q9 e0 e1 SA SC
  go_wp2
  go_ret
  exact ⟨rfl, unhide RA⟩
end Go.Proofs.Ytgehefnkbcbldab

/-
  DERIVED. Format of no device, Commit of no log.
-/
namespace Go.Proofs.Ytgehefnkbcbldab
open Go.RowKit
set_option linter.unusedVariables false

theorem JFormat_nil (w : World) : Calls Try.prog 16 #[.pointer none] w fun e w' => e = .returned (.int .i64 1) ∧ w.grownBy w' none := by
  have hg := World.grownBy_alloc w (.cells #[.pointer none] 25) none
  go_enter Try.func16, Try.ntmps16
  go_wp2
  go_ret
  exact ⟨rfl, hg⟩
theorem JCommit_nil (w : World) (v : Value) : Calls Try.prog 9 #[.pointer none, v] w fun e w' => e = .returned (.int .i64 1) ∧ w.grownBy w' none := by
  have hg := World.grownBy_alloc w (.cells #[.pointer none] 26) none
  go_enter Try.func9, Try.ntmps9
  go_wp2_with fail
  refine (Jup_nil _).mono ?_
  rintro e w1 ⟨rfl, rfl⟩
  go_wp2
  go_ret
  exact ⟨rfl, hg⟩
end Go.Proofs.Ytgehefnkbcbldab

/-
  DERIVED. The law's raw blocks: how a slice of them is opened; a row of blocks to be written, of one's own.
-/
namespace Go.Proofs.Ytgehefnkbcbldab
open Go.ChangeShapes Go.WideShapes Go.ChangeAt Go.RowKit
set_option linter.unusedVariables false

/-- A raw block, as it reads. -/
structure On where
  n : Int
  fill : Int
  head : ByteArray
instance : Inhabited On := ⟨⟨0, 0, ByteArray.empty⟩⟩
abbrev I64 (x : Int) : Prop := -9223372036854775808 ≤ x ∧ x < 9223372036854775808
structure OnAt (w : World) (b o : Nat) (c : On) : Prop where
  c0 : w.cell? ⟨b, o, none⟩ = some (.int .i64 c.n)
  c1 : w.cell? ⟨b, o + 1, none⟩ = some (.int .i64 c.fill)
  c2 : w.cell? ⟨b, o + 2, none⟩ = some (.string c.head)
  i0 : I64 c.n
  i1 : I64 c.fill
/-- A slice of raw blocks. -/
def OnL (w : World) (v : Value) (l : List On) : Prop :=
  ∃ ao cap, v = .slice ao l.length cap ∧ l.length ≤ cap ∧ cap ≤ 9223372036854775807 ∧ (0 < l.length → ∃ b off, ao = some ⟨b, off, none⟩ ∧ b < w.heap.size ∧ ∀ i, (h : i < l.length) → OnAt w b (off + i * 3) l[i])
theorem OnAt.below {B : Nat} {w w' : World} {b o : Nat} {c : On} (h : OnAt w b o c) (hb : Below B w w') (hlt : b < B) : OnAt w' b o c :=
  { c0 := (hb.cell (p := ⟨b, _, none⟩) hlt).trans h.c0, c1 := (hb.cell (p := ⟨b, _, none⟩) hlt).trans h.c1, c2 := (hb.cell (p := ⟨b, _, none⟩) hlt).trans h.c2, i0 := h.i0, i1 := h.i1 }
theorem OnL.below {B : Nat} {w w' : World} {v : Value} {l : List On} (h : OnL w v l) (hb : Below B w w') (hB : w.heap.size ≤ B) : OnL w' v l := by
  obtain ⟨ao, cap, rfl, h1, h1', h2⟩ := h
  refine ⟨ao, cap, rfl, h1, h1', fun hn => ?_⟩
  obtain ⟨b, off, e, hlt, hc⟩ := h2 hn
  exact ⟨b, off, e, by have := hb.size; omega, fun i hi => (hc i hi).below hb (by omega)⟩
theorem Try.cellsOn : Try.prog.cellsOf 50 = 3 := by kernel_rfl
theorem Try.cellsStrJ : Try.prog.cellsOf 9 = 1 := by kernel_rfl
theorem Try.cellsIntJ : Try.prog.cellsOf 3 = 1 := by kernel_rfl
theorem Try.underOn : ∃ f0 f1 f2, Try.prog.underlying 50 = some (.struct #[f0, f1, f2]) ∧ (f0.offset = 0 ∧ f1.offset = 1 ∧ f2.offset = 2) ∧ f0.type = 3 ∧ f1.type = 3 ∧ f2.type = 9 := ⟨_, _, _, Try.underlying50, ⟨rfl, rfl, rfl⟩, rfl, rfl, rfl⟩

set_option maxRecDepth 100000 in
theorem open_ones {H : Type} {enc : TypeId × Value → H} {W : World} {a : Option Addr} {n c : Nat} {d : DataW H} {p : List MemPlace}
    (h : DataW.Trod enc Try.prog W 0 (fun _ => true) true 22 (.slice a n c) d p) : ∃ l : List On, OnL W (.slice a n c) l := by
  obtain ⟨fuel, hf⟩ := h
  obtain ⟨f0, f1, f2, hu, ⟨o0, o1, o2⟩, t0, t1, t2⟩ := Try.underOn
  rcases Go.Deep.open_slice Try.underlying22 hf with ⟨hcs, hx⟩ | ⟨x, n', cap, m, k, D, Pl, hcs, _, hl, hm, hz, hx, hcell⟩
  · simp [Value.cells] at hcs
    obtain ⟨rfl, rfl, rfl⟩ := hcs
    exact ⟨[], none, 0, rfl, by simp, by omega, fun h => by simp at h⟩
  · simp [Value.cells] at hcs
    obtain ⟨rfl, rfl, rfl⟩ := hcs
    rw [if_pos rfl] at hz
    subst hz
    unfold maxLen at hm
    have hel : ∀ i, i < n → ∃ e : On, I64 e.n ∧ I64 e.fill ∧ W.cell? (x.add (i * 3)) = some (.int .i64 e.n) ∧ W.cell? (x.add (i * 3 + 1)) = some (.int .i64 e.fill) ∧ W.cell? (x.add (i * 3 + 2)) = some (.string e.head) := by
      intro i hi
      obtain ⟨cs, q1, q2⟩ := hcell i (by omega)
      rw [Try.cellsOn] at q1
      obtain ⟨_, hlen, hc⟩ := World.cells?_some q1
      match cs, hlen with
      | [c0, c1, c2], _ =>
        obtain ⟨xs, k', _, _, _, hxl, hfl⟩ := DataW.trod_struct hu q2
        match xs, hxl with
        | [x0, x1, x2], _ =>
          have g0 := hfl 0 f0 rfl
          have g1 := hfl 1 f1 rfl
          have g2 := hfl 2 f2 rfl
          rw [o0, t0, Try.cellsIntJ] at g0
          rw [o1, t1, Try.cellsIntJ] at g1
          rw [o2, t2, Try.cellsStrJ] at g2
          obtain ⟨s0, e0, _, w0⟩ := DataW.trod_int Try.underlying3 g0
          obtain ⟨s1, e1, _, w1⟩ := DataW.trod_int Try.underlying3 g1
          obtain ⟨s2, e2, _, w2⟩ := DataW.trod_string Try.underlying9 g2
          simp at e0 e1 e2
          subst e0 e1 e2
          have k0 := hc 0 (by omega)
          have k1 := hc 1 (by omega)
          have k2 := hc 2 (by omega)
          rw [Go.Deep.add_add] at k0 k1 k2
          have b0 := bounds_i64 w0
          have b1 := bounds_i64 w1
          have B0 : I64 s0 := ⟨by omega, by omega⟩
          have B1 : I64 s1 := ⟨by omega, by omega⟩
          exact ⟨⟨s0, s1, s2⟩, B0, B1, k0, k1, k2⟩
    obtain ⟨F, hF⟩ := Go.Deep.choose_lt (α := On) hel
    have hlen : ((List.range n).map F).length = n := by simp
    refine ⟨(List.range n).map F, some x, _, by rw [hlen], by rw [hlen]; omega, by omega, fun hz => ?_⟩
    rw [hlen] at hz
    have h0 := (hF 0 (by omega)).2.2.1
    have hsp := World.cell?_spot h0
    obtain ⟨b, off, sp⟩ := x
    have hsp' : sp = none := by
      cases sp with
      | none => rfl
      | some k => simp [Addr.add] at hsp
    subst hsp'
    refine ⟨b, off, rfl, ?_, fun i hi => ?_⟩
    · rw [addr_add] at h0
      exact World.block_lt_of_cell? W ⟨b, off + 0 * 3, none⟩ h0
    · have hi' : i < n := by rw [hlen] at hi; exact hi
      obtain ⟨j0, j1, q0, q1, q2⟩ := hF i hi'
      rw [addr_add] at q0 q1 q2
      have e : ((List.range n).map F)[i] = F i := by simp
      rw [e]
      simp only [← Nat.add_assoc] at q1 q2
      exact { c0 := q0, c1 := q1, c2 := q2, i0 := j0, i1 := j1 }

/-! ### A row of writes -/
/-- A write's value: its block, its bytes' slice. -/
abbrev wv (q : Nat) : Value := .slice (some ⟨q, 0, none⟩) 512 512
def wcells (xs : List (Int × Nat)) : List Value := xs.flatMap fun x => [.int .i64 x.1, wv x.2]
theorem wcells_cons (x : Int × Nat) (xs : List (Int × Nat)) : wcells (x :: xs) = .int .i64 x.1 :: wv x.2 :: wcells xs := rfl
theorem wcells_snoc (xs : List (Int × Nat)) (x : Int × Nat) : wcells (xs ++ [x]) = wcells xs ++ [.int .i64 x.1, wv x.2] := by simp [wcells]
theorem wcells_one (xs : List (Int × Nat)) : ∀ u ∈ wcells xs, u.oneCell' = true := by
  intro u hu
  obtain ⟨x, _, hx⟩ := List.mem_flatMap.1 hu
  rcases List.mem_cons.1 hx with rfl | hx
  · rfl
  · rcases List.mem_cons.1 hx with rfl | hx
    · rfl
    · cases hx
theorem wcells_len : ∀ xs : List (Int × Nat), (wcells xs).length = xs.length * 2
  | [] => rfl
  | x :: xs => by rw [wcells_cons, List.length_cons, List.length_cons, wcells_len xs, List.length_cons]; omega
theorem wcells_at : ∀ (xs : List (Int × Nat)) (i : Nat) (h : i < xs.length), (wcells xs)[i * 2]? = some (.int .i64 xs[i].1) ∧ (wcells xs)[i * 2 + 1]? = some (wv xs[i].2)
  | [], i, h => by simp at h
  | x :: xs, 0, _ => ⟨rfl, rfl⟩
  | x :: xs, i + 1, h => by
    have ih := wcells_at xs i (by simpa using h)
    rw [wcells_cons, show (i + 1) * 2 = i * 2 + 1 + 1 by omega, show i * 2 + 1 + 1 + 1 = (i * 2 + 1) + 1 + 1 by omega]
    simp only [List.getElem?_cons_succ, List.getElem_cons_succ]
    exact ih
def WOwn (w : World) (base : Nat) (v : Value) (xs : List (Int × Nat)) : Prop := w.ownsRow base 42 2 v xs.length (wcells xs)
theorem WOwn.nil (w : World) (base : Nat) : WOwn w base (.slice none 0 0) [] := World.ownsRow_nil w _ _ _
theorem WOwn.keptB {W W' : World} {base : Nat} {v : Value} {xs : List (Int × Nat)} (h : WOwn W base v xs) (hk : ∀ q, v.ownBlock = some q → q < W.heap.size → W'.heap[q]? = W.heap[q]?) : WOwn W' base v xs := by
  obtain ⟨h1, h2⟩ := h
  refine ⟨h1, ?_⟩
  rcases h2 with h2 | ⟨g, cap, cur, rfl, hb, hgb, r⟩
  · exact .inl h2
  · exact .inr ⟨g, cap, cur, rfl, hb, (hk g rfl (lt_of_block hgb)).trans hgb, r⟩
theorem WOwn.row {W : World} {base : Nat} {v : Value} {xs : List (Int × Nat)} (h : WOwn W base v xs) {q : Nat} (hq : v.ownBlock = some q) : base ≤ q ∧ ∃ cur, W.heap[q]? = some (.cells cur 42 (0, 0)) := by
  rcases h.2 with ⟨rfl, _⟩ | ⟨g, cap, cur, rfl, hb, hg, r⟩
  · cases hq
  · cases hq; exact ⟨hb, cur, hg⟩
theorem WOwn.form {w : World} {base : Nat} {v : Value} {xs : List (Int × Nat)} (h : WOwn w base v xs) : ∃ ao cap, v = .slice ao xs.length cap ∧ xs.length ≤ cap ∧ cap ≤ 9223372036854775807 ∧ (xs.length ≠ 0 → ∃ g, ao = some ⟨g, 0, none⟩ ∧ base ≤ g ∧ g < w.heap.size ∧ ∀ i, (h : i < xs.length) → w.cell? ⟨g, i * 2, none⟩ = some (.int .i64 xs[i].1) ∧ w.cell? ⟨g, i * 2 + 1, none⟩ = some (wv xs[i].2)) := by
  rcases h.2 with ⟨rfl, h0⟩ | ⟨g, cap, cur, rfl, hb, hg, hn, hm, hs, ht⟩
  · exact ⟨none, 0, by rw [h0], by omega, by omega, fun h => absurd h0 h⟩
  · refine ⟨some ⟨g, 0, none⟩, cap, rfl, hn, by unfold maxLen at hm; omega, fun _ => ⟨g, rfl, hb, lt_of_block hg, fun i hi => ?_⟩⟩
    obtain ⟨e1, e2⟩ := wcells_at xs i hi
    have at' : ∀ j, j < xs.length * 2 → cur[j]? = (wcells xs)[j]? := fun j hj => by
      have e : (cur.toList.take (xs.length * 2))[j]? = (wcells xs)[j]? := by rw [ht]
      rw [List.getElem?_take_of_lt (by omega)] at e
      simpa using e
    constructor
    · rw [cell_of_row _ _ _ _ _ _ hg, at' _ (by omega), e1]
    · rw [cell_of_row _ _ _ _ _ _ hg, at' _ (by omega), e2]
theorem Try.infoWrite : (Try.prog.info? 42).map (fun i => (i.zero, i.size, i.bytes)) = some (some (.agg #[.int .i64 0, .slice none 0 0]), 2, 32) := by kernel_rfl
theorem run_append_write (w : World) (base : Nat) (ty : TypeId) (v : Value) (xs : List (Int × Nat)) (hown : WOwn w base v xs) (hb : base ≤ w.heap.size) (hl : xs.length ≤ 65536) (ad : Addr) (c : Nat) (x : Int × Nat)
    (hc : ∀ j u, ([.int .i64 x.1, wv x.2] : List Value)[j]? = some u → w.cell? (ad.add j) = some u) :
    ∃ v' w', (Builtin.append_ #[29, 29] ty #[v, .slice (some ad) 1 c]).run Try.prog w = .ok v' w' ∧ WOwn w' base v' (xs ++ [x]) ∧ w.grownBy w' v.ownBlock := by
  obtain ⟨i0, hi, hh⟩ := Option.map_eq_some_iff.1 Try.infoWrite
  simp only [Prod.mk.injEq] at hh
  have h1c : ∀ u ∈ ([.int .i64 x.1, wv x.2] : List Value), u.oneCell' = true := by
    have := wcells_one [x]
    simpa [wcells] using this
  obtain ⟨v', w', hr, r1, r2, _⟩ := run_append_own (P := Try.prog) w base 29 ty 42 i0 (.agg #[.int .i64 0, .slice none 0 0]) 2 32 Try.underlying29 hi hh.1 hh.2.1 hh.2.2 rfl (by decide) v xs.length (wcells xs) hown ad 1 c _ rfl hc h1c (by unfold maxLen; omega) (by omega) hb
  exact ⟨v', w', hr, by unfold WOwn; rw [wcells_snoc, List.length_append]; exact r1, r2⟩
/-- An append of a write, as one step of a region that draws. -/
theorem step_append_write {ops : Array Oper} {o : Oper} {a : Act} {w : World} {K : Act → World → Prop} {Q : Exit → Act → World → Prop} {E : Prop}
    (hg : o.guard = none) (s x : Operand) (ho : o.op = .call { callee := .builtin .append, args := #[s, x], argTypes := #[29, 29] })
    (base : Nat) (v : Value) (xs : List (Int × Nat)) (hs : a.eval s = v) (hown : WOwn w base v xs) (hl : xs.length ≤ 65536) (hbase : base ≤ w.heap.size)
    (ad : Addr) (c : Nat) (y : Int × Nat) (hx : a.eval x = .slice (some ad) 1 c) (hc : ∀ j u, ([.int .i64 y.1, wv y.2] : List Value)[j]? = some u → w.cell? (ad.add j) = some u)
    (hK : ∀ v' w', WOwn w' base v' (xs ++ [y]) → w.grownBy w' v.ownBlock → K (a.put o.dst v') w') :
    if Region.wanted o (yielded ops a.tmps) = true then Oper.wp Try.prog o a w K Q else E := by
  have hw : Region.wanted o (yielded ops a.tmps) = true := by simp [Region.wanted, hg]
  rw [if_pos hw]
  obtain ⟨v', w', hrun, r1, r2⟩ := run_append_write w base o.type v xs hown hbase hl ad c y hc
  unfold Oper.wp
  simp [execOp, ho, resolve, invoke, builtin, hs, hx, hrun, Result.andThen]
  exact hK v' w' r1 r2
theorem write_cells (w : World) (x : Int) (q : Nat) : ∀ j u, ([.int .i64 x, wv q] : List Value)[j]? = some u → (w.alloc (.cells #[.int .i64 x, wv q] 42)).cell? ((⟨w.heap.size, 0, none⟩ : Addr).add j) = some u := by
  intro j u hj
  rw [addr_add, cell_of_row _ _ _ _ _ _ (heap_alloc_new _ _), Nat.zero_add, ← hj]
  simp
end Go.Proofs.Ytgehefnkbcbldab

/-
  DERIVED. within: raw blocks, as blocks of a log to be written.
-/
namespace Go.Proofs.Ytgehefnkbcbldab
open Go.RowKit
set_option linter.unusedVariables false
set_option maxRecDepth 20000

theorem Pick_44 (p : Int) (w : World) (p1 : -9223372036854775808 ≤ p) (p2 : p < 9223372036854775808) :
    Calls Try.prog 8 #[.int .i64 p, .int .i64 44] w fun e w' => e = .returned (.int .i64 (pickR p 43 : Nat)) ∧ w = w' := Pick_eq p 43 w p1 p2 (by omega)
/-- What a raw block stands for. -/
def onW (o : On) : Int × List UInt8 := ((pickR o.n 43 : Nat), headL o.head (fillL (UInt8.ofNat (pickR o.fill 255)) 512))
theorem onW_len (o : On) : (onW o).2.length = 512 := headL_len _ _
theorem onW_in (o : On) : 0 ≤ (onW o).1 ∧ (onW o).1 < 44 := by
  have := pickR_lt o.n 43
  show (0 : Int) ≤ ((pickR o.n 43 : Nat) : Int) ∧ ((pickR o.n 43 : Nat) : Int) < 44
  omega
/-- The blocks' bytes, each in memory of its own. -/
def Dat (w : World) (base : Nat) (xs : List (Int × Nat)) (ws : List (Int × List UInt8)) : Prop :=
  xs.length = ws.length ∧ ∀ i (h1 : i < xs.length) (h2 : i < ws.length), xs[i].1 = ws[i].1 ∧ base ≤ xs[i].2 ∧ w.heap[xs[i].2]? = some (.cells ((ws[i]).2.map bv).toArray 5 (0, 0))
theorem Dat.nil (w : World) (base : Nat) : Dat w base [] [] := ⟨rfl, fun i h => by simp at h⟩
theorem Dat.snoc {w : World} {base : Nat} {xs : List (Int × Nat)} {ws : List (Int × List UInt8)} (h : Dat w base xs ws) (x : Int) (q : Nat) (L : List UInt8) (hq : base ≤ q) (hr : w.heap[q]? = some (.cells (L.map bv).toArray 5 (0, 0))) : Dat w base (xs ++ [(x, q)]) (ws ++ [(x, L)]) := by
  refine ⟨by simp [h.1], fun i h1 h2 => ?_⟩
  by_cases hi : i < xs.length
  · have hi2 : i < ws.length := by rw [← h.1]; exact hi
    rw [List.getElem_append_left hi, List.getElem_append_left hi2]
    exact h.2 i hi hi2
  · have e1 : i = xs.length := by simp at h1; omega
    subst e1
    have e2 : xs.length = ws.length := h.1
    rw [List.getElem_append_right (Nat.le_refl _), List.getElem_append_right (by omega)]
    simp only [Nat.sub_self, e2, List.getElem_cons_zero]
    exact ⟨trivial, hq, hr⟩
theorem Dat.kept {w w' : World} {base : Nat} {xs : List (Int × Nat)} {ws : List (Int × List UInt8)} (h : Dat w base xs ws) (hk : ∀ (q : Nat) (cs : Array Value), w.heap[q]? = some (.cells cs 5 (0, 0)) → w'.heap[q]? = w.heap[q]?) : Dat w' base xs ws :=
  ⟨h.1, fun i h1 h2 => ⟨(h.2 i h1 h2).1, (h.2 i h1 h2).2.1, (hk _ _ (h.2 i h1 h2).2.2).trans (h.2 i h1 h2).2.2⟩⟩

/-- All that within has made lies in new memory. -/
theorem wrs_own {w : World} {base : Nat} {v : Value} {xs : List (Int × Nat)} {ws : List (Int × List UInt8)} (h : WOwn w base v xs) (hd : Dat w base xs ws) (hw : ∀ p ∈ ws, p.2.length = 512 ∧ -9223372036854775808 ≤ p.1 ∧ p.1 ≤ 9223372036854775807) : WrsG w (fun j => base ≤ j ∧ j < w.heap.size) v ws := by
  intro w' hs
  obtain ⟨ao, cap, e, h1, h2, h4⟩ := h.form
  refine ⟨ao, cap, by rw [e, hd.1], by rw [← hd.1]; exact h1, h2, hw, fun hn => ?_⟩
  obtain ⟨g, e2, hb, hlt, hc⟩ := h4 (by rw [hd.1]; exact hn)
  have hbg := hs.2 g ⟨hb, hlt⟩
  refine ⟨g, 0, e2, by have := hs.1; omega, fun i hi => ?_⟩
  have hi2 : i < xs.length := by rw [hd.1]; exact hi
  obtain ⟨c0, c1⟩ := hc i hi2
  obtain ⟨d0, d1, d2⟩ := hd.2 i hi2 hi
  refine ⟨some ⟨xs[i].2, 0, none⟩, 512, ?_, ?_, ?_⟩
  · rw [Nat.zero_add, World.cell?_of_block hbg, c0, d0]
  · rw [Nat.zero_add, World.cell?_of_block hbg, c1]
  · exact sl_block ((hs.2 _ ⟨d1, lt_of_block d2⟩).trans d2) (hw _ (List.getElem_mem hi)).1

/-- What within makes of raw blocks. -/
def withL (os : List On) : List (Int × List UInt8) := (os.take 16).map onW
def WithPost (w : World) (os : List On) (e : Ending) (w' : World) : Prop := ∃ u xs, e = .returned u ∧ WOwn w' w.heap.size u xs ∧ Dat w' w.heap.size xs (withL os) ∧ Below w.heap.size w w'
set_option maxHeartbeats 8000000 in
theorem within_own (w : World) (v : Value) (os : List On) (hv : OnL w v os) :
    Calls Try.prog 6 #[v] w (WithPost w os) := by
  have HV := hide hv
  obtain ⟨ao, cap, rfl, hc1, hc2, _⟩ := hv
  obtain ⟨n, hn⟩ : ∃ n, n = os.length := ⟨_, rfl⟩
  rw [← hn] at HV hc1 ⊢
  have HN := hide hn
  have hnI : (n : Int) ≤ 9223372036854775807 := by omega
  clear hn
  go_enter Try.func6, Try.ntmps6
  go_wp2_with fail
  go_loopw [3, 4] (fun u i wr => ∃ (j : Nat) (xs : List (Int × Nat)), i = .int .i64 (j : Int) ∧ j ≤ n ∧ j ≤ 16 ∧ Hid (WOwn wr w.heap.size u xs) ∧ Hid (Dat wr w.heap.size xs ((os.take j).map onW)) ∧ Hid (Below w.heap.size w wr)) (fun _ i _ => 16 - (intOf i).toNat)
  case atStart => exact ⟨0, [], rfl, by omega, by omega, hide (WOwn.nil _ _), hide (Dat.nil _ _), hide (Below.refl _ _)⟩
  case round =>
    obtain ⟨j, xs, rfl, hj, hj16, HO, HD, HB⟩ := hrel
    by_cases hlt : j < n
    · have hlt' : (j : Int) < (n : Int) := by omega
      by_cases h16 : j < 16
      · have h16' : (j : Int) < 16 := by omega
        have hjo : j < os.length := by rw [← unhide HN]; exact hlt
        obtain ⟨ao', cap', e, _, _, h4⟩ := unhide HV
        injection e with e1 e2 e3
        clear e2 e3
        obtain ⟨g, off, hao, hgl, hcl⟩ := h4 (by omega)
        subst e1
        subst hao
        obtain ⟨d0, d1, d2, i0, i1⟩ := hcl j hjo
        have HTK : Hid ((os.take (j + 1)).map onW = (os.take j).map onW ++ [onW os[j]]) := hide (by
          rw [List.take_succ_eq_append_getElem hjo, List.map_append]; rfl)
        obtain ⟨o, ho⟩ : ∃ o, o = os[j] := ⟨_, rfl⟩
        rw [← ho] at d0 d1 d2 i0 i1 HTK
        have HW : Hid (∀ W, Below w.heap.size w W → W.cell? ⟨g, off + j * 3, none⟩ = some (.int .i64 o.n) ∧ W.cell? ⟨g, off + j * 3 + 1, none⟩ = some (.int .i64 o.fill) ∧ W.cell? ⟨g, off + j * 3 + 2, none⟩ = some (.string o.head)) := hide fun W hW => ⟨(hW.cell (p := ⟨g, _, none⟩) hgl).trans d0, (hW.cell (p := ⟨g, _, none⟩) hgl).trans d1, (hW.cell (p := ⟨g, _, none⟩) hgl).trans d2⟩
        obtain ⟨c0, c1, c2⟩ := unhide HW wr (unhide HB)
        have hxl : xs.length = j := by
          have := (unhide HD).1
          rw [this, List.length_map, List.length_take]
          omega
        have HXL : Hid (xs.length ≤ 65536) := hide (by omega)
        have HSz : Hid (w.heap.size ≤ wr.heap.size) := hide (unhide HB).size
        have PK := hide (fun W => Pick_44 o.n W i0.1 i0.2)
        have BK := hide (fun W => Block_any o.fill o.head W i1.1 i1.2)
        have HLn : Hid (onW o = (((pickR o.n 43 : Nat) : Int), headL o.head (fillL (UInt8.ofNat (pickR o.fill 255)) 512))) := hide rfl
        obtain ⟨pk, hpk⟩ : ∃ pk, pk = pickR o.n 43 := ⟨_, rfl⟩
        obtain ⟨L, hL⟩ : ∃ L, L = headL o.head (fillL (UInt8.ofNat (pickR o.fill 255)) 512) := ⟨_, rfl⟩
        rw [← hpk] at PK
        rw [← hL] at BK
        rw [← hpk, ← hL] at HLn
        clear hcl h4 d0 d1 d2 ho hxl i0 i1 hpk hL
        obtain ⟨on, hon⟩ : ∃ x, x = o.n := ⟨_, rfl⟩
        obtain ⟨of, hof⟩ : ∃ x, x = o.fill := ⟨_, rfl⟩
        obtain ⟨oh, hoh⟩ : ∃ x, x = o.head := ⟨_, rfl⟩
        rw [← hon] at c0 PK
        rw [← hof] at c1 BK
        rw [← hoh] at c2 BK
        rw [← hon, ← hof, ← hoh] at HW
        clear hon hof hoh
        have HFIN : Hid (∀ (w3 : World) (v4 : Value) (w4 : World), Below wr.heap.size wr w3 → w3.heap[wr.heap.size]? = some (.cells (L.map bv).toArray 5 (0, 0)) → WOwn w4 w.heap.size v4 (xs ++ [((pk : Int), wr.heap.size)]) → (w3.alloc (.cells #[.int .i64 (pk : Int), wv wr.heap.size] 42)).grownBy w4 u3.ownBlock → Dat w4 w.heap.size (xs ++ [((pk : Int), wr.heap.size)]) ((os.take (j + 1)).map onW) ∧ Below w.heap.size w w4) := hide fun w3 v4 w4 b3 s3 o4 g4 => by
          have hB4 : Below wr.heap.size wr (w3.alloc (.cells #[.int .i64 (pk : Int), wv wr.heap.size] 42)) := b3.alloc b3.size _
          have hne : ∀ (q : Nat) (cs : Array Value), wr.heap[q]? = some (.cells cs 5 (0, 0)) → some q ≠ u3.ownBlock := fun q cs hq e => by
            obtain ⟨_, cur, hc⟩ := (unhide HO).row e.symm
            rw [hc] at hq
            simp only [Option.some.injEq, Obj.cells.injEq] at hq
            exact absurd hq.2.1 (by decide)
          have hnew : some wr.heap.size ≠ u3.ownBlock := fun e => by
            obtain ⟨_, cur, hc⟩ := (unhide HO).row e.symm
            have := lt_of_block hc
            omega
          have hw3 : wr.heap.size < w3.heap.size := lt_of_block s3
          constructor
          · rw [unhide HTK, unhide HLn]
            refine Dat.snoc ((unhide HD).kept fun q cs hq => ?_) _ _ _ (unhide HSz) ?_
            · have hql := lt_of_block hq
              rw [g4.block q (by have := hB4.size; omega) (hne q cs hq)]
              exact hB4.block q hql
            · rw [g4.block _ (by simp; omega) hnew, Below.heap_alloc _ _ _ hw3]
              exact s3
          · refine ⟨?_, ?_, ?_, ?_, fun k hk => ?_⟩
            · rw [g4.os, hB4.os, (unhide HB).os]
            · rw [g4.tape, hB4.tape, (unhide HB).tape]
            · rw [g4.output, hB4.output, (unhide HB).output]
            · have := g4.size; have := hB4.size; have := unhide HSz; omega
            · have hz := unhide HSz
              rw [g4.block k (by have := hB4.size; omega) (fun e => by have := ((unhide HO).row e.symm).1; omega), hB4.block k (by omega)]
              exact (unhide HB).block k hk
        have HOW : Hid (∀ w3, Below wr.heap.size wr w3 → WOwn (w3.alloc (.cells #[.int .i64 (pk : Int), wv wr.heap.size] 42)) w.heap.size u3 xs) := hide fun w3 b3 => (unhide HO).keptB fun q _ hq => ((b3.alloc b3.size (.cells #[.int .i64 (pk : Int), wv wr.heap.size] 42)).block q hq)
        have HBD : Hid (Below w.heap.size w wr.drew) := hide (unhide HB).drew
        go_wp2_with fail
        go_region_law (first | (refine step_append_write rfl (.tmp 15) (.tmp 34) rfl w.heap.size u3 xs rfl (unhide HOW w3 b3) (unhide HXL) (unhide Z3) ⟨w3.heap.size, 0, none⟩ 1 ((pk : Int), wr.heap.size) rfl (write_cells w3 _ _) ?_; intro v4 w4 o4 g4; have F4 := hide (unhide HFIN w3 v4 w4 b3 s3 o4 g4); have O4 := hide o4; clear o4 g4) | (go_simp; go_wp2_with (first | (go_at_call 8; refine (unhide PK _).mono ?_; rintro e w2 ⟨rfl, rfl⟩) | (go_at_call 14; refine (unhide BK _).mono ?_; rintro e w3 ⟨rfl, s3, b0⟩; have b3 : Below wr.heap.size wr w3 := after_drew b0; have Z3 : Hid (w.heap.size ≤ (w3.alloc (.cells #[.int .i64 (pk : Int), wv wr.heap.size] 42)).heap.size) := hide (by have := unhide HSz; have := b3.size; simp; omega); clear b0) | fail)))
        all_goals
          clear s3 b3
          go_wp2
          go_roundw
          case rel => exact ⟨j + 1, _, by go_num, by omega, by omega, O4, hide (unhide F4).1, hide (unhide F4).2⟩
          case measure => simp [intOf]; omega
      · have h16' : ¬ (j : Int) < 16 := by omega
        have HF : Hid (Dat wr w.heap.size xs (withL os)) := hide (by
          unfold withL
          have hd := unhide HD
          rw [show j = 16 by omega] at hd
          exact hd)
        go_wp2
        go_ret
        exact ⟨_, xs, rfl, unhide HO, unhide HF, unhide HB⟩
    · have hlt' : ¬ (j : Int) < (n : Int) := by omega
      have HF : Hid (Dat wr w.heap.size xs (withL os)) := hide (by
        unfold withL
        have hd := unhide HD
        have e : os.take j = os.take 16 := by
          have := unhide HN
          rw [List.take_of_length_le (by omega), List.take_of_length_le (by omega)]
        rw [e] at hd
        exact hd)
      go_wp2
      go_ret
      exact ⟨_, xs, rfl, unhide HO, unhide HF, unhide HB⟩
theorem within_go (w : World) (v : Value) (os : List On) (hv : OnL w v os) :
    Calls Try.prog 6 #[v] w fun e w' => ∃ u, e = .returned u ∧ WrsG w' (fun j => w.heap.size ≤ j ∧ j < w'.heap.size) u (withL os) ∧ Below w.heap.size w w' := by
  refine (within_own w v os hv).mono ?_
  rintro e w' ⟨u, xs, rfl, ho, hd, hb⟩
  refine ⟨u, rfl, wrs_own ho hd fun p hp => ?_, hb⟩
  obtain ⟨o, _, rfl⟩ := List.mem_map.1 hp
  have := onW_in o
  exact ⟨onW_len o, by omega, by omega⟩
end Go.Proofs.Ytgehefnkbcbldab

/-
  DERIVED. A log that rests, read: Jstr without its arrays of strings (a program that has no such array).
-/
namespace Go.Proofs.Ytgehefnkbcbldab
open Go.RowKit
set_option linter.unusedVariables false
set_option maxRecDepth 20000

/-- One more block written. -/
theorem over_snoc (ps : List (Nat × List UInt8)) (p : Nat × List UInt8) (f : Nat → List UInt8) : over (ps ++ [p]) f = fun m => if m = p.1 then p.2 else over ps f m := by simp [over]

/-- A log that rests: nothing is pending, no fuse. -/
structure Lull (w0 w : World) (b lb N : Nat) (G : Nat → Prop) (S : St) (c : Nat → List UInt8) : Prop where
  rst : Rst w0 w b lb N G S false
  quiet : Quiet S c
  free : Free S
  none : ∀ k, S.pend k = []
  len : S.safe.length = 64
theorem Lull.only {w0 w w' : World} {b lb N : Nat} {G : Nat → Prop} {S : St} {c : Nat → List UInt8} (h : Lull w0 w b lb N G S c) {x : Nat} (ho : Only x w w') (hx : G x) (hw : w0.heap.size ≤ x) : Lull w0 w' b lb N G S c := { h with rst := h.rst.only ho hx hw }
theorem Lull.grown {w0 w w' : World} {b lb N : Nat} {G H : Nat → Prop} {S : St} {c : Nat → List UInt8} (h : Lull w0 w b lb N G S c) (hb : Below w.heap.size w w') (hH : ∀ j, H j → G j ∨ (w.heap.size ≤ j ∧ j < w'.heap.size)) : Lull w0 w' b lb N H S c := { h with rst := h.rst.grown hb hH }
theorem Lull.mono {w0 w : World} {b lb N M : Nat} {G : Nat → Prop} {S : St} {c : Nat → List UInt8} (h : Lull w0 w b lb N G S c) (hM : N ≤ M) : Lull w0 w b lb M G S c := { h with rst := h.rst.mono hM }
theorem laid_l (w0 w : World) (hb : Below w0.heap.size w0 w) :
    Calls Try.prog 5 #[.int .i64 64] w fun e w' => ∃ b lb T, e = .returned (.tuple #[.pointer (some ⟨b, 0, none⟩), .pointer (some ⟨lb, 0, none⟩)]) ∧ Lull w0 w' b lb 2200 (fun _ => False) T zeros := by
  refine (laid_r w0 w hb 64 (by omega) (by omega)).mono ?_
  rintro e w' ⟨b, lb, T, rfl, r, q, n, l, f⟩
  exact ⟨b, lb, T, rfl, r, q, f, n, l⟩
theorem Read_l {w0 w : World} {b lb N : Nat} {G : Nat → Prop} {S : St} {c : Nat → List UInt8} (h : Lull w0 w b lb N G S c) (hN : N < 800000) (n : Nat) (hn : n < 44) :
    Calls Try.prog 12 #[.pointer (some ⟨lb, 0, none⟩), .int .i64 (n : Int)] w fun e w' => SameG G w w' ∧
      ∃ q, e = .returned (.tuple #[.slice (some ⟨q, 0, none⟩) 512 512, .int .i64 0]) ∧ w.heap.size ≤ q ∧ w'.heap[q]? = some (.cells ((c n).map bv).toArray 66 (0, 0)) ∧ (c n).length = 512 ∧ Lull w0 w' b lb (N + 2) G S.burn c := by
  refine (Read_f h.rst h.quiet h.free hN n (by rw [h.len]; exact hn)).mono ?_
  rintro e w' ⟨sg, q, rfl, hq, hr, h5, r⟩
  exact ⟨sg, q, rfl, hq, hr, h5, r.less fun j hj => .inl hj, h.quiet.burn h.free, h.free.burn, h.none, h.len⟩
theorem Rst.gl {w0 w : World} {b lb N : Nat} {G : Nat → Prop} {S : St} {dn : Bool} (h : Rst w0 w b lb N G S dn) {x : Nat} (hx : G x) : x < w.heap.size := by
  obtain ⟨F, _, h2⟩ := h
  exact (h2 x hx).1
/-- Blocks written so far. -/
def upF (c : Nat → List UInt8) (j : Nat) : Nat → List UInt8 := fun m => if m < j then c m else []
theorem upF_zero (c : Nat → List UInt8) : upF c 0 = fun _ => [] := by funext m; simp [upF]
theorem upF_set (c : Nat → List UInt8) (j : Nat) (m : Nat) : (if m = j then c j else upF c j m) = upF c (j + 1) m := by
  unfold upF
  by_cases e : m = j
  · subst e; simp
  · by_cases h : m < j
    · rw [if_neg e, if_pos h, if_pos (by omega)]
    · rw [if_neg e, if_neg h, if_neg (by omega)]
theorem upF_full (c : Nat → List UInt8) (m : Nat) (h : m < 44) : upF c 44 m = c m := by unfold upF; rw [if_pos h]
theorem SameG.only {G : Nat → Prop} {w w' : World} {x : Nat} (ho : Only x w w') (hx : ¬ G x) : SameG G w w' := ⟨by rw [ho.size]; exact Nat.le_refl _, fun q hq => ho.other q fun e => hx (e ▸ hq)⟩
theorem okW_with (os : List On) : okW ((64 - 20 : Nat) : Int) (withL os) ∧ (withL os).length ≤ 16 := by
  refine ⟨fun p hp => ?_, by unfold withL; rw [List.length_map, List.length_take]; omega⟩
  obtain ⟨o, _, rfl⟩ := List.mem_map.1 hp
  exact onW_in o
theorem Commit_l {w0 w : World} {b lb N : Nat} {G : Nat → Prop} {S : St} {c : Nat → List UInt8} (h : Lull w0 w b lb N G S c) (hN : N < 400000) (v : Value) (os : List On) (hv : Wrs w v (withL os)) :
    Calls Try.prog 9 #[.pointer (some ⟨lb, 0, none⟩), v] w fun e w' => e = .returned (.int .i64 0) ∧ SameG G w w' ∧ ∃ T, Lull w0 w' b lb (N + 200) G T (over (prtW (withL os)) c) := by
  have ho := h.rst.ops
  have hok := okW_with os
  obtain ⟨T, t1, t2, t3, t4, t5⟩ := com_free h.quiet h.free (by omega) (withL os) hok.2 (by rw [h.len]; exact hok.1)
  refine (Commit_r h.rst h.quiet hN v _ hv).mono ?_
  rintro e w' ⟨rfl, r, sg⟩
  rw [t1] at r ⊢
  exact ⟨rfl, sg, T, r, t2, t5, t3, t4.trans h.len⟩
/-- A commit with a fuse, and a crash behind it. -/
structure Half (S : St) (c : Nat → List UInt8) (ws : List (Int × List UInt8)) (p : Int × St) (ps : List Int) (c' : Nat → List UInt8) : Prop where
  ans : (p.1 = 0 ∧ p.2.down = false ∧ ∀ n, n < 44 → c' n = over (prtW ws) c n) ∨ (p.1 = 2 ∧ p.2.down = true ∧ ((∀ n, n < 44 → c' n = c n) ∨ ∀ n, n < 44 → c' n = over (prtW ws) c n))
  sound : ∃ ns, Sound (p.2.crash ps) ns c'
  len : (p.2.crash ps).safe.length = 64
theorem half_of {S : St} {c : Nat → List UInt8} (hq : Quiet S c) (hn : ∀ k, S.pend k = []) (hl : S.safe.length = 64) (hb : S.ops < 9000000) (ws : List (Int × List UInt8)) (hw : ws.length ≤ 16) (hok : okW ((64 - 20 : Nat) : Int) ws) (ps : List Int) :
    ∃ c', Half S c ws (comE S ws) ps c' := by
  rcases com_cases hq (by omega) ws hw (by rw [hl]; exact hok) with ⟨T, t1, t2, t3, t4, t5⟩ | ⟨T, t1, t2, t3, t4⟩
  · rw [t1]
    refine ⟨over (prtW ws) c, .inl ⟨rfl, t2.up, fun _ _ => rfl⟩, ⟨[], (t2.sound t3).crash ps⟩, ?_⟩
    rw [crash_len, t4, hl]
  · rw [t1]
    obtain ⟨ns, c', s, hh⟩ := t4 ps
    refine ⟨c', .inr ⟨rfl, t2, ?_⟩, ⟨ns, s⟩, by rw [crash_len, t3, hl]⟩
    rw [hl] at hh
    rcases hh with hh | hh
    · left
      intro n hn2
      rw [St.may_none (hn _) (hh n hn2), hq.is n (by rw [hl]; exact hn2)]
    · exact .inr hh
theorem Open_l {w0 w : World} {b N : Nat} {G : Nat → Prop} {S : St} {ns : List Nat} {c : Nat → List UInt8} (h : RstD w0 w b N G S) (hs : Sound S ns c) (hf : Free S) (hl : S.safe.length = 64) (hN : N < 400000) :
    Calls Try.prog 11 #[.pointer (some ⟨b, 0, none⟩)] w fun e w' => SameG G w w' ∧ ∃ lb T, e = .returned (.tuple #[.pointer (some ⟨lb, 0, none⟩), .int .i64 0]) ∧ Lull w0 w' b lb (N + 100) G T c := by
  refine (Open_f h hs hf hN).mono ?_
  rintro e w' ⟨sg, lb, T, rfl, r, q, n, l, f⟩
  exact ⟨sg, lb, T, rfl, r, q, f, n, l.trans hl⟩
theorem Quiet.fuseK {S : St} {c : Nat → List UInt8} (h : Quiet S c) (k : Int) : Quiet (S.fuseK k) c := h.alike ((Alike.refl S).fuseK k) (by rw [St.fuseK_down]; exact h.up)
end Go.Proofs.Ytgehefnkbcbldab
