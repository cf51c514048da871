/-
  DERIVED. Where the law on logs stands; bytes that are to be put.
-/
import Derived.Test.YtfnhhjpebilacaaGreatM8
import Derived.Test.YtfnhhjpebilacaaGreatM7
namespace Go.Proofs.YtfnhhjpebilacaaGreat
open Go.RowKit
set_option linter.unusedVariables false
set_option maxRecDepth 20000

theorem conv_str (w : World) (s : ByteArray) (hl : s.size ≤ 9223372036854775807) : ∃ cap w', (convert 9 34 (.string s)).run Tryz.prog w = .ok (.slice (some ⟨w.heap.size, 0, none⟩) s.size cap) w' ∧ Sl w' (.slice (some ⟨w.heap.size, 0, none⟩) s.size cap) s.data.toList ∧ Below w.heap.size w w' := by
  refine ⟨_, _, run_bytes_of_string w 9 34 5 s Tryz.underlying9 Tryz.underlying34 Tryz.underlying5, ?_, ?_⟩
  · have hsz : s.data.toList.length = s.size := Array.length_toList
    refine ⟨_, _, by rw [hsz], by rw [hsz]; exact grownCap_ge _ _ _ _, grownCap_le_maxLen _ _ _ _ (by unfold maxLen; omega), fun _ => ⟨w.heap.size, 0, rfl, by simp, fun i hi => ?_⟩⟩
    have hg : (w.drew.alloc (.cells (bytesRow s (grownCap w s.size 0 5)) 5 ((bytesRow s (grownCap w s.size 0 5)).size, (bytesRow s (grownCap w s.size 0 5)).size + 1))).heap[w.heap.size]? = some (.cells (bytesRow s (grownCap w s.size 0 5)) 5 ((bytesRow s (grownCap w s.size 0 5)).size, (bytesRow s (grownCap w s.size 0 5)).size + 1)) := by
      show (w.heap.push _)[w.heap.size]? = _
      simp
    rw [cell_of_row _ _ _ _ _ _ hg, Nat.zero_add, bytesRow_at s _ i (by simpa using hi)]
    simp [bv]
  · exact ((Below.refl _ _).drew).alloc (by simp) _
theorem OnL.first {w : World} {a : Option Addr} {n cap : Nat} {l : List On} (h : OnL w (.slice a n cap) l) (hl : 0 < l.length) : ∃ g off, a = some ⟨g, off, none⟩ ∧ g < w.heap.size ∧ 1 ≤ cap ∧ OnL w (.slice (some ⟨g, off, none⟩) 1 cap) [l[0]] := by
  obtain ⟨ao, cap', e, h1, h2, h3⟩ := h
  injection e with e1 e2 e3
  subst e3
  obtain ⟨b, o, e4, hlt, hc⟩ := h3 hl
  refine ⟨b, o, by rw [e1, e4], hlt, by omega, _, _, rfl, by simp; omega, h2, fun _ => ⟨b, o, rfl, hlt, fun i hi => ?_⟩⟩
  have hi0 : i = 0 := by simp at hi; exact hi
  subst hi0
  simpa using hc 0 hl
theorem Sl.sameG {G : Nat → Prop} {w w' : World} {a : Option Addr} {n c : Nat} {l : List UInt8} (h : Sl w (.slice a n c) l) (hs : SameG G w w') (hG : c ≠ 0 → ∀ ad, a = some ad → G ad.block) : Sl w' (.slice a n c) l := by
  obtain ⟨ao, cap, e, h1, h2, h3⟩ := h
  injection e with e1 e2 e3
  subst e1 e3
  refine ⟨a, c, by rw [e2], h1, h2, fun hc => ?_⟩
  obtain ⟨b, off, e4, hb, hcl⟩ := h3 hc
  have hz := hs.1
  refine ⟨b, off, e4, by omega, fun i hi => ?_⟩
  have := hs.2 b (hG hc _ e4)
  rw [← hcl i hi]
  unfold World.cell?
  rw [this]
section
variable {w0 w w' : World} {b lb rb nb mb nc mc N : Nat} {S : St} {dn : Bool} {D : Doc} {R P : Nat → Prop} {yv : Value} {vs : Nat → Value} {ws : List (Int × List UInt8)}
/-- A block of the law's own turns. -/
theorem JAt.setP (h : JAt w0 w b lb rb nb mb nc mc N S dn D R P yv vs []) {q : Nat} (hq : P q) (hw : w0.heap.size ≤ q) (o : Nat) (v : Value) : JAt w0 (w.setCell ⟨q, o, none⟩ v) b lb rb nb mb nc mc N S dn D R P yv vs [] :=
  { h with
    rst := h.rst.only ((Only.refl q w).set _ _) (.inr hq) hw
    ref := h.ref.same fun r hr => heap_setCell_other _ _ _ _ fun (e : r = q) => h.ap r hr (e ▸ hq)
    way := h.way.any _ _ }
theorem JAt.drewN (h : JAt w0 w b lb rb nb mb nc mc N S dn D R P yv vs ws) (k : Nat) : JAt w0 (w.drewN k) b lb rb nb mb nc mc N S dn D R P yv vs ws :=
  { h with
    rst := h.rst.grown (below_drewN (Below.refl _ _) k) fun j hj => .inl hj
    ref := h.ref.same fun _ _ => rfl
    way := h.way.same ⟨Nat.le_refl _, fun _ _ => rfl⟩ }
end
/-- Where the law stands behind j calls. -/
def JSts (w W : World) (b rb nb mb nc mc j lb : Nat) : Prop := ∃ S dn D R P yv vs ws, JAt w W b lb rb nb mb nc mc (2300 + 1300 * j) S dn D R P yv vs ws ∧ Fits S D ∧ (S.down = false → dn = false) ∧ ∀ n, n < 44 → (D.may n).length ≤ 1 + j
/-- A block and bytes that are to be put, in memory of the law's own. -/
structure PutRdy (w W : World) (b lb rb nb mb nc mc N : Nat) (S : St) (D : Doc) (R P : Nat → Prop) (yv : Value) (vs : Nat → Value) (y : Nat) (n : Int) (a : Option Addr) (q c : Nat) (L : List UInt8) : Prop where
  jat : JAt w W b lb rb nb mb nc mc N S false D R P yv vs []
  box : W.heap[y]? = some (.cells #[.int .i64 n, .slice a q c] 42 (0, 0))
  py : P y
  sl : Sl W (.slice a q c) L
  pd : c ≠ 0 → ∀ ad, a = some ad → P ad.block
section
variable {w W W' : World} {b lb rb nb mb nc mc N M : Nat} {S T : St} {D : Doc} {R P : Nat → Prop} {yv : Value} {vs : Nat → Value} {y : Nat} {n : Int} {a : Option Addr} {q c : Nat} {L : List UInt8}
theorem PutRdy.cells (h : PutRdy w W b lb rb nb mb nc mc N S D R P yv vs y n a q c L) (W' : World) (hs : SameG (fun q => R q ∨ P q) W W') : W'.cell? ⟨y, 0, none⟩ = some (.int .i64 n) ∧ W'.cell? ⟨y, 1, none⟩ = some (.slice a q c) := by
  have hb := (hs.2 y (.inr h.py)).trans h.box
  exact ⟨(cell_of_row _ _ _ _ _ _ hb).trans rfl, (cell_of_row _ _ _ _ _ _ hb).trans rfl⟩
theorem PutRdy.keeps (h : PutRdy w W b lb rb nb mb nc mc N S D R P yv vs y n a q c L) (hs : SameG (fun q => R q ∨ P q) W W') : ∀ W2, Kept R W' W2 → Sl W2 (.slice a q c) L := fun W2 hk =>
  (h.sl.sameG (hs.mono fun q hq => .inr hq) h.pd).kept' hk fun hc ad e hr => h.jat.ap _ hr (h.pd hc ad e)
theorem put_may (D : Doc) (m : Nat) (L : List UInt8) (dn : Bool) {j : Nat} (h : ∀ n, n < 44 → (D.may n).length ≤ 1 + j) : ∀ n, n < 44 → ((D.put m L dn).may n).length ≤ 1 + (j + 1) := fun n hn => by
  have := h n hn
  unfold Doc.put
  simp only
  split
  · simp; omega
  · omega
/-- Behind a Put that both have taken. -/
theorem put_next {j : Nat} (hT : JAt w W b lb rb nb mb nc mc (2300 + 1300 * (j + 1)) T T.down D R P yv vs []) (m : Nat) (hf : Fits T (D.put m L T.down)) (hm : ∀ n, n < 44 → (D.may n).length ≤ 1 + j) (hw : D.way = []) {vs' : Nat → Value} {H : Nat → Prop}
    (hr : RefAt W' H rb nb mb nc mc yv D.half (if T.down then D.now else updF D.now m L) (updF D.may m (D.may m ++ [L])) vs') (hk : Kept R W W') (hH : ∀ q, H q → R q ∨ (W.heap.size ≤ q ∧ q < W'.heap.size)) : JSts w W' b rb nb mb nc mc (j + 1) lb := by
  refine ⟨T, T.down, D.put m L T.down, H, _, yv, vs', [], hT.doc hk ?_ hH hw, hf, fun h => h, put_may D m L T.down hm⟩
  refine hr.mayEq (fun i _ => ?_) fun i _ => ?_
  · unfold Doc.put updF
    cases T.down
    · simp
    · simp
  · unfold Doc.put updF
    simp only
    by_cases e : i = m
    · subst e; simp
    · simp [e]
end
theorem new_sts {w w2 w3 : World} {b lb : Nat} {T0 : St} {e : Ending} (hl : Lull w w2 b lb 2200 (fun _ => False) T0 zeros) (hp : NewPost w2 e w3) : ∃ rb, e = .returned (.pointer (some ⟨rb, 0, none⟩)) ∧ ∃ nb mb nc mc, JSts w w3 b rb nb mb nc mc 0 lb := by
  obtain ⟨rb, nb, mb, nc, mc, vs, rfl, ref, hb⟩ := hp
  have hz := hl.rst.bel.size
  refine ⟨rb, rfl, nb, mb, nc, mc, T0, false, Doc.told zeros, fun q => w2.heap.size ≤ q ∧ q < w3.heap.size, fun _ => False, .slice none 0 0, vs, [], ?_, fits_told hl.quiet hl.none hl.len, fun _ => rfl, fun n _ => by simp [Doc.told]⟩
  exact
    { rst := (hl.rst.grown hb fun j hj => by
        rcases hj with hj | hj
        · exact .inr hj
        · exact hj.elim).mono (by omega)
      ref := ref
      way := fun w2 _ => wrs_nil w2
      ok := fun p hp => by cases hp
      wayE := rfl
      lo := fun q hq => by omega
      ap := fun q _ hp => hp }
/-- Behind a commit that both have taken: refused, gone well, under way. -/
theorem com_no {w W : World} {b lb rb nb mb nc mc j : Nat} {S : St} {D : Doc} {R P : Nat → Prop} {yv : Value} {vs : Nat → Value} (h : JAt w W b lb rb nb mb nc mc (2300 + 1300 * (j + 1)) S S.down D R P yv vs []) (hf : Fits S D) (hm : ∀ n, n < 44 → (D.may n).length ≤ 1 + j) (k : Nat) : JSts w (W.drewN k) b rb nb mb nc mc (j + 1) lb :=
  ⟨S, S.down, D, R, P, yv, vs, [], h.drewN k, hf, fun h => h, fun n hn => Nat.le_trans (hm n hn) (by omega)⟩
theorem com_next {w W W' : World} {b lb rb nb mb nc mc j : Nat} {T : St} {D : Doc} {R P : Nat → Prop} {yv : Value} {vs : Nat → Value} {us : List (Int × List UInt8)} {e : Ending} (h : JAt w W b lb rb nb mb nc mc (2300 + 1300 * (j + 1)) T T.down D R P yv vs []) (hd : T.down = false) (hf : Fits T (D.commit (prtW us) T.down)) (hw : D.way = []) (hp : ComPost W R rb nb mb nc mc yv D.half D.now us e W') : e = .returned (.int .i64 0) ∧ JSts w W' b rb nb mb nc mc (j + 1) lb := by
  obtain ⟨rfl, vs', H, ref, hk, hH⟩ := hp
  rw [hd] at hf
  refine ⟨rfl, T, T.down, D.commit (prtW us) false, H, _, yv, vs', [], h.doc hk ?_ hH ?_, hf, fun h => h, fun n hn => ?_⟩
  · exact ref
  · exact hw
  · show (([over (prtW us) D.now n] : List (List UInt8)).length) ≤ _
    simp
theorem com_half {w W W' : World} {b lb rb nb mb nc mc j : Nat} {T : St} {D : Doc} {R P : Nat → Prop} {yv : Value} {vs : Nat → Value} {us : List (Int × List UInt8)} {e : Ending} (h : JAt w W b lb rb nb mb nc mc (2300 + 1300 * (j + 1)) T T.down D R P yv vs []) (hd : T.down = true) (hf : Fits T (D.commit (prtW us) T.down)) (hok : okW 44 us) (hm : ∀ n, n < 44 → (D.may n).length ≤ 1 + j) (hp : DownPost W R rb nb mb nc mc D.now D.may vs us e W') : e = .returned (.int .i64 2) ∧ JSts w W' b rb nb mb nc mc (j + 1) lb := by
  obtain ⟨rfl, yv', ref, hk, hy⟩ := hp
  rw [hd] at hf
  refine ⟨rfl, T, T.down, D.commit (prtW us) true, R, _, yv', vs, us, h.half hk ?_ hy hok rfl, hf, fun h => h, fun n hn => Nat.le_trans (hm n hn) (by omega)⟩
  exact ref
theorem putC_ok {n : Int} {q : Nat} (h : putC 44 n q = 0) : ∃ m : Nat, n = (m : Int) ∧ m < 44 ∧ q = 512 := by
  unfold putC at h
  by_cases h1 : 0 ≤ n ∧ n < 44
  · rw [if_neg (by simpa using h1)] at h
    by_cases h2 : q = 512
    · exact ⟨n.toNat, by omega, by omega, h2⟩
    · rw [if_pos h2] at h
      exact absurd h (by decide)
  · rw [if_pos h1] at h
    exact absurd h (by decide)
theorem sl_512 {w : World} {a : Option Addr} {c : Nat} {l : List UInt8} (h : Sl w (.slice a 512 c) l) : l.length = 512 := h.lenEq.symm
theorem sl_max {w : World} {a : Option Addr} {n c : Nat} {l : List UInt8} (h : Sl w (.slice a n c) l) : (n : Int) ≤ 9223372036854775807 := by
  have e := h.lenEq
  obtain ⟨ao, cap, _, h1, h2, _⟩ := h
  unfold maxLen at h2
  omega
theorem sl_set {w : World} {b n c y : Nat} {l : List UInt8} (h : Sl w (.slice (some ⟨b, 0, none⟩) n c) l) (hb : c ≠ 0 → b ≠ y) (o : Nat) (v : Value) : Sl (w.setCell ⟨y, o, none⟩ v) (.slice (some ⟨b, 0, none⟩) n c) l := by
  refine h.sameG (G := fun q => q ≠ y) ⟨by simp [World.setCell], fun q hq => heap_setCell_other _ _ _ _ hq⟩ fun hc ad e => ?_
  cases e
  exact hb hc
end Go.Proofs.YtfnhhjpebilacaaGreat

/-
  DERIVED. The chapter's examples are so.
-/
namespace Go.Proofs.YtfnhhjpebilacaaGreat
open Go.RowKit
set_option linter.unusedVariables false
set_option maxRecDepth 20000

theorem okW_two (size : Nat) (h : 2 ≤ size) (A B : List UInt8) : okW (size : Int) [(0, A), (1, B)] := by
  intro p hp
  simp only [List.mem_cons, List.not_mem_nil, or_false] at hp
  rcases hp with rfl | rfl <;> simp only <;> omega

set_option maxHeartbeats 8000000 in
theorem Jawake_any (w : World) : Calls Tryz.prog 4 #[] w fun e w' => e = .returned (.bool true) ∧ Below w.heap.size w w' := by
  go_enter Tryz.func4, Tryz.ntmps4
  go_wp2_with fail
  refine (laid_r w w (Below.refl _ _) 64 (by omega) (by omega)).mono ?_
  rintro e w1 ⟨b, lb, T, rfl, r1, q1, n1, l1, f1⟩
  have R1 := hide r1
  have SZ := Size_r r1
  rw [l1] at SZ
  have HSZ := hide SZ
  clear r1 SZ
  go_wp2_with fail
  refine (unhide HSZ).mono ?_
  rintro e w2 ⟨rfl, rfl⟩
  go_wp2_with fail
  refine (Block_any 1 ⟨#[]⟩ w2 (by omega) (by omega)).mono ?_
  rintro e w3 ⟨rfl, s3, b3⟩
  obtain ⟨A, hA⟩ : ∃ A, A = headL ⟨#[]⟩ (fillL (UInt8.ofNat (pickR 1 255)) 512) := ⟨_, rfl⟩
  have hAl : A.length = 512 := by rw [hA]; exact headL_len _ _
  rw [← hA] at s3
  have B3 := hide b3
  have S3 := hide s3
  have z3 := b3.size
  have y3 : w2.heap.size < w3.heap.size := lt_of_block s3
  clear b3 s3 hA
  go_wp2_with fail
  refine (Block_any 2 ⟨#[]⟩ w3 (by omega) (by omega)).mono ?_
  rintro e w4 ⟨rfl, s4, b4⟩
  obtain ⟨C, hC⟩ : ∃ C, C = headL ⟨#[]⟩ (fillL (UInt8.ofNat (pickR 2 255)) 512) := ⟨_, rfl⟩
  have hCl : C.length = 512 := by rw [hC]; exact headL_len _ _
  rw [← hC] at s4
  have B4 := hide b4
  have S4 := hide s4
  have z4 := b4.size
  clear b4 s4 hC
  go_wp2_with fail
  obtain ⟨W5, hW5⟩ : ∃ W5, W5 = w4.alloc (.cells #[.int .i64 0, .slice (some ⟨w2.heap.size, 0, none⟩) 512 512, .int .i64 1, .slice (some ⟨w3.heap.size, 0, none⟩) 512 512] 42) := ⟨_, rfl⟩
  have hB5 : Below w4.heap.size w4 W5 := by rw [hW5]; exact (Below.refl _ _).alloc (Nat.le_refl _) _
  have hr5 : W5.heap[w4.heap.size]? = some (.cells #[.int .i64 0, .slice (some ⟨w2.heap.size, 0, none⟩) 512 512, .int .i64 1, .slice (some ⟨w3.heap.size, 0, none⟩) 512 512] 42 (0, 0)) := by rw [hW5]; exact heap_alloc_self _ _
  have y4 : w3.heap.size < w4.heap.size := lt_of_block (unhide S4)
  have z5 := hB5.size
  have sA : W5.heap[w2.heap.size]? = some (.cells (A.map bv).toArray 5 (0, 0)) := (hB5.block _ (by omega)).trans (((unhide B4).block _ (by omega)).trans (unhide S3))
  have sC : W5.heap[w3.heap.size]? = some (.cells (C.map bv).toArray 5 (0, 0)) := (hB5.block _ (by omega)).trans (unhide S4)
  have hB : Below w2.heap.size w2 W5 := ((unhide B3).trans ((unhide B4).mono z3)).trans (hB5.mono (by omega))
  obtain ⟨xa, hxa⟩ : ∃ xa, xa = w2.heap.size := ⟨_, rfl⟩
  obtain ⟨xc, hxc⟩ : ∃ xc, xc = w3.heap.size := ⟨_, rfl⟩
  have R5 : Hid (Rst w W5 b lb 2200 (fun j => j = xa ∨ j = xc) T false) := hide ((unhide R1).grown hB fun j hj => .inr (by rcases hj with rfl | rfl <;> omega))
  have hwr : Wrs W5 (.slice (some ⟨w4.heap.size, 0, none⟩) 2 2) [(0, A), (1, C)] := by
    refine ⟨_, 2, rfl, by simp, by omega, fun p hp => ?_, fun _ => ⟨w4.heap.size, 0, rfl, lt_of_block hr5, fun i hi => ?_⟩⟩
    · simp only [List.mem_cons, List.not_mem_nil, or_false] at hp
      rcases hp with rfl | rfl
      · exact ⟨hAl, by simp only; omega, by simp only; omega⟩
      · exact ⟨hCl, by simp only; omega, by simp only; omega⟩
    · have hi2 : i < 2 := hi
      rcases (show i = 0 ∨ i = 1 by omega) with rfl | rfl
      · exact ⟨_, _, (cell_of_row _ _ _ _ _ _ hr5).trans rfl, (cell_of_row _ _ _ _ _ _ hr5).trans rfl, sl_block sA hAl⟩
      · exact ⟨_, _, (cell_of_row _ _ _ _ _ _ hr5).trans rfl, (cell_of_row _ _ _ _ _ _ hr5).trans rfl, sl_block sC hCl⟩
  have ho5 := (unhide R5).ops
  obtain ⟨T2, t1, t2, t3, t4, t5⟩ := com_free q1 f1 (by omega) [(0, A), (1, C)] (by simp) (okW_two _ (by rw [l1]; decide) A C)
  have CM := Commit_r (unhide R5) q1 (by omega) _ _ hwr
  rw [t1] at CM
  have HCM := hide CM
  have SA := hide sA
  have SC := hide sC
  have HTQ := hide t2
  have HTP := hide t3
  rw [← hW5]
  rw [← hxa, ← hxc] at *
  clear hW5 hwr CM t1 hr5 sA sC hB hB5 R1 B3 B4 S3 S4 hxa hxc t2 t3 q1 n1 ho5 z3 y3 z4 y4 z5
  refine (unhide HCM).mono ?_
  rintro e w6 ⟨rfl, r6, g6⟩
  have R6 : Hid (RstD w w6 b 2400 (fun j => j = xa ∨ j = xc) T2) := hide r6.dev
  have SG6 := hide g6
  clear r6 g6 HCM R5
  go_wp2_with fail
  refine (Crash_r (unhide R6) (by omega) [] _ (ints_nil w)).mono ?_
  rintro e w7 ⟨rfl, r7, g7⟩
  have R7 := hide r7
  have SG7 := hide ((unhide SG6).trans g7)
  clear r7 g7 R6 SG6
  have hsd := ((unhide HTQ).sound (unhide HTP)).crash []
  have HOP := hide (Open_f (unhide R7) hsd (Free.crash T2 []) (by omega))
  have l7 : (T2.crash []).safe.length = 64 := by rw [crash_len, t4, l1]
  rw [l7] at HOP
  clear hsd l7
  go_wp2_with fail
  refine (unhide HOP).mono ?_
  rintro e w8 ⟨g8, mb, T3, rfl, r8, q8, p8, l8, f8⟩
  have R8 := hide r8
  have SG8 := hide ((unhide SG7).trans g8)
  have Q8 := hide q8
  clear r8 g8 SG7 R7 HOP p8
  go_wp2_with fail
  refine (Read_f (unhide R8) (unhide Q8) f8 (by omega) 0 (by rw [l8]; decide)).mono ?_
  rintro e w9 ⟨g9, qa, rfl, hqa, s9, h9, r9⟩
  have R9 := hide r9
  have SG9 := hide ((unhide SG8).trans g9)
  have Q9 := hide ((unhide Q8).burn f8)
  have S9 := hide s9
  clear r9 g9 SG8 R8 Q8 s9
  go_wp2_with fail
  refine (Read_f (unhide R9) (unhide Q9) f8.burn (by omega) 1 (by show 1 < T3.safe.length - 20; rw [l8]; decide)).mono ?_
  rintro e wA ⟨gA, qb, rfl, hqb, sA, hA9, rA⟩
  have e0 : over (prtW [(0, A), (1, C)]) zeros 0 = A := by simp [over, prtW]
  have e1 : over (prtW [(0, A), (1, C)]) zeros 1 = C := by simp [over, prtW]
  have k0 : Sl wA (.slice (some ⟨qa, 0, none⟩) 512 512) A := sl_block ((gA.2 qa (.inr rfl)).trans (by have := unhide S9; rw [e0] at this; exact this)) hAl
  have k1 : Sl wA (.slice (some ⟨qb, 0, none⟩) 512 512) C := sl_block (by rw [e1] at sA; exact sA) hCl
  have k2 : Sl wA (.slice (some ⟨xa, 0, none⟩) 512 512) A := sl_block ((gA.2 xa (.inl (.inl rfl))).trans (((unhide SG9).2 xa (.inl rfl)).trans (unhide SA))) hAl
  have k3 : Sl wA (.slice (some ⟨xc, 0, none⟩) 512 512) C := sl_block ((gA.2 xc (.inl (.inr rfl))).trans (((unhide SG9).2 xc (.inr rfl)).trans (unhide SC))) hCl
  have v0 := k0.strJ
  have v1 := k1.strJ
  have v2 := k2.strJ
  have v3 := k3.strJ
  have RA := hide rA.bel
  clear k0 k1 k2 k3 rA gA SG9 S9 sA R9 Q9 e0 e1 SA SC
  go_wp2
  go_ret
  exact ⟨rfl, unhide RA⟩
end Go.Proofs.YtfnhhjpebilacaaGreat

/-
  DERIVED. The law opens the log behind a crash, again and again, and tells the document's what its blocks are.
-/
namespace Go.Proofs.YtfnhhjpebilacaaGreat
open Go.RowKit
set_option linter.unusedVariables false
set_option maxRecDepth 20000

def ReoPost (w0 : World) (b rb nb mb nc mc M : Nat) (e : Ending) (w' : World) : Prop := ∃ lb T c R vs, e = .returned (.tuple #[.pointer (some ⟨lb, 0, none⟩), .bool true]) ∧ JAt w0 w' b lb rb nb mb nc mc M T false (Doc.told c) R (fun _ => False) (.slice none 0 0) vs [] ∧ Fits T (Doc.told c) ∧ T.down = false
theorem Lull.keptG {w0 w w' : World} {b lb N : Nat} {G H K : Nat → Prop} {S : St} {c : Nat → List UInt8} (h : Lull w0 w b lb N G S c) (hk : Kept K w w') (hKG : ∀ j, K j → G j) (hK : ∀ j, K j → w0.heap.size ≤ j) (hH : ∀ j, H j → G j ∨ (w.heap.size ≤ j ∧ j < w'.heap.size)) : Lull w0 w' b lb N H S c := { h with rst := h.rst.keptG hk hKG hK hH }
theorem SOwn.far {w : World} {base : Nat} {v : Value} {j : Nat} {f : Nat → List UInt8} (h : SOwn w base v j f) {q : Nat} (hq : v.ownBlock = some q) : base ≤ q ∧ q < w.heap.size := by
  rcases h.2 with ⟨rfl, _⟩ | ⟨g, cap, cur, rfl, hb, hg, r⟩
  · cases hq
  · cases hq; exact ⟨hb, lt_of_block hg⟩
theorem SameG.kept {G K : Nat → Prop} {w w' : World} (hk : Kept K w w') (hG : ∀ q, G q → q < w.heap.size ∧ ¬ K q) : SameG G w w' := ⟨hk.size, fun q hq => hk.block q (hG q hq).1 (hG q hq).2⟩
/-- Behind the telling. -/
theorem told_post {w0 W w' : World} {b lb rb nb mb nc mc N M : Nat} {T : St} {D : Doc} {R : Nat → Prop} {ws : List (Int × List UInt8)} {c : Nat → List UInt8} {G : Nat → Prop}
    (hl : Lull w0 W b lb N G T c) (hRG : ∀ q, R q → G q) (lo : ∀ q, R q → w0.heap.size ≤ q) (hok : D.ok c) (hway : prtW ws = D.way) (hNM : N ≤ M) {e : Ending} (hp : ToldPost W R rb nb mb nc mc D.half D.now c D.may ws e w') :
    e = .returned (.bool true) ∧ ∃ R' vs', JAt w0 w' b lb rb nb mb nc mc M T false (Doc.told c) R' (fun _ => False) (.slice none 0 0) vs' [] ∧ Fits T (Doc.told c) ∧ T.down = false := by
  obtain ⟨r, rfl, hr, vs', H, ref, hk, hH⟩ := hp
  have hr1 : r = true := hr (by
    rcases hok with h | ⟨h1, h2⟩
    · exact .inl h
    · exact .inr ⟨h1, fun n hn => by rw [hway]; exact (h2 n hn).symm⟩)
  subst hr1
  refine ⟨rfl, H, vs', ?_, fits_told hl.quiet hl.none hl.len, hl.quiet.up⟩
  have hsz := hl.rst.bel.size
  exact
    { rst := (hl.rst.keptG hk hRG lo fun j hj => by
        rcases hj with hj | hj
        · exact (hH j hj).imp (hRG j) id
        · exact hj.elim).mono hNM
      ref := ref
      way := fun w2 _ => wrs_nil w2
      ok := fun p hp => by cases hp
      wayE := rfl
      lo := fun q hq => by
        rcases hH q hq with h1 | h1
        · exact lo q h1
        · omega
      ap := fun q _ hp => hp }
theorem fuseK_free {S : St} (h : S.down = false) : (S.fuseK (-1)).fused = false := by unfold St.fuseK; rw [h]; rfl

theorem Lull.less0 {w0 w : World} {b lb N : Nat} {G H : Nat → Prop} {S : St} {c : Nat → List UInt8} (h : Lull w0 w b lb N G S c) (hH : ∀ j, H j → G j) : Lull w0 w b lb N H S c := { h with rst := h.rst.less hH }
theorem cell_one (w : World) (s : ByteArray) (t : TypeId) : (w.alloc (.cells #[.string s] t)).cell? ⟨w.heap.size, 0, none⟩ = some (.string s) := by rw [cell_of_row _ _ _ _ _ _ (heap_alloc_self _ _)]; rfl
set_option maxHeartbeats 8000000 in
theorem reopened_go {w0 w : World} {b lb rb nb mb nc mc N : Nat} {S : St} {dn : Bool} {D : Doc} {R P : Nat → Prop} {yv : Value} {vs : Nat → Value} {ws : List (Int × List UInt8)} (h : JAt w0 w b lb rb nb mb nc mc N S dn D R P yv vs ws) (hf : Fits S D) (hN : N < 300000) (kind n : Int) (n1 : -9223372036854775808 ≤ n) (n2 : n < 9223372036854775808) (wa : Option Addr) (wl wc : Nat) (pa : Option Addr) (pl pc : Nat) (ps : List Int) (hp : Ints w0 (.slice pa pl pc) ps) :
    Calls Tryz.prog 16 #[.pointer (some ⟨b, 0, none⟩), .pointer (some ⟨rb, 0, none⟩), .agg #[.int .i64 kind, .int .i64 n, .slice wa wl wc, .slice pa pl pc]] w (ReoPost w0 b rb nb mb nc mc (N + 1000)) := by
  obtain ⟨W1, hW1⟩ : ∃ W1, W1 = w.alloc (.cells #[.int .i64 kind, .int .i64 n, .slice wa wl wc, .slice pa pl pc] 33) := ⟨_, rfl⟩
  have hb1 : Below w.heap.size w W1 := by rw [hW1]; exact (Below.refl _ _).alloc (Nat.le_refl _) _
  obtain ⟨x, hx⟩ : ∃ x, x = w.heap.size := ⟨_, rfl⟩
  have bx1 : W1.heap[x]? = some (.cells #[.int .i64 kind, .int .i64 n, .slice wa wl wc, .slice pa pl pc] 33 (0, 0)) := by rw [hW1, hx]; exact heap_alloc_self _ _
  have j1 := h.grown hb1
  have xlt : x < W1.heap.size := lt_of_block bx1
  obtain ⟨P1, hP1⟩ : ∃ P1 : Nat → Prop, P1 = fun q => P q ∨ (w.heap.size ≤ q ∧ q < W1.heap.size) := ⟨_, rfl⟩
  have px : P1 x := by rw [hP1]; exact .inr ⟨by omega, xlt⟩
  rw [← hP1] at j1
  obtain ⟨G, hG⟩ : ∃ G : Nat → Prop, G = fun q => R q ∨ P1 q := ⟨_, rfl⟩
  have HRG : Hid (∀ q, R q → G q) := hide (fun q hq => by rw [hG]; exact .inl hq)
  have HPG : Hid (∀ q, P1 q → G q) := hide (fun q hq => by rw [hG]; exact .inr hq)
  have HGX : Hid (G x) := hide (by rw [hG]; exact .inr px)
  have hd1 := j1.rst.dev
  rw [← hG] at hd1
  have HGB1 : Hid (∀ q, G q → q < W1.heap.size) := hide (fun q hq => by rw [hG] at hq; rcases hq with h | h; exact j1.ltR h; exact j1.ltP h)
  have CR := hide (Crash_r hd1 (by omega) ps (.slice pa pl pc) hp)
  have J1 := hide j1
  have HX := hide hx
  have HW1 := hide hW1
  have HBX := hide bx1
  have HP := hide hp
  have HB0 := hide j1.bel.size
  obtain ⟨ns, c, s2, ok2⟩ := hf.crash ps
  have HSo := hide s2
  have HDO := hide ok2
  have HL64 : Hid ((S.crash ps).safe.length = 64) := hide (by rw [crash_len]; exact hf.len)
  clear h hf hb1 bx1 j1 xlt hP1 px hG hd1 hx hW1 hp s2 ok2
  go_enter Tryz.func16, Tryz.ntmps16
  go_wp2_with fail
  rw [← unhide HW1, ← unhide HX]
  refine (unhide CR).mono ?_
  rintro e w2 ⟨rfl, r2, g2⟩
  have R2 := hide r2
  have G2 := hide g2
  clear r2 g2 CR HW1 HX
  go_wp2_with fail
  go_loopw [8] (fun i W => ∃ (j : Nat) (T : St) (ns : List Nat), i = .int .i64 (j : Int) ∧ j ≤ 4 ∧ Hid (RstD w0 W b (N + 100 * j) G T) ∧ Hid (Sound T ns c) ∧ Hid (Free T) ∧ Hid (T.safe.length = 64) ∧ Hid (SameG G W1 W)) (fun i _ => 4 - (intOf i).toNat)
  case atStart => exact ⟨0, _, ns, rfl, by omega, R2, HSo, hide (Free.crash _ _), HL64, G2⟩
  case round =>
    obtain ⟨j, T, ns, rfl, hj, HR, HS, HFr, HLn, HG⟩ := hrel
    clear R2 HSo HL64 G2
    have bx : wr.heap[x]? = _ := ((unhide HG).2 x (unhide HGX)).trans (unhide HBX)
    have cx1 : wr.cell? ⟨x, 1, none⟩ = some (.int .i64 n) := (cell_of_row _ _ _ _ _ _ bx).trans rfl
    clear bx
    by_cases hlt : j < 4
    · have hlt' : (j : Int) < 4 := by omega
      go_wp2_with fail
      refine (Pick_30' n wr n1 n2).mono ?_
      rintro e w6 ⟨rfl, rfl⟩
      have hpk := pickR_lt n 29
      obtain ⟨m, hm⟩ : ∃ m, m = pickR n 29 := ⟨_, rfl⟩
      rw [← hm] at hpk ⊢
      clear hm
      obtain ⟨k, hk, hk2⟩ : ∃ k : Nat, (m : Int) * ((j : Int) + 1) = (k : Int) ∧ k ≤ 120 := ⟨m * (j + 1), by push_cast; rfl, Nat.le_trans (Nat.mul_le_mul (show m ≤ 30 by omega) (show j + 1 ≤ 4 by omega)) (by decide)⟩
      go_wp2_with fail
      refine (Fuse_d' (unhide HR) (k : Int) (by omega) (by omega)).mono ?_
      rintro e w7 ⟨rfl, r7, g7⟩
      rw [(unhide HFr).up]
      have s7 : Sound (T.fuseK (k : Int)) ns c := (unhide HS).alike ((Alike.refl T).fuseK _)
      have OP := hide (Open_s r7 s7 (by rw [St.fuseK_down]; exact (unhide HFr).up) (by rw [St.fuseK_len]; exact unhide HLn) (by omega))
      have HG7 := hide ((unhide HG).trans g7)
      clear r7 g7 s7 HR HS HFr HLn HG cx1 hk
      go_wp2_with fail
      refine (unhide OP).mono ?_
      rintro e w8 ⟨g8, T8, l8, hee⟩
      have HG8 := hide ((unhide HG7).trans g8)
      have L8 := hide l8
      clear g8 l8 HG7 OP
      rcases hee with ⟨lb2, rfl, r8, q8, p8, _⟩ | ⟨rfl, r8, d8, s8⟩
      · have FU := hide (Fuse_r r8 (-1) (by omega) (by omega))
        have Q8 := hide q8
        have P8 := hide p8
        have hup := q8.up
        rw [hup] at FU
        clear r8 q8 p8 hup
        go_wp2_with fail
        refine (unhide FU).mono ?_
        rintro e w9 ⟨rfl, r9, g9⟩
        have LU : Hid (Lull w0 w9 b lb2 (N + 500) G (T8.fuseK (-1)) c) := hide ⟨r9.mono (by omega), (unhide Q8).fuseK _, ⟨fuseK_free (unhide Q8).up, by rw [St.fuseK_down]; exact (unhide Q8).up⟩, fun k => by rw [St.fuseK_pend]; exact unhide P8 k, by rw [St.fuseK_len]; exact unhide L8⟩
        have HSG := hide ((unhide HG8).trans g9)
        clear r9 g9 FU Q8 P8 L8 HG8 hj hlt hlt' hpk hk2
        go_wp2_with fail
        obtain ⟨B, hB⟩ : ∃ B, B = W1.heap.size := ⟨_, rfl⟩
        have HB : Hid (B ≤ W1.heap.size) := hide (by omega)
        have HBW : Hid (w0.heap.size ≤ B) := hide (by have := unhide HB0; omega)
        have HGB : Hid (∀ q, G q → q < B) := hide (fun q hq => by rw [hB]; exact unhide HGB1 q hq)
        clear hB
        go_loopw [11, 12] (fun v i W => ∃ (j : Nat) (T : St), i = .int .i64 (j : Int) ∧ j ≤ 44 ∧ Hid (Lull w0 W b lb2 (N + 500 + 2 * j) (fun q => G q ∨ v.ownBlock = some q) T c) ∧ Hid (SOwn W B v j c) ∧ Hid (SameG G W1 W)) (fun _ i _ => 44 - (intOf i).toNat)
        case atStart => exact ⟨0, _, rfl, by omega, hide ((unhide LU).less0 fun q hq => hq.resolve_right (fun h => by cases h)), hide (SOwn.nil _ _ _), HSG⟩
        case round =>
          obtain ⟨j, T, rfl, hj, HL, HO, HS⟩ := hrel
          clear HSG LU
          have SZ := hide (Size_r (unhide HL).rst)
          have hl64 := (unhide HL).len
          rw [hl64] at SZ
          have BS : Hid (B ≤ wr.heap.size) := hide (Nat.le_trans (unhide HB) (unhide HS).1)
          clear hl64
          by_cases hlt : j < 44
          · have hlt' : (j : Int) < 44 := by omega
            go_wp2_with fail
            refine (unhide SZ).mono ?_
            rintro e w6 ⟨rfl, rfl⟩
            have RD := hide (Read_l (unhide HL) (by omega) j hlt)
            clear SZ
            go_wp2_with fail
            refine (unhide RD).mono ?_
            rintro e w7 ⟨sg, q, rfl, hq, hr, h5, l7⟩
            have v7 := (sl_block hr h5).strJ
            obtain ⟨cj, hcj⟩ : ∃ cj, cj = c j := ⟨_, rfl⟩
            rw [← hcj] at v7
            obtain ⟨s7, hs7⟩ : ∃ s7, s7 = (⟨cj.toArray⟩ : ByteArray) := ⟨_, rfl⟩
            rw [← hs7] at v7
            have HS7 : Hid (sV (c j) = .string s7) := hide (by rw [hs7, hcj]; rfl)
            have L7 := hide l7
            have HO7 : Hid (SOwn (w7.alloc (.cells #[.string s7] 9)) B u11 j c) := hide (((unhide HO).keptB fun q hq _ => sg.2 q (.inr hq)).keptB fun q hq hl => Below.heap_alloc _ _ _ hl)
            have HZ7 : Hid (B ≤ (w7.alloc (.cells #[.string s7] 9)).heap.size) := hide (by have := unhide BS; have := sg.1; simp; omega)
            have HG7 : Hid (SameG G W1 w7) := hide ((unhide HS).trans (sg.mono fun q hq => .inl hq))
            have HF : Hid (∀ v' w', SOwn w' B v' (j + 1) c → (w7.alloc (.cells #[.string s7] 9)).grownBy w' u11.ownBlock → (v'.ownBlock = u11.ownBlock ∨ v'.ownBlock = some (w7.alloc (.cells #[.string s7] 9)).heap.size) → Lull w0 w' b lb2 (N + 500 + 2 * (j + 1)) (fun q => G q ∨ v'.ownBlock = some q) T.burn c ∧ SameG G W1 w') := hide (fun v' w' o' g' at' => by
              have ha : Below w7.heap.size w7 (w7.alloc (.cells #[.string s7] 9)) := (Below.refl _ _).alloc (Nat.le_refl _) _
              have hk : Kept (fun q => u11.ownBlock = some q) (w7.alloc (.cells #[.string s7] 9)) w' := Kept.of_grown g' fun q hq => hq
              have far : ∀ q, u11.ownBlock = some q → B ≤ q := fun q hq => ((unhide HO7).far hq).1
              have hBw := unhide HBW
              refine ⟨(((unhide L7).grown ha (H := fun q => G q ∨ u11.ownBlock = some q) fun j hj => .inl hj).keptG hk (fun j hj => .inr hj) (fun j hj => by have := far j hj; omega) fun q hq => ?_).mono (by omega), (unhide HG7).trans (SameG.trans (SameG.mono (G := fun q => q < w7.heap.size) ⟨ha.size, fun q hq => ha.block q hq⟩ fun q hq => (unhide L7).rst.gl (.inl hq)) (SameG.kept hk fun q hq => ⟨by have := (unhide L7).rst.gl (x := q) (.inl hq); have := ha.size; omega, fun h => ?_⟩))⟩
              · rcases hq with hq | hq
                · exact .inl (.inl hq)
                · rcases at' with h | h
                  · exact .inl (.inr (h ▸ hq))
                  · rw [h] at hq
                    cases hq
                    have := (o'.far h).2
                    exact .inr ⟨Nat.le_refl _, this⟩
              · have := far q h
                have := unhide HGB q hq
                omega)
            clear hr h5 l7 sg HL HO HS hq hcj hs7 RD BS
            go_wp2_with (first | (refine wpList_append_str rfl (.tmp 64) (.tmp 67) rfl B u11 j c rfl (unhide HO7) (by omega) ⟨w7.heap.size, 0, none⟩ 1 rfl (by rw [unhide HS7]; exact cell_one _ _ _) (unhide HZ7) ?_; intro v8 w8 o8 g8 at8; have F8 := hide (unhide HF v8 w8 o8 g8 at8); have O8 := hide o8; clear o8 g8 at8) | fail)
            go_roundw
            case rel => exact ⟨j + 1, T.burn, by go_num, by omega, hide (unhide F8).1, O8, hide (unhide F8).2⟩
            case measure => simp [intOf]; omega
          · have hlt' : ¬ (j : Int) < 44 := by omega
            obtain rfl : j = 44 := by omega
            obtain ⟨sb, sc, hvv, hsb, hsc1, hsc2, hrow⟩ := rowSome (unhide HO)
            subst hvv
            have TO := hide (Told_go (w := wr) (G := R) (GW := P1) ((unhide J1).ref.same fun q hq => (unhide HS).2 q (unhide HRG q hq)) ((unhide J1).way.same ((unhide HS).mono fun q hq => unhide HPG q hq)) (fun q hq => Nat.lt_of_lt_of_le ((unhide J1).ltP hq) (unhide HS).1) (unhide J1).ok sb sc hsc1 hsc2 (nw := c) (fun W hW n hn => by
              have h1 := (rowCell hrow n (sV (c n)) (by rw [List.getElem?_map, List.getElem?_range hn]; rfl)).1
              have hs : sb < wr.heap.size := World.block_lt_of_cell? wr _ h1
              have hnr : ¬ R sb := fun h => by have := unhide HGB sb (unhide HRG sb h); omega
              rw [← h1]
              show World.cell? W _ = World.cell? wr _
              unfold World.cell?
              rw [hW.block sb hs hnr]))
            have LL := hide (unhide HL)
            clear hrow hsb hsc1 hsc2 HO HS HL
            go_wp2_with fail
            refine (unhide SZ).mono ?_
            rintro e w6 ⟨rfl, rfl⟩
            clear SZ
            go_wp2_with fail
            refine (unhide TO).mono ?_
            rintro e w9 hp
            obtain ⟨he, hh⟩ := told_post (unhide LL) (fun q hq => .inl (unhide HRG q hq)) (unhide J1).lo (unhide HDO) (unhide J1).wayE (show N + 500 + 2 * 44 ≤ N + 1000 by omega) hp
            subst he
            have HH := hide hh
            clear hp hh TO LL
            go_wp2
            go_ret2
            obtain ⟨R', vs', a1, a2, a3⟩ := unhide HH
            exact ⟨lb2, T, c, R', vs', rfl, a1, a2, a3⟩
      · have HR8 := hide r8
        have S8 := hide s8
        have bx8 : w8.heap[x]? = _ := ((unhide HG8).2 x (unhide HGX)).trans (unhide HBX)
        have cx3 : w8.cell? ⟨x, 3, none⟩ = some (.slice pa pl pc) := (cell_of_row _ _ _ _ _ _ bx8).trans rfl
        clear r8 d8 s8 bx8
        go_wp2_with fail
        refine (Crash_r (unhide HR8) (by omega) ps _ (unhide HP)).mono ?_
        rintro e w9 ⟨rfl, r9, g9⟩
        obtain ⟨ns9, s9⟩ := unhide S8 ps
        have R9 := hide r9
        have S9 := hide s9
        have G9 := hide ((unhide HG8).trans g9)
        have L9 : Hid ((T8.crash ps).safe.length = 64) := hide (by rw [crash_len]; exact unhide L8)
        clear r9 g9 s9 HR8 S8 L8 HG8 cx3
        go_wp2
        go_roundw
        case rel => exact ⟨j + 1, T8.crash ps, ns9, by go_num, by omega, hide ((unhide R9).mono (by omega)), S9, hide (Free.crash _ _), L9, G9⟩
        case measure => simp [intOf]; omega
    · have hlt' : ¬ (j : Int) < 4 := by omega
      have HR := hide ((unhide HR).mono (show N + 100 * j ≤ N + 400 by omega))
      have OP := hide (Open_l (unhide HR) (unhide HS) (unhide HFr) (unhide HLn) (by omega))
      clear HR HS HFr HLn cx1
      go_wp2_with fail
      refine (unhide OP).mono ?_
      rintro e w8 ⟨g8, lb2, T8, rfl, l8⟩
      have LU := hide l8
      have HSG := hide ((unhide HG).trans g8)
      clear g8 l8 OP hj hlt hlt' HG
      go_wp2_with fail
      obtain ⟨B, hB⟩ : ∃ B, B = W1.heap.size := ⟨_, rfl⟩
      have HB : Hid (B ≤ W1.heap.size) := hide (by omega)
      have HBW : Hid (w0.heap.size ≤ B) := hide (by have := unhide HB0; omega)
      have HGB : Hid (∀ q, G q → q < B) := hide (fun q hq => by rw [hB]; exact unhide HGB1 q hq)
      clear hB
      go_loopw [17, 18] (fun v i W => ∃ (j : Nat) (T : St), i = .int .i64 (j : Int) ∧ j ≤ 44 ∧ Hid (Lull w0 W b lb2 (N + 500 + 2 * j) (fun q => G q ∨ v.ownBlock = some q) T c) ∧ Hid (SOwn W B v j c) ∧ Hid (SameG G W1 W)) (fun _ i _ => 44 - (intOf i).toNat)
      case atStart => exact ⟨0, _, rfl, by omega, hide ((unhide LU).less0 fun q hq => hq.resolve_right (fun h => by cases h)), hide (SOwn.nil _ _ _), HSG⟩
      case round =>
        obtain ⟨j, T, rfl, hj, HL, HO, HS⟩ := hrel
        clear HSG LU
        have SZ := hide (Size_r (unhide HL).rst)
        have hl64 := (unhide HL).len
        rw [hl64] at SZ
        have BS : Hid (B ≤ wr.heap.size) := hide (Nat.le_trans (unhide HB) (unhide HS).1)
        clear hl64
        by_cases hlt : j < 44
        · have hlt' : (j : Int) < 44 := by omega
          go_wp2_with fail
          refine (unhide SZ).mono ?_
          rintro e w6 ⟨rfl, rfl⟩
          have RD := hide (Read_l (unhide HL) (by omega) j hlt)
          clear SZ
          go_wp2_with fail
          refine (unhide RD).mono ?_
          rintro e w7 ⟨sg, q, rfl, hq, hr, h5, l7⟩
          have v7 := (sl_block hr h5).strJ
          obtain ⟨cj, hcj⟩ : ∃ cj, cj = c j := ⟨_, rfl⟩
          rw [← hcj] at v7
          obtain ⟨s7, hs7⟩ : ∃ s7, s7 = (⟨cj.toArray⟩ : ByteArray) := ⟨_, rfl⟩
          rw [← hs7] at v7
          have HS7 : Hid (sV (c j) = .string s7) := hide (by rw [hs7, hcj]; rfl)
          have L7 := hide l7
          have HO7 : Hid (SOwn (w7.alloc (.cells #[.string s7] 9)) B u17 j c) := hide (((unhide HO).keptB fun q hq _ => sg.2 q (.inr hq)).keptB fun q hq hl => Below.heap_alloc _ _ _ hl)
          have HZ7 : Hid (B ≤ (w7.alloc (.cells #[.string s7] 9)).heap.size) := hide (by have := unhide BS; have := sg.1; simp; omega)
          have HG7 : Hid (SameG G W1 w7) := hide ((unhide HS).trans (sg.mono fun q hq => .inl hq))
          have HF : Hid (∀ v' w', SOwn w' B v' (j + 1) c → (w7.alloc (.cells #[.string s7] 9)).grownBy w' u17.ownBlock → (v'.ownBlock = u17.ownBlock ∨ v'.ownBlock = some (w7.alloc (.cells #[.string s7] 9)).heap.size) → Lull w0 w' b lb2 (N + 500 + 2 * (j + 1)) (fun q => G q ∨ v'.ownBlock = some q) T.burn c ∧ SameG G W1 w') := hide (fun v' w' o' g' at' => by
            have ha : Below w7.heap.size w7 (w7.alloc (.cells #[.string s7] 9)) := (Below.refl _ _).alloc (Nat.le_refl _) _
            have hk : Kept (fun q => u17.ownBlock = some q) (w7.alloc (.cells #[.string s7] 9)) w' := Kept.of_grown g' fun q hq => hq
            have far : ∀ q, u17.ownBlock = some q → B ≤ q := fun q hq => ((unhide HO7).far hq).1
            have hBw := unhide HBW
            refine ⟨(((unhide L7).grown ha (H := fun q => G q ∨ u17.ownBlock = some q) fun j hj => .inl hj).keptG hk (fun j hj => .inr hj) (fun j hj => by have := far j hj; omega) fun q hq => ?_).mono (by omega), (unhide HG7).trans (SameG.trans (SameG.mono (G := fun q => q < w7.heap.size) ⟨ha.size, fun q hq => ha.block q hq⟩ fun q hq => (unhide L7).rst.gl (.inl hq)) (SameG.kept hk fun q hq => ⟨by have := (unhide L7).rst.gl (x := q) (.inl hq); have := ha.size; omega, fun h => ?_⟩))⟩
            · rcases hq with hq | hq
              · exact .inl (.inl hq)
              · rcases at' with h | h
                · exact .inl (.inr (h ▸ hq))
                · rw [h] at hq
                  cases hq
                  have := (o'.far h).2
                  exact .inr ⟨Nat.le_refl _, this⟩
            · have := far q h
              have := unhide HGB q hq
              omega)
          clear hr h5 l7 sg HL HO HS hq hcj hs7 RD BS
          go_wp2_with (first | (refine wpList_append_str rfl (.tmp 108) (.tmp 111) rfl B u17 j c rfl (unhide HO7) (by omega) ⟨w7.heap.size, 0, none⟩ 1 rfl (by rw [unhide HS7]; exact cell_one _ _ _) (unhide HZ7) ?_; intro v8 w8 o8 g8 at8; have F8 := hide (unhide HF v8 w8 o8 g8 at8); have O8 := hide o8; clear o8 g8 at8) | fail)
          go_roundw
          case rel => exact ⟨j + 1, T.burn, by go_num, by omega, hide (unhide F8).1, O8, hide (unhide F8).2⟩
          case measure => simp [intOf]; omega
        · have hlt' : ¬ (j : Int) < 44 := by omega
          obtain rfl : j = 44 := by omega
          obtain ⟨sb, sc, hvv, hsb, hsc1, hsc2, hrow⟩ := rowSome (unhide HO)
          subst hvv
          have TO := hide (Told_go (w := wr) (G := R) (GW := P1) ((unhide J1).ref.same fun q hq => (unhide HS).2 q (unhide HRG q hq)) ((unhide J1).way.same ((unhide HS).mono fun q hq => unhide HPG q hq)) (fun q hq => Nat.lt_of_lt_of_le ((unhide J1).ltP hq) (unhide HS).1) (unhide J1).ok sb sc hsc1 hsc2 (nw := c) (fun W hW n hn => by
            have h1 := (rowCell hrow n (sV (c n)) (by rw [List.getElem?_map, List.getElem?_range hn]; rfl)).1
            have hs : sb < wr.heap.size := World.block_lt_of_cell? wr _ h1
            have hnr : ¬ R sb := fun h => by have := unhide HGB sb (unhide HRG sb h); omega
            rw [← h1]
            show World.cell? W _ = World.cell? wr _
            unfold World.cell?
            rw [hW.block sb hs hnr]))
          have LL := hide (unhide HL)
          clear hrow hsb hsc1 hsc2 HO HS HL
          go_wp2_with fail
          refine (unhide SZ).mono ?_
          rintro e w6 ⟨rfl, rfl⟩
          clear SZ
          go_wp2_with fail
          refine (unhide TO).mono ?_
          rintro e w9 hp
          obtain ⟨he, hh⟩ := told_post (unhide LL) (fun q hq => .inl (unhide HRG q hq)) (unhide J1).lo (unhide HDO) (unhide J1).wayE (show N + 500 + 2 * 44 ≤ N + 1000 by omega) hp
          subst he
          have HH := hide hh
          clear hp hh TO LL
          go_wp2
          go_ret2
          obtain ⟨R', vs', a1, a2, a3⟩ := unhide HH
          exact ⟨lb2, T, c, R', vs', rfl, a1, a2, a3⟩
end Go.Proofs.YtfnhhjpebilacaaGreat
