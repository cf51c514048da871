/-
  DERIVED. A device, and what each of its blocks may be.
-/
import Derived.Test.YtdcggplmoiodjaaDmay
namespace Go.Proofs.Ytdcggplmoiodjaa
open Go.RowKit
set_option linter.unusedVariables false

/-- The device at b (its memory below B), and the array at A. -/
def Kp (w wr : World) (B b A N : Nat) (S : St) (ms : Nat → List ByteArray) : Prop :=
  ∃ F mv, (∀ q, F q → w.heap.size ≤ q ∧ q < B) ∧ Dev wr b F N S ∧ S.fused = false ∧ S.down = false ∧ S.safe.length = 64 ∧ MayAt wr F A mv ms ∧ Below w.heap.size w wr ∧ B ≤ wr.heap.size ∧ w.heap.size ≤ A ∧ ∀ n q, (mv n).ownBlock = some q → w.heap.size ≤ q

theorem Kp.size {w wr : World} {B b A N : Nat} {S : St} {ms : Nat → List ByteArray} (h : Kp w wr B b A N S ms) : w.heap.size ≤ wr.heap.size ∧ B ≤ wr.heap.size ∧ A < wr.heap.size := by
  obtain ⟨F, mv, _, _, _, _, _, hm, hb, hB, _⟩ := h
  exact ⟨hb.size, hB, hm.lt⟩
theorem Kp.below {w wr : World} {B b A N : Nat} {S : St} {ms : Nat → List ByteArray} (h : Kp w wr B b A N S ms) : Below w.heap.size w wr := by
  obtain ⟨F, mv, _, _, _, _, _, _, hb, _⟩ := h
  exact hb
theorem Kp.grown {w wr w' : World} {B b A N : Nat} {S : St} {ms : Nat → List ByteArray} (h : Kp w wr B b A N S ms) (hb : Below wr.heap.size wr w') : Kp w w' B b A N S ms := by
  obtain ⟨F, mv, hF, hd, h1, h2, h3, hm, hbl, hB, hA, hO⟩ := h
  exact ⟨F, mv, hF, hd.grown hb, h1, h2, h3, hm.grown hb, hbl.trans (hb.mono hbl.size), Nat.le_trans hB hb.size, hA, hO⟩
theorem Kp.up {w wr : World} {B b A N : Nat} {S : St} {ms : Nat → List ByteArray} (h : Kp w wr B b A N S ms) : Kp w wr wr.heap.size b A N S ms := by
  obtain ⟨F, mv, hF, hd, h1, h2, h3, hm, hbl, hB, hA, hO⟩ := h
  exact ⟨F, mv, fun q hq => ⟨(hF q hq).1, Nat.lt_of_lt_of_le (hF q hq).2 hB⟩, hd, h1, h2, h3, hm, hbl, Nat.le_refl _, hA, hO⟩
theorem burn_no {S : St} (h : S.fused = false) : burnE S.fused S.fuse = 0 := by rw [h]; rfl
theorem down_no {S : St} (h : S.fused = false) (h2 : S.down = false) : S.burn.down = false := by show burnD S.fused S.fuse S.down = false; rw [h, h2]; rfl

theorem Write_kp {w wr : World} {B b A N : Nat} {S : St} {ms : Nat → List ByteArray} (h : Kp w wr B b A N S ms) (k g : Nat) (L : List UInt8) (hk : k < 64) (hg : B ≤ g) (hv : Sl wr (.slice (some ⟨g, 0, none⟩) 512 512) L) (hL : L.length = 512) (hN : N < 1000000) :
    Calls Try.prog 21 #[.pointer (some ⟨b, 0, none⟩), .int .i64 k, .slice (some ⟨g, 0, none⟩) 512 512] wr fun e w' => e = .returned (.int .i64 0) ∧ Kp w w' w'.heap.size b A (N + 2) (S.burn.wrote k L) ms ∧ Sl w' (.slice (some ⟨g, 0, none⟩) 512 512) L := by
  obtain ⟨F, mv, hF, hd, h1, h2, h3, hm, hbl, hB, hA, hO⟩ := h
  refine (Write_own (base := w.heap.size) hd (fun q hq => ⟨(hF q hq).1, Nat.lt_of_lt_of_le (hF q hq).2 hB⟩) hbl.size k L _ (by rw [h3]; exact hk) h2 (burn_no h1) hv hL hN).mono ?_
  rintro e w' ⟨rfl, ⟨F', f1, f2, d'⟩, k'⟩
  refine ⟨rfl, ⟨F', mv, f1, d', h1, down_no h1 h2, h3, hm.kept k' f2, hbl.trans (k'.below hbl.size fun q hq => (hF q hq).1), Nat.le_refl _, hA, hO⟩, ?_⟩
  obtain ⟨ao, cap, e, r1, r2, r3⟩ := hv
  refine ⟨ao, cap, e, r1, r2, fun hc => ?_⟩
  obtain ⟨b', off, e', hlt, hcl⟩ := r3 hc
  have eb : b' = g := by
    rw [e'] at e
    simp only [Value.slice.injEq, Option.some.injEq, Addr.mk.injEq] at e
    exact e.1.1.symm
  refine ⟨b', off, e', Nat.lt_of_lt_of_le hlt k'.size, fun i hi => ?_⟩
  rw [World.cell?_of_block (a := ⟨b', off + i, none⟩) (k'.block b' hlt fun hf => by have := (hF b' hf).2; omega)]
  exact hcl i hi

theorem Flush_kp {w wr : World} {B b A N : Nat} {S : St} {ms : Nat → List ByteArray} (h : Kp w wr B b A N S ms) (hN : N < 1000000) :
    Calls Try.prog 22 #[.pointer (some ⟨b, 0, none⟩)] wr fun e w' => e = .returned (.int .i64 0) ∧ Kp w w' w'.heap.size b A (N + 1) S.burn.flushed ms := by
  obtain ⟨F, mv, hF, hd, h1, h2, h3, hm, hbl, hB, hA, hO⟩ := h
  refine (Flush_dev hd h2 (burn_no h1) hN).mono ?_
  rintro e w' ⟨rfl, d', k'⟩
  exact ⟨rfl, F, mv, fun q hq => ⟨(hF q hq).1, by have := (hF q hq).2; have := k'.size; omega⟩, d', h1, down_no h1 h2, by show ((List.range S.safe.length).map _).length = 64; rw [List.length_map, List.length_range]; exact h3, hm.kept k' (fun _ h => .inl h), hbl.trans (k'.below hbl.size fun q hq => (hF q hq).1), Nat.le_refl _, hA, hO⟩

theorem Crash_kp {w wr : World} {B b A N : Nat} {S : St} {ms : Nat → List ByteArray} (h : Kp w wr B b A N S ms) (hN : N < 1000000) (u : Value) (ps : List Int) (hu : Ints w u ps) (huo : ps ≠ [] → ∀ pb, u.ownBlock = some pb → pb < w.heap.size) :
    Calls Try.prog 16 #[.pointer (some ⟨b, 0, none⟩), u] wr fun e w' => e = .returned (.tuple #[]) ∧ Kp w w' w'.heap.size b A N (S.crash ps) ms := by
  obtain ⟨F, mv, hF, hd, h1, h2, h3, hm, hbl, hB, hA, hO⟩ := h
  refine (Crash_dev hd hN ps u (hu.below hbl (Nat.le_refl _)) (fun hne pb hpb hf => by have := huo hne pb hpb; have := (hF pb hf).1; omega)).mono ?_
  rintro e w' ⟨rfl, d', k'⟩
  exact ⟨rfl, F, mv, fun q hq => ⟨(hF q hq).1, by have := (hF q hq).2; have := k'.size; omega⟩, d', rfl, rfl, by show (St.crashTo _ _ _).length = 64; rw [St.crashTo_len]; exact h3, hm.kept k' (fun _ h => .inl h), hbl.trans (k'.below hbl.size fun q hq => (hF q hq).1), Nat.le_refl _, hA, hO⟩

theorem Read_kp {w wr : World} {B b A N : Nat} {S : St} {ms : Nat → List ByteArray} (h : Kp w wr B b A N S ms) (k : Nat) (hk : k < 64) (hN : N < 1000000) :
    Calls Try.prog 23 #[.pointer (some ⟨b, 0, none⟩), .int .i64 k] wr fun e w' => ∃ q, e = .returned (.tuple #[.slice (some ⟨q, 0, none⟩) 512 512, .int .i64 0]) ∧ w'.heap[q]? = some (.cells ((S.newest k).map bv).toArray 68 (0, 0)) ∧ (S.newest k).length = 512 ∧ Kp w w' B b A (N + 1) S.burn ms := by
  obtain ⟨F, mv, hF, hd, h1, h2, h3, hm, hbl, hB, hA, hO⟩ := h
  have hl : (S.newest k).length = 512 := by
    obtain ⟨g, c, m, vf, D, hd⟩ := hd
    exact St.newest_len hd k (by rw [h3]; exact hk)
  refine (Read_dev hd k (by rw [h3]; exact hk) h2 (burn_no h1) hN).mono ?_
  rintro e w' ⟨q, rfl, hq, hr, d', k'⟩
  exact ⟨q, rfl, hr, hl, F, mv, hF, d', h1, down_no h1 h2, h3, hm.kept k' (fun _ h => .inl h), hbl.trans (k'.below hbl.size fun q hq => (hF q hq).1), Nat.le_trans hB k'.size, hA, hO⟩

/-- A slice laid into the array, the device standing. -/
theorem Kp.set {w wr w1 : World} {B b A N : Nat} {S : St} {ms : Nat → List ByteArray} {F : Nat → Prop} {mv : Nat → Value} (hF : ∀ q, F q → w.heap.size ≤ q ∧ q < B) (hd : Dev wr b F N S) (h1 : S.fused = false) (h2 : S.down = false) (h3 : S.safe.length = 64) (hm : MayAt wr F A mv ms) (hbl : Below w.heap.size w wr) (hB : B ≤ wr.heap.size) (hA : w.heap.size ≤ A)
    (k : Nat) (hk : k < 64) (v : Value) (l : List ByteArray) (hg : wr.grownBy w1 (mv k).ownBlock) (hO : ∀ n q, (mv n).ownBlock = some q → w.heap.size ≤ q)
    (hv : w1.ownsRow 0 9 1 v l.length (l.map Value.string)) (hat : ∀ q, v.ownBlock = some q → (mv k).ownBlock = some q ∨ wr.heap.size ≤ q) : Kp w (w1.setCell ⟨A, k, none⟩ v) B b A N S (upd ms k l) := by
  have hs : (w1.setCell ⟨A, k, none⟩ v).heap.size = w1.heap.size := by simp [World.setCell]
  refine ⟨F, upd mv k v, hF, hd.frame fun q hq hl => ?_, h1, h2, h3, hm.set k hk v l hg hv fun q hq => (hat q hq).imp id fun h => ⟨h, fun hf => by have := (hF q hf).2; omega⟩, ?_, by rw [hs]; exact Nat.le_trans hB hg.size, hA, fun n q hq => ?_⟩
  · rw [heap_setCell_other _ _ _ _ (show q ≠ A from fun e => hm.na (e ▸ hq))]
    exact hg.block q hl fun e => (hm.foot k q e.symm).1 hq
  · have hb1 : Below w.heap.size w w1 := hbl.trans ⟨hg.os, hg.tape, hg.output, hg.size, fun q hq => hg.block q (by have := hbl.size; omega) fun e => by have := hO k q e.symm; omega⟩
    exact hb1.setCell hA v
  · by_cases e : n = k
    · subst e
      simp only [upd, if_true] at hq
      rcases hat q hq with h | h
      · exact hO n q h
      · have := hbl.size; omega
    · simp only [upd, if_neg e] at hq
      exact hO n q hq

/-- A slice of one string, laid into the array. -/
theorem Kp.one {w wr : World} {B b A N : Nat} {S : St} {ms : Nat → List ByteArray} (h : Kp w wr B b A N S ms) (k : Nat) (hk : k < 64) (s : ByteArray) :
    Kp w ((wr.setCell ⟨A, k, none⟩ (.slice (some ⟨wr.heap.size, 0, none⟩) 1 1)).alloc (.cells #[.string s] 9)) B b A N S (upd ms k [s]) := by
  obtain ⟨F, mv, hF, hd, h1, h2, h3, hm, hbl, hB, hA, hO⟩ := h
  rw [← World.setCell_alloc_past _ _ _ _ hm.lt]
  refine Kp.set hF hd h1 h2 h3 hm hbl hB hA k hk _ [s] ?_ hO (row_one wr s) fun q hq => ?_
  · have := World.grownBy_alloc wr (.cells #[.string s] 9) none
    exact ⟨this.os, this.tape, this.output, this.size, fun i hi _ => this.block i hi (by simp)⟩
  · cases hq; exact .inr (Nat.le_refl _)

theorem infoStr : (Try.prog.info? 9).map (fun i => (i.zero, i.size, i.bytes)) = some (some (.string ByteArray.empty), 1, 16) := by kernel_rfl
theorem Kp.len {w wr : World} {B b A N : Nat} {S : St} {ms : Nat → List ByteArray} (h : Kp w wr B b A N S ms) (k : Nat) : (mayS S k).length ≤ N + 1 := by
  obtain ⟨F, mv, hF, hd, h1, h2, h3, hm, hbl, hB, hA, hO⟩ := h
  obtain ⟨g, c, m, vf, D, hd⟩ := hd
  have := hd.pend.len k
  unfold mayS
  split
  · simp; omega
  · simp

theorem Kp.drewN {w wr : World} {B b A N : Nat} {S : St} {ms : Nat → List ByteArray} (h : Kp w wr B b A N S ms) (n : Nat) : Kp w (wr.drewN n) B b A N S ms := h.grown (below_drewN (Below.refl _ _) n)
theorem Sl.drewN {w : World} {v : Value} {l : List UInt8} (h : Sl w v l) (n : Nat) : Sl (w.drewN n) v l := h.below (below_drewN (Below.refl w.heap.size w) n) (Nat.le_refl _)
/-- A block's strings, one by one. -/
theorem MayAt.at {w : World} {F : Nat → Prop} {A : Nat} {mv : Nat → Value} {ms : Nat → List ByteArray} (h : MayAt w F A mv ms) (n : Nat) : ∃ ao cap, mv n = .slice ao (ms n).length cap ∧ ∀ t, (ht : t < (ms n).length) → ∃ q, ao = some ⟨q, 0, none⟩ ∧ w.cell? ⟨q, t, none⟩ = some (.string ((ms n)[t])) := by
  have hr := h.rows n
  rcases hr.2 with ⟨e, h0⟩ | ⟨q, cap, cur, e, hb, hg, r1, r2, r3, r4⟩
  · exact ⟨none, 0, by rw [e, h0], fun t ht => by omega⟩
  · refine ⟨_, cap, e, fun t ht => ⟨q, rfl, ?_⟩⟩
    have := hr.cells (g := q) (by rw [e]; rfl) t (.string ((ms n)[t])) (by rw [List.getElem?_map, List.getElem?_eq_getElem ht]; rfl)
    rw [addr_add, Nat.zero_add] at this
    exact this
theorem idx_strs (ao : Option Addr) (n cap q j : Nat) (h : ao = some ⟨q, 0, none⟩) (hj : j < n) (W : World) : (Instr.indexAt 41 (.slice ao n cap) (.int .i64 (j : Nat))).run Try.prog W = .ok (.pointer (some ⟨q, j, none⟩)) W := by
  subst h
  have hu : Try.prog.underlying 41 = some (.slice (Try.prog.elem 41)) := by kernel_rfl
  rw [run_indexAt_slice (h := hu), if_pos (by omega)]
  have e : Try.prog.elem 41 = 9 := by kernel_rfl
  have e2 : (sizeOf 9).run Try.prog W = .ok 1 W := by kernel_rfl
  rw [e, e2, Result.andThen_ok, Nat.mul_one, Int.toNat_natCast, addr_add, Nat.zero_add]

/-- Is the string among the first ones? -/
def among (s : ByteArray) (m : List ByteArray) (t : Nat) : Bool := (m.take t).any fun x => x.toList == s.toList
theorem among_step (s : ByteArray) (m : List ByteArray) (t : Nat) (ht : t < m.length) : among s m (t + 1) = (among s m t || m[t].toList == s.toList) := by
  unfold among
  rw [List.take_succ_eq_append_getElem ht, List.any_append]
  simp
theorem among_all (s : ByteArray) (m : List ByteArray) (h : s ∈ m) : among s m m.length = true := by
  unfold among
  rw [List.take_length, List.any_eq_true]
  exact ⟨s, h, by simp⟩
end Go.Proofs.Ytdcggplmoiodjaa
