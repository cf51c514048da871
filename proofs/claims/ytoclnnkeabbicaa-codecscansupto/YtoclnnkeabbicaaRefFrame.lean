/-
  DERIVED. The walk of the document's Frame.
-/
import Derived.Test.YtoclnnkeabbicaaRefRead2
import Derived.Test.YtoclnnkeabbicaaRefSum
import Derived.Deep.RegionLaw
namespace Go.Proofs.Ytoclnnkeabbicaa
open Go.RowKit
set_option linter.unusedVariables false

/-- An append to a slice of one's own, as one step of a region that draws. -/
theorem step_append_mine {ops : Array Oper} {o : Oper} {a : Act} {w : World} {K : Act → World → Prop} {Q : Exit → Act → World → Prop} {E : Prop}
    (hg : o.guard = none) (s x : Operand) (ho : o.op = .call { callee := .builtin .append, args := #[s, x], argTypes := #[22, 22] })
    (base : Nat) (v : Value) (l : List UInt8) (hs : a.eval s = v) (hown : Own w base v l)
    (ad : Addr) (n c : Nat) (m : List UInt8) (hx : a.eval x = .slice (some ad) n c) (hy : Sl w (.slice (some ad) n c) m) (hlen : l.length + m.length ≤ 140737488355328) (hbase : base ≤ w.heap.size)
    (hK : ∀ v' w', Own w' base v' (l ++ m) → Below base w w' → K (a.put o.dst v') w') :
    if Region.wanted o (yielded ops a.tmps) = true then Oper.wp Try.prog o a w K Q else E := by
  have hw : Region.wanted o (yielded ops a.tmps) = true := by simp [Region.wanted, hg]
  rw [if_pos hw]
  obtain ⟨i0, hi, hz0, hz1, hz2⟩ := info_parts Try.info5
  obtain ⟨ao, cap, e, h1, h2, h4⟩ := hy
  cases e
  have hnews : ∀ j u, (m.map bv)[j]? = some u → w.cell? (ad.add j) = some u := by
    intro j u hj
    rw [List.getElem?_map] at hj
    by_cases hjl : j < m.length
    · rw [List.getElem?_eq_getElem hjl] at hj
      simp only [Option.map_some, Option.some.injEq] at hj
      subst hj
      obtain ⟨b, off, e, _, hc⟩ := h4 (by omega)
      cases e
      rw [addr_add]; exact hc j hjl
    · rw [List.getElem?_eq_none (by omega)] at hj; cases hj
  obtain ⟨v', w', hrun, r1, r2, _⟩ := run_append_own (P := Try.prog) w base 22 o.type 5 i0 (.int .u8 0) 1 1 Try.underlying22 hi hz0 hz1 hz2 rfl (by decide) v l.length (l.map bv) hown ad m.length c (m.map bv) (by simp) hnews (bv_one m) (by unfold maxLen; omega) (by omega) hbase
  unfold Oper.wp
  simp [execOp, ho, resolve, invoke, builtin, hs, hx, hrun, Result.andThen]
  refine hK v' w' (by simpa [Own] using r1) ((Below.refl _ _).grown r2 hbase ?_)
  intro k hk
  rcases hown.2 with ⟨rfl, _⟩ | ⟨g, cap', cur, rfl, hb, _⟩
  · cases hk
  · simp only [Value.ownBlock, Option.some.injEq] at hk; omega

theorem rU32_at (v : Value) (l : List UInt8) (w : World) (hv : Sl w v l) (h : 4 ≤ l.length) :
    Calls Try.prog 18 #[v] w fun e w' => e = .returned (.tuple #[.int .u32 (rd4 l : Nat), .int .i64 0]) ∧ w = w' := by
  have := rU32_any v l w hv
  rw [if_neg (by omega), if_neg (by omega)] at this
  exact this

set_option maxHeartbeats 1000000 in
theorem rFrame_short (v : Value) (l : List UInt8) (w : World) (hv : Sl w v l) (h : l.length < 5) :
    Calls Try.prog 20 #[v] w fun e w' => e = .returned (.tuple #[.agg #[.int .u8 0, .slice none 0 0], .int .i64 0, .int .i64 10]) ∧ Below w.heap.size w w' := by
  obtain ⟨ao, cap, rfl, h1, h2, h4⟩ := hv
  clear h4
  go_enter Try.func20, Try.ntmps20
  go_wp2
  exact bodyPost_ret (v := .tuple #[.agg #[.int .u8 0, .slice none 0 0], .int .i64 0, .int .i64 10]) (by simp [results, Try.results20, go_sem]) rfl ⟨rfl, (Below.refl _ _).alloc (Nat.le_refl _) _⟩

/-- The error of a frame whose number or data are none. -/
theorem fr_err {l : List UInt8} {e : Nat} (h5 : 5 ≤ l.length) (h : pcE (l.drop 5) 2000 = e) (he : e ≠ 0) : frE l = e ∧ frK l = 0 ∧ frD l = [] ∧ frKind l = 0 := by
  have hfe : frE l = e := by unfold frE; rw [if_neg (by omega), h, if_pos he]
  refine ⟨hfe, ?_, ?_, ?_⟩
  · unfold frK; rw [hfe, if_neg he]
  · unfold frD; rw [hfe, if_neg he]
  · unfold frKind; rw [hfe, if_neg he]

/-- b[5:] -/
theorem Sl.five {w : World} {b off cap : Nat} {l : List UInt8} (hb : b < w.heap.size) (h1 : l.length ≤ cap) (h2 : cap ≤ 9223372036854775807)
    (hc : ∀ i, (h : i < l.length) → w.cell? ⟨b, off + i, none⟩ = some (bv l[i])) (h : 5 ≤ l.length) : Sl w (.slice (some (if cap = 5 then ⟨b, off, none⟩ else ⟨b, off + 5, none⟩)) (l.length - 5) (cap - 5)) (l.drop 5) := by
  by_cases h5 : cap = 5
  · rw [if_pos h5]
    have e5 : l.length - 5 = 0 := by omega
    have e6 : l.drop 5 = [] := List.drop_eq_nil_of_le (by omega)
    rw [e5, e6]
    exact Sl.mk b off _ [] hb (by simp) (by omega) (fun i hi => by simp at hi)
  · rw [if_neg h5]; exact Sl.from b off cap l hb h1 h2 hc 5 h

set_option maxHeartbeats 2000000 in
set_option maxRecDepth 100000 in
theorem rFrame_bad (b off cap : Nat) (l : List UInt8) (e : Nat) (w : World) (hb : b < w.heap.size) (h1 : l.length ≤ cap) (h2 : cap ≤ 9223372036854775807)
    (hc : ∀ i, (h : i < l.length) → w.cell? ⟨b, off + i, none⟩ = some (bv l[i])) (h : 5 ≤ l.length) (hpe : pcE (l.drop 5) 2000 = e) (hE : e ≠ 0) :
    Calls Try.prog 20 #[.slice (some ⟨b, off, none⟩) l.length cap] w fun o w' => o = .returned (.tuple #[.agg #[.int .u8 0, .slice none 0 0], .int .i64 0, .int .i64 e]) ∧ Below w.heap.size w w' := by
  have h5 := (Sl.five hb h1 h2 hc h).alloc (.cells #[.int .u8 0, .slice none 0 0] 37)
  obtain ⟨n, k, e', hr⟩ : ∃ n k e, rd (l.drop 5) = (n, k, e) := ⟨_, _, _, rfl⟩
  have hf := rd_facts (l.drop 5)
  unfold pcE at hpe
  rw [hr] at hf hpe
  simp only [List.length_drop] at hf hpe
  obtain ⟨f1, f2, f3, f4⟩ := hf
  have HR := hide hr
  clear hr hc
  by_cases he : e' = 0
  · subst he
    rw [if_neg (by simp)] at hpe
    obtain ⟨g1, g2, g3⟩ := f4 rfl
    have hcap : ¬ cap = 5 := by omega
    rw [if_neg hcap] at h5
    have H5 := hide h5
    clear h5 f2 f3 f4
    by_cases hn : 2000 < n
    · rw [if_pos (by omega)] at hpe
      subst hpe
      go_enter Try.func20, Try.ntmps20
      go_wp2_with (go_at_call 12; refine (rUint_at _ _ n k 0 _ (by simpa [hcap] using unhide H5) (unhide HR)).mono ?_; rintro e w1 ⟨rfl, b1⟩; have s1 := b1.size; simp at s1; have z0 := (b1.cell (p := ⟨w.heap.size, 0, none⟩) (by simp)); have z1 := (b1.cell (p := ⟨w.heap.size, 1, none⟩) (by simp)); have y0 := (b1.frozen (p := ⟨w.heap.size, 0, none⟩) (by simp)); have y1 := (b1.frozen (p := ⟨w.heap.size, 1, none⟩) (by simp)); simp at z0 z1 y0 y1; have HB := hide b1; clear b1)
      refine bodyPost_ret (v := .tuple #[.agg #[.int .u8 0, .slice none 0 0], .int .i64 0, .int .i64 12]) ?_ rfl ⟨rfl, ?_⟩
      · simp [results, Try.results20, go_sem, z0, z1]
      · exact (((((Below.refl _ _).alloc (Nat.le_refl _) _).trans ((unhide HB).mono (by simp))).setCell (p := ⟨w.heap.size, 0, none⟩) (Nat.le_refl _) _).setCell (p := ⟨w.heap.size, 1, none⟩) (Nat.le_refl _) _)
    · rw [if_neg (by omega)] at hpe
      by_cases hd : l.length - 5 - k < n
      · rw [if_pos hd] at hpe
        subst hpe
        go_enter Try.func20, Try.ntmps20
        go_wp2_with (go_at_call 12; refine (rUint_at _ _ n k 0 _ (by simpa [hcap] using unhide H5) (unhide HR)).mono ?_; rintro e w1 ⟨rfl, b1⟩; have s1 := b1.size; simp at s1; have z0 := (b1.cell (p := ⟨w.heap.size, 0, none⟩) (by simp)); have z1 := (b1.cell (p := ⟨w.heap.size, 1, none⟩) (by simp)); have y0 := (b1.frozen (p := ⟨w.heap.size, 0, none⟩) (by simp)); have y1 := (b1.frozen (p := ⟨w.heap.size, 1, none⟩) (by simp)); simp at z0 z1 y0 y1; have HB := hide b1; clear b1)
        refine bodyPost_ret (v := .tuple #[.agg #[.int .u8 0, .slice none 0 0], .int .i64 0, .int .i64 10]) ?_ rfl ⟨rfl, ?_⟩
        · simp [results, Try.results20, go_sem, z0, z1]
        · exact (((((Below.refl _ _).alloc (Nat.le_refl _) _).trans ((unhide HB).mono (by simp))).setCell (p := ⟨w.heap.size, 0, none⟩) (Nat.le_refl _) _).setCell (p := ⟨w.heap.size, 1, none⟩) (Nat.le_refl _) _)
      · rw [if_neg hd] at hpe
        exact absurd hpe.symm hE
  · rw [if_pos he] at hpe
    subst hpe
    have hne : ((e' : Int) != 0) = true := by rw [bne_iff_ne]; omega
    clear f2 f3 f4
    by_cases hcap : cap = 5
    all_goals
      first | rw [if_pos hcap] at h5 | rw [if_neg hcap] at h5
      have H5 := hide h5
      clear h5
      go_enter Try.func20, Try.ntmps20
      go_wp2_with (go_at_call 12; refine (rUint_at _ _ n k e' _ (by simpa [hcap] using unhide H5) (unhide HR)).mono ?_; rintro e w1 ⟨rfl, b1⟩; have s1 := b1.size; simp at s1; have z0 := (b1.cell (p := ⟨w.heap.size, 0, none⟩) (by simp)); have z1 := (b1.cell (p := ⟨w.heap.size, 1, none⟩) (by simp)); have y0 := (b1.frozen (p := ⟨w.heap.size, 0, none⟩) (by simp)); have y1 := (b1.frozen (p := ⟨w.heap.size, 1, none⟩) (by simp)); simp at z0 z1 y0 y1; have HB := hide b1; clear b1)
      refine bodyPost_ret (v := .tuple #[.agg #[.int .u8 0, .slice none 0 0], .int .i64 0, .int .i64 e']) ?_ rfl ⟨rfl, ?_⟩
      · simp [results, Try.results20, go_sem, z0, z1]
      · exact (((((Below.refl _ _).alloc (Nat.le_refl _) _).trans ((unhide HB).mono (by simp))).setCell (p := ⟨w.heap.size, 0, none⟩) (Nat.le_refl _) _).setCell (p := ⟨w.heap.size, 1, none⟩) (Nat.le_refl _) _)
end Go.Proofs.Ytoclnnkeabbicaa
