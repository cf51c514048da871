/-
  DERIVED. slices.Grow and slices.Concat at []api.Field.
-/
import Derived.Test.YtingpmgpjmlioaaGreatDoorShpl
import Derived.Test.YtingpmgpjmlioaaGreatDoorLaysG
namespace Go.Proofs.YtingpmgpjmlioaaGreatDoor
open Go.RowKit Go.Maps
set_option linter.unusedVariables false

/-- A slice that reads as these fields; without memory it has no room. -/
def FdN (w : World) (a : Option Addr) (c : Nat) (fs : List Fld) : Prop := FdL w (.slice a fs.length c) fs ∧ (c ≠ 0 → ∃ b off, a = some ⟨b, off, none⟩)
theorem FdN.below {B : Nat} {w w' : World} {a : Option Addr} {c : Nat} {fs : List Fld} (h : FdN w a c fs) (hb : Below B w w') (hB : w.heap.size ≤ B) : FdN w' a c fs := ⟨h.1.below hb hB, h.2⟩

theorem fown_nil (w : World) (base : Nat) : FOwn w base (.slice none 0 0) [] := World.ownsRow_nil _ _ _ _

theorem FOwn.fdn {w : World} {base : Nat} {v : Value} {R : List Fld} (h : FOwn w base v R) : ∃ a c, v = .slice a R.length c ∧ FdN w a c R := by
  rcases h.2 with ⟨rfl, h0⟩ | ⟨g, cap, cur, rfl, hb, _⟩
  · refine ⟨none, 0, by rw [h0], ?_, fun h => absurd rfl h⟩
    have := h.fdl
    rw [h0]; exact this
  · exact ⟨some ⟨g, 0, none⟩, cap, rfl, h.fdl, fun _ => ⟨g, 0, rfl⟩⟩

/-- slices.Grow of no slice. -/
theorem Grow_go (n : Nat) (w : World) (hn : n * 48 ≤ 140737488355328) :
    Calls Tryz.prog 97 #[.slice none 0 0, .int .i64 (n : Int)] w fun e w' => ∃ v, e = .returned v ∧ FOwn w' w.heap.size v [] ∧ Below w.heap.size w w' := by
  by_cases h0 : n = 0
  · subst h0
    refine (Any8.slices_Grow_room Tryz.growF none 0 0 0 w (by omega) (by omega) (by omega) (by omega)).mono ?_
    rintro e w' ⟨rfl, rfl⟩
    exact ⟨_, rfl, fown_nil _ _, Below.refl _ _⟩
  · obtain ⟨i, hi, hh⟩ := Option.map_eq_some_iff.1 Tryz.infoField
    simp only [Prod.mk.injEq] at hh
    refine (Any8.slices_Grow_grow Tryz.growF i (.agg (fv fld0)) hi hh.1 (by rw [hh.2.1]; omega) none 0 0 n [] w (by omega) (by omega) (by rw [hh.2.2]; omega) (by omega) (by simp) (fun _ => rfl) (fun a e => by cases e)).mono ?_
    rintro e w' ⟨rfl, rfl⟩
    refine ⟨_, rfl, ?_, ((Below.refl _ _).drew).alloc (Nat.le_refl _) _⟩
    have hge := grownCap_ge w (0 + n) 0 48
    have hle := grownCap_le_maxLen w (0 + n) 0 48 (by unfold maxLen; omega)
    refine ⟨rfl, .inr ⟨w.heap.size, _, _, rfl, Nat.le_refl _, heap_alloc_new _ _, Nat.zero_le _, hle, ?_, by simp [fcs]⟩⟩
    simp only [Array.size_append, List.size_toArray, List.length_nil, size_zeroCells]
    have e4 : (Value.agg (fv fld0)).cells.size = 4 := rfl
    rw [e4]
    show 0 + (0 + n - 0) * 4 + (grownCap w (0 + n) 0 48 - (0 + n)) * 4 = grownCap w (0 + n) 0 48 * 4
    omega

theorem fcs_at {w : World} {b off : Nat} {m : List Fld} (hc : ∀ i, (h : i < m.length) → w.cell? ⟨b, off + i * 4, none⟩ = some (sv m[i].name) ∧ w.cell? ⟨b, off + i * 4 + 1, none⟩ = some (.bool m[i].text) ∧ w.cell? ⟨b, off + i * 4 + 2, none⟩ = some (.int .i64 m[i].n) ∧ w.cell? ⟨b, off + i * 4 + 3, none⟩ = some (sv m[i].s)) : ∀ j u, (fcs m)[j]? = some u → w.cell? ((⟨b, off, none⟩ : Addr).add j) = some u := by
  intro j u hj
  rw [addr_add]
  have hl := (List.getElem?_eq_some_iff.1 hj).1
  rw [fcs_len] at hl
  have hi : j / 4 < m.length := by omega
  obtain ⟨g0, g1, g2, g3⟩ := fcs_get m (j / 4) hi
  obtain ⟨c0, c1, c2, c3⟩ := hc (j / 4) hi
  have hr : j % 4 = 0 ∨ j % 4 = 1 ∨ j % 4 = 2 ∨ j % 4 = 3 := by omega
  rcases hr with hr | hr | hr | hr
  · have e : j = j / 4 * 4 := by omega
    rw [e, g0] at hj; rw [e, c0, ← hj]
  · have e : j = j / 4 * 4 + 1 := by omega
    rw [e, g1] at hj; rw [e, ← Nat.add_assoc, c1, ← hj]
  · have e : j = j / 4 * 4 + 2 := by omega
    rw [e, g2] at hj; rw [e, ← Nat.add_assoc, c2, ← hj]
  · have e : j = j / 4 * 4 + 3 := by omega
    rw [e, g3] at hj; rw [e, ← Nat.add_assoc, c3, ← hj]

/-- append(v, y...) -/
theorem wpList_append_flds {w : World} {ops : Array Oper} {rest : List Oper} {o : Oper} {a : Act} {Q : Exit → Act → World → Prop} (hgd : o.guard = none) (s x : Operand)
    (ho : o.op = .call { callee := .builtin .append, args := #[s, x], argTypes := #[30, 30] })
    (base : Nat) (v : Value) (R : List Fld) (hs : a.eval s = v) (hown : FOwn w base v R) (ya : Option Addr) (yc : Nat) (m : List Fld) (hx : a.eval x = .slice ya m.length yc) (hy : FdN w ya yc m) (hlen : (R.length + m.length) * 48 ≤ 140737488355328) (hbase : base ≤ w.heap.size)
    (h : ∀ v' w', FOwn w' base v' (R ++ m) → Below base w w' → wpList Tryz.prog ops Q rest (a.put o.dst v') w') : wpList Tryz.prog ops Q (o :: rest) a w := by
  obtain ⟨i0, hi, hh⟩ := Option.map_eq_some_iff.1 Tryz.infoField
  simp only [Prod.mk.injEq] at hh
  obtain ⟨hf, hnil⟩ := hy
  obtain ⟨ao, cap, e, h1, h2, h4⟩ := hf
  cases e
  cases ya with
  | none =>
    obtain rfl : yc = 0 := by
      by_cases hz : yc = 0
      · exact hz
      · obtain ⟨_, _, e⟩ := hnil hz; cases e
    have hm : m = [] := List.eq_nil_of_length_eq_zero (by omega)
    subst hm
    refine wpList_append_own_none hgd s x 30 ho base 48 i0 4 Tryz.underlying30 hi v R.length (fcs R) hs hown hx ?_
    exact h v w (by simpa using hown) (Below.refl _ _)
  | some ad =>
    refine wpList_append_own w hgd s x 30 ho base 48 i0 (.agg (fv fld0)) 4 48 Tryz.underlying30 hi hh.1 hh.2.1 hh.2.2 rfl (by decide) v R.length (fcs R) hs hown ad m.length yc (fcs m) hx (by rw [fcs_len]) (fun j u hj => by
      have hl := (List.getElem?_eq_some_iff.1 hj).1
      rw [fcs_len] at hl
      obtain ⟨b, off, e, _, hc⟩ := h4 (by omega)
      cases e
      exact fcs_at hc j u hj) (fcs_one m) (by unfold maxLen; omega) (by omega) hbase ?_
    intro v' w' ho' hgr _
    refine h v' w' (by unfold FOwn; rw [fcs_append, List.length_append]; exact ho') ((Below.refl _ _).grown hgr hbase ?_)
    intro k hk
    rcases hown.2 with ⟨rfl, _⟩ | ⟨g, cap', cur, rfl, hb, _⟩
    · cases hk
    · simp only [Value.ownBlock, Option.some.injEq] at hk; omega

/-- A part that is put behind others: its address, its room, its fields. -/
abbrev Prt := Option Addr × Nat × List Fld
def flatP (ps : List Prt) : List Fld := ps.flatMap (fun p => p.2.2)
def sumP (ps : List Prt) : Nat := (ps.map (fun p => p.2.2.length)).sum
theorem sumP_snoc (ps : List Prt) (p : Prt) : sumP (ps ++ [p]) = sumP ps + p.2.2.length := by simp [sumP]
theorem sumP_flat (ps : List Prt) : (flatP ps).length = sumP ps := by simp [flatP, sumP, List.length_flatMap]
theorem sumP_take (ps : List Prt) (k : Nat) : sumP (ps.take k) ≤ sumP ps := by
  have := List.take_append_drop k ps
  rw [← this]
  simp only [sumP, List.map_append, List.sum_append]
  simp

set_option maxHeartbeats 4000000 in
theorem Concat_go (g N : Nat) (ps : List Prt) (w : World) (hN : N = ps.length) (hNl : N ≤ 1000) (hb : g < w.heap.size) (hrow : ∀ i p, ps[i]? = some p → w.cell? ⟨g, i, none⟩ = some (.slice p.1 p.2.2.length p.2.1) ∧ FdN w p.1 p.2.1 p.2.2) (hsum : sumP ps * 48 ≤ 140737488355328) :
    Calls Tryz.prog 75 #[.slice (some ⟨g, 0, none⟩) N N] w fun e w' => ∃ v, e = .returned v ∧ FOwn w' w.heap.size v (flatP ps) ∧ Below w.heap.size w w' := by
  have HN := hide hN
  have HRow := hide hrow
  obtain ⟨T, hT⟩ : ∃ T, T = sumP ps := ⟨_, rfl⟩
  have HT := hide hT
  have HTk : Hid (∀ k, sumP (ps.take k) ≤ T) := hide (fun k => by rw [hT]; exact sumP_take ps k)
  have HG := hide (Grow_go T w (by omega))
  rw [← hT] at hsum
  clear hrow hN hT
  go_enter Tryz.func75, Tryz.ntmps75
  go_wp2_with fail
  go_loopw [3, 5, 11] (fun z _ i wr => ∃ (k q : Nat), k ≤ N ∧ q ≤ T ∧ z = .int .i64 q ∧ i = .int .i64 k ∧ Hid (q = sumP (ps.take k)) ∧ Hid (wr = w)) (fun _ _ i _ => N - (intOf i).toNat)
  case atStart => exact ⟨0, 0, by omega, by omega, rfl, rfl, hide rfl, hide rfl⟩
  case round =>
    obtain ⟨k, q, hk, hqT, rfl, rfl, HQ, HW⟩ := hrel
    by_cases hlt : k < N
    · obtain ⟨⟨pa, pc, pl⟩, hp⟩ : ∃ p, ps[k]? = some p := ⟨_, List.getElem?_eq_getElem (by have := unhide HN; omega)⟩
      have hcell : wr.cell? ⟨g, k, none⟩ = some (.slice pa pl.length pc) := by rw [unhide HW]; exact (unhide HRow k _ hp).1
      have HQ2 : Hid (q + pl.length = sumP (ps.take (k + 1))) := hide (by rw [List.take_add_one, hp]; show _ = sumP (ps.take k ++ [_]); rw [sumP_snoc, ← unhide HQ])
      have hq2 : q + pl.length ≤ T := by rw [unhide HQ2]; exact unhide HTk _
      have hwr : IntKind.i64.wrap ((q : Int) + (pl.length : Int)) = ((q + pl.length : Nat) : Int) := by rw [IntKind.wrap_i64]; omega
      obtain ⟨q2, hq2e⟩ : ∃ q2, q2 = q + pl.length := ⟨_, rfl⟩
      rw [← hq2e] at HQ2 hq2 hwr
      have hn0 : ¬ (q2 : Int) < 0 := by omega
      clear hp hq2e
      go_wp2_with fail
      go_roundw
      case rel => exact ⟨k + 1, q2, by omega, hq2, by first | rfl | (simp; omega), by go_num, HQ2, HW⟩
      case measure => simp [intOf]; omega
    · have hqe : q = T := by rw [unhide HQ, List.take_of_length_le (by have := unhide HN; omega)]; exact (unhide HT).symm
      rw [unhide HW, hqe]
      clear HW HQ hqT hqe
      rename World => W0
      go_wp2_with (go_at_call 97; refine (unhide HG).mono ?_; rintro e w2 ⟨v, rfl, own2, b2⟩; have HO2 : Hid (FOwn w2 w.heap.size v (flatP (ps.take 0))) := hide own2; have HB2 := hide b2; clear own2 b2)
      go_loopw [6, 8, 27] (fun u _ i wr => ∃ (k : Nat), k ≤ N ∧ i = .int .i64 k ∧ Hid (FOwn wr w.heap.size u (flatP (ps.take k))) ∧ Hid (Below w.heap.size w wr)) (fun _ _ i _ => N - (intOf i).toNat)
      case atStart => exact ⟨0, by omega, rfl, HO2, HB2⟩
      case round =>
        obtain ⟨k, hk, rfl, HO, HB⟩ := hrel
        clear HO2 HB2
        by_cases hlt2 : k < N
        · obtain ⟨⟨pa, pc, pl⟩, hp⟩ : ∃ p, ps[k]? = some p := ⟨_, List.getElem?_eq_getElem (by have := unhide HN; omega)⟩
          have hcell : wr.cell? ⟨g, k, none⟩ = some (.slice pa pl.length pc) := ((unhide HB).cell (p := ⟨g, k, none⟩) hb).trans (unhide HRow k _ hp).1
          have HFd := hide ((unhide HRow k _ hp).2.below (unhide HB) (Nat.le_refl _))
          simp only at HFd
          have HX : Hid (flatP (ps.take (k + 1)) = flatP (ps.take k) ++ pl) := hide (by rw [List.take_add_one, hp]; simp [flatP])
          have hln : ((flatP (ps.take k)).length + pl.length) * 48 ≤ 140737488355328 := by
            have h1 := unhide HTk (k + 1)
            rw [← sumP_flat, unhide HX, List.length_append] at h1
            omega
          have hsz := (unhide HB).size
          clear hp
          go_wp2_with (at_builtin; refine wpList_append_flds rfl (.tmp 31) (.tmp 32) rfl w.heap.size _ (flatP (ps.take k)) rfl (unhide HO) pa pc pl rfl (unhide HFd) hln hsz ?_; intro v' w5 own5 b5; have HO5 := hide own5; have HB5 := hide ((unhide HB).trans b5); clear own5 b5)
          go_roundw
          case rel => exact ⟨k + 1, by omega, by go_num, (by rw [unhide HX]; exact HO5), HB5⟩
          case measure => simp [intOf]; omega
        · have HF : Hid (ps.take k = ps) := hide (List.take_of_length_le (by have := unhide HN; omega))
          rw [unhide HF] at HO
          go_wp2_with fail
          go_ret
          exact ⟨_, rfl, unhide HO, unhide HB⟩
end Go.Proofs.YtingpmgpjmlioaaGreatDoor
