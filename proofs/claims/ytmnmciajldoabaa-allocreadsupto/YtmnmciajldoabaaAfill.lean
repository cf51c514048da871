/-
  DERIVED. fill, bytes.Equal.
-/
import Derived.Test.YtmnmciajldoabaaAasked
import Derived.Test.YtmnmciajldoabaaIruint
import Derived.BigQuiet
namespace Go.Proofs.Ytmnmciajldoabaa
open Go.RowKit
set_option linter.unusedVariables false

theorem list_beq (l m : List UInt8) : (l == m) = decide (l = m) := by
  by_cases h : l = m
  · rw [decide_eq_true h]
    exact beq_iff_eq.2 h
  · rw [decide_eq_false h]
    exact beq_eq_false_iff_ne.2 h
theorem Equal_any (w : World) (v u : Value) (l m : List UInt8) (hv : Sl w v l) (hu : Sl w u m) :
    Calls Try.prog 36 #[v, u] w fun e w' => e = .returned (.bool (decide (l = m))) ∧ w' = w := by
  have s1 := str_of hv
  have s2 := str_of hu
  have HE := hide (list_beq l m)
  clear hv hu
  go_enter Try.func36, Try.ntmps36
  go_wp2
  go_ret
  rw [← unhide HE]
  exact ⟨rfl, rfl⟩

/-- The bit of block j. -/
def bitR (l : List UInt8) (j : Nat) : Bool := decide ((l.getD (j / 8) 0).toNat / 2 ^ (j % 8) % 2 = 1)
/-- The first k blocks as the bits say, the others free. -/
def fillU (l : List UInt8) (k : Nat) : Nat → Bool := fun j => decide (j < k) && bitR l j
theorem fillU_zero (l : List UInt8) : fillU l 0 = none? := by funext j; simp [fillU, none?]
theorem fillU_step (l : List UInt8) (k : Nat) : (fun j => if j = k then bitR l k else fillU l k j) = fillU l (k + 1) := by
  funext j
  unfold fillU
  by_cases e : j = k
  · subst e; simp
  · rw [if_neg e, show decide (j < k + 1) = decide (j < k) from decide_eq_decide.2 (by omega)]
theorem fillU_free (l : List UInt8) (k : Nat) : fillU l k k = false := by simp [fillU]

theorem bit_and : ∀ r : Nat, r < 8 → ∀ x : Nat, x < 256 → (bits BinOp.and IntKind.u8 ((x : Int) / 2 ^ r) 1 == 1) = decide (x / 2 ^ r % 2 = 1) := by
  have h : (List.range 8).all (fun r => (List.range 256).all fun x => (bits BinOp.and IntKind.u8 ((x : Int) / 2 ^ r) 1 == 1) == decide (x / 2 ^ r % 2 = 1)) = true := by decide +kernel
  intro r hr x hx
  have h1 := List.all_eq_true.1 h r (List.mem_range.2 hr)
  have h2 := List.all_eq_true.1 h1 x (List.mem_range.2 hx)
  exact beq_iff_eq.1 h2
theorem bitR_at (l : List UInt8) (j : Nat) (c : UInt8) (hj : j / 8 < l.length) (hc : c = l[j / 8]) : (bits BinOp.and IntKind.u8 ((c.toNat : Int) / 2 ^ (j % 8)) 1 == 1) = bitR l j := by
  rw [bit_and (j % 8) (by omega) c.toNat c.toNat_lt]
  unfold bitR
  rw [List.getD_eq_getElem?_getD, List.getElem?_eq_getElem hj, hc]
  rfl

set_option maxHeartbeats 2000000 in
set_option maxRecDepth 20000 in
theorem fill_any (w0 w : World) (b B : Nat) (V : Nat → Bool) (v : Value) (l : List UInt8) (h : MapAt w b B none? V) (hv : Sl w0 v l) (h0 : w0.grownBy w none) (hb : w0.heap.size ≤ b) (hl : l.length ≤ 2000000) :
    Calls Try.prog 35 #[.pointer (some ⟨b, 0, none⟩), v] w fun e w' => (∃ x, e = .returned x) ∧ MapAt w' b B (fillU l (min B (8 * l.length))) V ∧ w.grownBy w' (some b) := by
  have hB := h.le
  have hBi : (B : Int) ≤ 512 := by omega
  have c0 := h.num
  have HM := hide h
  have HV := hide hv
  have H0 := hide h0
  have HB := hide hb
  obtain ⟨ao, cap, hve, h1, h2, h4⟩ := hv
  obtain ⟨n, hn⟩ : ∃ n, n = l.length := ⟨_, rfl⟩
  have HN := hide hn
  rw [← hn] at hve h1 hl ⊢
  obtain ⟨m, hm⟩ : ∃ m, m = min B (8 * n) := ⟨_, rfl⟩
  have Hm := hide hm
  rw [← hm]
  have hmB : m ≤ B := by omega
  have hnI : (n : Int) ≤ 2000000 := by omega
  subst hve
  have HH : Hid ((¬ (8 * (n : Int) < (B : Int)) ∧ Hid (m = B)) ∨ (8 * (n : Int) < (B : Int) ∧ Hid (m = 8 * n))) := hide (by
    by_cases e : 8 * n < B
    · exact .inr ⟨by omega, hide (by omega)⟩
    · exact .inl ⟨by omega, hide (by omega)⟩)
  clear h h0 hb h4 hn hm h2
  rcases unhide HH with ⟨hsp, HE⟩ | ⟨hsp, HE⟩
  · clear HH
    go_enter Try.func35, Try.ntmps35
    go_wp2
    go_loopw [13] (fun i wr => ∃ j : Nat, i = .int .i64 (j : Int) ∧ j ≤ m ∧ MapAt wr b B (fillU l j) V ∧ w0.grownBy wr none ∧ w.grownBy wr (some b)) (fun i _ => m - (intOf i).toNat)
    case atStart => exact ⟨0, rfl, by omega, by rw [fillU_zero]; exact unhide HM, unhide H0, World.grownBy.refl _ _⟩
    case round =>
      obtain ⟨j, rfl, hj, hr, hg0, hg⟩ := hrel
      by_cases hlt : j < m
      · have hlt1 : (j : Int) < (B : Int) := by omega
        have hlt2 : (j : Int) < 8 * (n : Int) := by have := unhide Hm; omega
        have hj5 : (j : Int) < 512 := by omega
        have hq : j / 8 < n := by omega
        have hqi : (j : Int) / 8 < (n : Int) := by omega
        have hq0 : (0 : Int) ≤ (j : Int) / 8 := by omega
        have cU := hr.used (n := j) (by omega)
        have cF := hr.frozen (1 + j)
        obtain ⟨ao', cap', e, _, _, h4⟩ := (unhide HV).grownN hg0
        rw [← unhide HN] at e
        injection e with e1 e2 e3
        clear e2 e3
        subst e1
        obtain ⟨vb, off, e, hvb, hc⟩ := h4 (by have := unhide HN; omega)
        subst e
        have cB := hc (j / 8) (by have := unhide HN; omega)
        obtain ⟨c, hcc⟩ : ∃ c, c = l[j / 8]'(by have := unhide HN; omega) := ⟨_, rfl⟩
        rw [← hcc] at cB
        have HCC := hide hcc
        have HR := hide hr
        have HG0 := hide hg0
        have HG := hide hg
        clear hc h4 hcc hr hg0 hg
        go_wp2_with fail
        go_region
        rw [bitR_at l j c (by have := unhide HN; omega) (unhide HCC)]
        have hz : wr.grownBy (wr.setCell ⟨b, 1 + j, none⟩ (.bool (bitR l j))).drew (some b) := (setCell_grown wr b (1 + j) _).trans (by exact ⟨rfl, rfl, rfl, Nat.le_refl _, fun _ _ _ => rfl⟩)
        have HR2 : Hid (MapAt (wr.setCell ⟨b, 1 + j, none⟩ (.bool (bitR l j))).drew b B (fillU l (j + 1)) V) := hide (by
          have h := (unhide HR).set j (by omega) (bitR l j)
          rw [fillU_step] at h
          exact ⟨h.blk, h.le⟩)
        have HG2 : Hid (w.grownBy (wr.setCell ⟨b, 1 + j, none⟩ (.bool (bitR l j))).drew (some b)) := hide ((unhide HG).trans hz)
        have HG3 : Hid (w0.grownBy (wr.setCell ⟨b, 1 + j, none⟩ (.bool (bitR l j))).drew none) := hide (own_stepW (unhide HG0) (unhide HB) hz)
        clear hz
        go_wp2
        go_roundw
        case rel => exact ⟨j + 1, by go_num, by omega, unhide HR2, unhide HG3, unhide HG2⟩
        case measure => simp [intOf]; omega
      · have hx : (¬ (j : Int) < (B : Int)) ∨ ¬ (j : Int) < 8 * (n : Int) := by have := unhide HE; omega
        obtain ⟨k, hk⟩ : ∃ k, k = m := ⟨_, rfl⟩
        have hjm : j = k := by omega
        have HR := hide hr
        have HG := hide hg
        rw [hjm, hk] at HR
        clear hr hg hg0
        have hx1 : ¬ (j : Int) < (B : Int) := by have := unhide HE; omega
        clear hx hjm hk hlt hj
        go_wp2
        go_end0
        exact ⟨⟨_, rfl⟩, unhide HR, unhide HG⟩
  · clear HH
    go_enter Try.func35, Try.ntmps35
    go_wp2
    go_loopw [13] (fun i wr => ∃ j : Nat, i = .int .i64 (j : Int) ∧ j ≤ m ∧ MapAt wr b B (fillU l j) V ∧ w0.grownBy wr none ∧ w.grownBy wr (some b)) (fun i _ => m - (intOf i).toNat)
    case atStart => exact ⟨0, rfl, by omega, by rw [fillU_zero]; exact unhide HM, unhide H0, World.grownBy.refl _ _⟩
    case round =>
      obtain ⟨j, rfl, hj, hr, hg0, hg⟩ := hrel
      by_cases hlt : j < m
      · have hlt1 : (j : Int) < (B : Int) := by omega
        have hlt2 : (j : Int) < 8 * (n : Int) := by have := unhide Hm; omega
        have hj5 : (j : Int) < 512 := by omega
        have hq : j / 8 < n := by omega
        have hqi : (j : Int) / 8 < (n : Int) := by omega
        have hq0 : (0 : Int) ≤ (j : Int) / 8 := by omega
        have cU := hr.used (n := j) (by omega)
        have cF := hr.frozen (1 + j)
        obtain ⟨ao', cap', e, _, _, h4⟩ := (unhide HV).grownN hg0
        rw [← unhide HN] at e
        injection e with e1 e2 e3
        clear e2 e3
        subst e1
        obtain ⟨vb, off, e, hvb, hc⟩ := h4 (by have := unhide HN; omega)
        subst e
        have cB := hc (j / 8) (by have := unhide HN; omega)
        obtain ⟨c, hcc⟩ : ∃ c, c = l[j / 8]'(by have := unhide HN; omega) := ⟨_, rfl⟩
        rw [← hcc] at cB
        have HCC := hide hcc
        have HR := hide hr
        have HG0 := hide hg0
        have HG := hide hg
        clear hc h4 hcc hr hg0 hg
        go_wp2_with fail
        go_region
        rw [bitR_at l j c (by have := unhide HN; omega) (unhide HCC)]
        have hz : wr.grownBy (wr.setCell ⟨b, 1 + j, none⟩ (.bool (bitR l j))).drew (some b) := (setCell_grown wr b (1 + j) _).trans (by exact ⟨rfl, rfl, rfl, Nat.le_refl _, fun _ _ _ => rfl⟩)
        have HR2 : Hid (MapAt (wr.setCell ⟨b, 1 + j, none⟩ (.bool (bitR l j))).drew b B (fillU l (j + 1)) V) := hide (by
          have h := (unhide HR).set j (by omega) (bitR l j)
          rw [fillU_step] at h
          exact ⟨h.blk, h.le⟩)
        have HG2 : Hid (w.grownBy (wr.setCell ⟨b, 1 + j, none⟩ (.bool (bitR l j))).drew (some b)) := hide ((unhide HG).trans hz)
        have HG3 : Hid (w0.grownBy (wr.setCell ⟨b, 1 + j, none⟩ (.bool (bitR l j))).drew none) := hide (own_stepW (unhide HG0) (unhide HB) hz)
        clear hz
        go_wp2
        go_roundw
        case rel => exact ⟨j + 1, by go_num, by omega, unhide HR2, unhide HG3, unhide HG2⟩
        case measure => simp [intOf]; omega
      · have hx : (¬ (j : Int) < (B : Int)) ∨ ¬ (j : Int) < 8 * (n : Int) := by have := unhide HE; omega
        obtain ⟨k, hk⟩ : ∃ k, k = m := ⟨_, rfl⟩
        have hjm : j = k := by omega
        have HR := hide hr
        have HG := hide hg
        rw [hjm, hk] at HR
        clear hr hg hg0
        have hx1 : ¬ (j : Int) < 8 * (n : Int) := by have := unhide HE; omega
        clear hx hjm hk hlt hj
        go_wp2
        go_end0
        exact ⟨⟨_, rfl⟩, unhide HR, unhide HG⟩

end Go.Proofs.Ytmnmciajldoabaa
