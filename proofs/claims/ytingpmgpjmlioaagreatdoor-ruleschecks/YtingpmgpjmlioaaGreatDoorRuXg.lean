/-
  DERIVED. The walk of the document's tooMany.
-/
import Derived.Test.YtingpmgpjmlioaaGreatDoorRuXd
import Derived.Test.YtingpmgpjmlioaaGreatDoorRuUg
import Derived.Deep.RegionHeld3
import Derived.Test.YtingpmgpjmlioaaGreatDoorRuEr
namespace Go.Proofs.YtingpmgpjmlioaaGreatDoor
open Go.RowKit
set_option linter.unusedVariables false

def goodCs (c : Cs) : Prop := c.whn.length ≤ 16 ∧ c.emits.length ≤ 16 ∧ ∀ m ∈ c.emits, m.sets.length ≤ 16
def goodHa (x : Ha) : Prop := x.needs.length ≤ 16 ∧ x.cases.length ≤ 16 ∧ ∀ c ∈ x.cases, goodCs c
def goodEv (x : Evo) : Prop := x.sets.length ≤ 16 ∧ x.drops.length ≤ 16
theorem SmT.mk' {hs : List Ha} {vs : List Evo} (h1 : hs.length ≤ 32) (h2 : vs.length ≤ 32) (h3 : ∀ x ∈ hs, goodHa x) (h4 : ∀ x ∈ vs, goodEv x) : SmT hs vs := ⟨h1, h2, fun x hx => (h3 x hx), fun x hx => h4 x hx⟩
theorem mem_exprs (hs : List Ha) (vs : List Evo) (x : Ex) : x ∈ exprsD hs vs ↔ x ∈ exprsP hs vs := by
  unfold exprsD exprsP handE caseE emitE evoE setsE condsP setsP emitsP casesP
  simp only [List.mem_append, List.mem_flatMap, List.mem_map]
  constructor
  · rintro (⟨h, hh, c, hc, (⟨d, hd, q⟩ | ⟨m, hm, a, ha, rfl⟩)⟩ | ⟨v, hv, a, ha, rfl⟩)
    · exact .inl ⟨d, ⟨c, ⟨h, hh, hc⟩, hd⟩, q⟩
    · exact .inr ⟨a, .inl ⟨m, ⟨c, ⟨h, hh, hc⟩, hm⟩, ha⟩, rfl⟩
    · exact .inr ⟨a, .inr ⟨v, hv, ha⟩, rfl⟩
  · rintro (⟨d, ⟨c, ⟨h, hh, hc⟩, hd⟩, q⟩ | ⟨a, (⟨m, ⟨c, ⟨h, hh, hc⟩, hm⟩, ha⟩ | ⟨v, hv, ha⟩), rfl⟩)
    · exact .inl ⟨h, hh, c, hc, .inl ⟨d, hd, q⟩⟩
    · exact .inl ⟨h, hh, c, hc, .inr ⟨m, hm, a, ha, rfl⟩⟩
    · exact .inr ⟨v, hv, a, ha, rfl⟩
theorem any_exprs (hs : List Ha) (vs : List Evo) (p : Ex → Bool) : (exprsP hs vs).any p = (exprsD hs vs).any p := by
  rw [Bool.eq_iff_iff, List.any_eq_true, List.any_eq_true]
  exact ⟨fun ⟨x, h, q⟩ => ⟨x, (mem_exprs hs vs x).2 h, q⟩, fun ⟨x, h, q⟩ => ⟨x, (mem_exprs hs vs x).1 h, q⟩⟩
theorem tooMany_small {hs : List Ha} {vs : List Evo} (h : SmT hs vs) : tooManyR hs vs = (exprsD hs vs).any manyX := by
  unfold tooManyR
  rw [any_exprs]
  have e1 : decide (32 < hs.length) = false := decide_eq_false (by have := h.h; omega)
  have e2 : decide (32 < vs.length) = false := decide_eq_false (by have := h.v; omega)
  have e3 : hs.any (fun h => decide (16 < h.needs.length) || decide (16 < h.cases.length)) = false := List.any_eq_false.2 (fun x hx => by
    have := h.c x hx
    simp
    omega)
  have e4 : (casesP hs).any (fun c => decide (16 < c.whn.length) || decide (16 < c.emits.length)) = false := List.any_eq_false.2 (fun c hc => by
    obtain ⟨x, hx, hc⟩ := List.mem_flatMap.1 hc
    have := (h.c x hx).2.2 c hc
    simp
    omega)
  have e5 : (emitsP hs).any (fun m => decide (16 < m.sets.length)) = false := List.any_eq_false.2 (fun m hm => by
    obtain ⟨c, hc, hm⟩ := List.mem_flatMap.1 hm
    obtain ⟨x, hx, hc⟩ := List.mem_flatMap.1 hc
    have := ((h.c x hx).2.2 c hc).2.2 m hm
    simp
    omega)
  have e6 : vs.any (fun v => decide (16 < v.sets.length) || decide (16 < v.drops.length)) = false := List.any_eq_false.2 (fun x hx => by
    have := h.e x hx
    simp
    omega)
  rw [e1, e2, e3, e4, e5, e6]
  simp only [Bool.false_or]
theorem tooMany_big {hs : List Ha} {vs : List Evo} (h : ¬ SmT hs vs) : tooManyR hs vs = true := by
  cases hR : tooManyR hs vs with
  | true => rfl
  | false =>
    exfalso
    apply h
    unfold tooManyR at hR
    simp only [Bool.or_eq_false_iff, List.any_eq_false] at hR
    obtain ⟨⟨⟨⟨⟨⟨m1, m2⟩, m3⟩, m4⟩, m5⟩, m6⟩, _⟩ := hR
    refine ⟨by have := of_decide_eq_false m1; omega, by have := of_decide_eq_false m2; omega, fun x hx => ?_, fun x hx => ?_⟩
    · have q := m3 x hx
      simp at q
      refine ⟨by omega, by omega, fun c hc => ?_⟩
      have hcP : c ∈ casesP hs := List.mem_flatMap.2 ⟨x, hx, hc⟩
      have q2 := m4 c hcP
      simp at q2
      refine ⟨by omega, by omega, fun m hm => ?_⟩
      have q3 := m5 m (List.mem_flatMap.2 ⟨c, hcP, hm⟩)
      simp at q3
      omega
    · have q := m6 x hx
      simp at q
      exact ⟨by omega, by omega⟩
theorem all_to {α : Type} {l : List α} {n : Nat} {p : α → Prop} (hn : n = l.length) {k : Nat} (hk : n ≤ k) (h : ∀ i, i < k → ∀ x, l[i]? = some x → p x) : ∀ x ∈ l, p x := fun x hx => by
  obtain ⟨i, hi, rfl⟩ := List.mem_iff_getElem.1 hx
  exact h i (by omega) _ (List.getElem?_eq_getElem hi)
theorem all_next {α : Type} {l : List α} {p : α → Prop} {k : Nat} {x : α} (hx : l[k]? = some x) (hp : p x) (h : ∀ i, i < k → ∀ x, l[i]? = some x → p x) : ∀ i, i < k + 1 → ∀ x, l[i]? = some x → p x := fun i hi y hy => by
  by_cases e : i = k
  · subst e; rw [hx] at hy; cases hy; exact hp
  · exact h i (by omega) y hy

set_option maxRecDepth 20000 in
set_option maxHeartbeats 16000000 in
theorem rtooMany_any (w0 : World) (ha : Option Addr) (nh hc : Nat) (hs : List Ha) (va : Option Addr) (nv vc : Nat) (vs : List Evo) (hH : SlOf 3 HaAt w0 (.slice ha nh hc) hs) (hV : SlOf 3 EvoAt w0 (.slice va nv vc) vs) (w : World) (hw : Below w0.heap.size w0 w) :
    Calls Tryz.prog 20 #[.agg #[.slice ha nh hc, .slice va nv vc]] w fun e w' => e = .returned (.bool (tooManyR hs vs)) ∧ Below w.heap.size w w' := by
  have hnh := hH.len.1
  have hnv := hV.len.1
  have hcb := hH.len.2
  have vcb := hV.len.2
  have hb1 : Below w.heap.size w (w.alloc (.cells #[.slice ha nh hc, .slice va nv vc] 25)) := (Below.refl _ _).alloc (Nat.le_refl _) _
  have hx1 : (w.alloc (.cells #[.slice ha nh hc, .slice va nv vc] 25)).heap[w.heap.size]? = some (.cells #[.slice ha nh hc, .slice va nv vc] 25 (0, 0)) := heap_alloc_new _ _
  obtain ⟨w1, hw1⟩ : ∃ w1, w1 = w.alloc (.cells #[.slice ha nh hc, .slice va nv vc] 25) := ⟨_, rfl⟩
  rw [← hw1] at hb1 hx1
  obtain ⟨B, hB⟩ : ∃ B, B = w.heap.size := ⟨_, rfl⟩
  rw [← hB] at hx1
  have HW := hide hw1
  have HB := hide hB
  have HB1 := hide hb1
  have HE1 : Hid (∀ W, Below w1.heap.size w1 W → Below w.heap.size w W) := hide (fun W hW => hb1.trans (hW.mono hb1.size))
  have HR : Hid (∀ W, Below w1.heap.size w1 W → W.cell? ⟨B, 0, none⟩ = some (.slice ha nh hc) ∧ W.cell? ⟨B, 1, none⟩ = some (.slice va nv vc)) := hide (fun W hW => ⟨kept hW ((cell_of_row _ _ _ _ _ _ hx1).trans rfl), kept hW ((cell_of_row _ _ _ _ _ _ hx1).trans rfl)⟩)
  have H0 : Hid (∀ W, Below w1.heap.size w1 W → Below w0.heap.size w0 W) := hide (fun W hW => hw.trans ((hb1.trans (hW.mono hb1.size)).mono hw.size))
  obtain ⟨R, hRe⟩ : ∃ R, R = tooManyR hs vs := ⟨_, rfl⟩
  rw [← hRe]
  have HBig : Hid (¬ SmT hs vs → R = true) := hide (fun h => by rw [hRe]; exact tooMany_big h)
  have HSml : Hid (SmT hs vs → R = (exprsD hs vs).any manyX) := hide (fun h => by rw [hRe]; exact tooMany_small h)
  have HHs := hide hH
  have HVs := hide hV
  have HNh := hide hnh
  have HNv := hide hnv
  have hnb : nh ≤ 9223372036854775807 := by omega
  have hvb : nv ≤ 9223372036854775807 := by omega
  have HF0 : Hid (Below w1.heap.size w1 w1) := hide (Below.refl _ _)
  clear hw1 hb1 hx1 hB hH hV hnh hnv hcb vcb hw hRe
  go_enter Tryz.func20, Tryz.ntmps20
  go_upto_region 1 with fail
  rw [show w.alloc (.cells #[Value.slice ha nh hc, .slice va nv vc] 25) = w1 from (unhide HW).symm]
  rw [← unhide HB]
  obtain ⟨r0, r1⟩ := unhide HR w1 (unhide HF0)
  have HEw := hide (unhide HE1 w1 (unhide HF0))
  by_cases hn1 : 32 < nh
  · have HX : Hid (R = true) := hide (unhide HBig (fun h => by have := h.h; have := unhide HNh; omega))
    have q1 : (32 : Int) < (nh : Int) := by omega
    go_wp2_with fail
    go_ret
    exact ⟨by rw [unhide HX]; rfl, unhide HEw⟩
  have q1 : decide ((32 : Int) < (nh : Int)) = false := decide_eq_false (by omega)
  by_cases hn2 : 32 < nv
  · have HX : Hid (R = true) := hide (unhide HBig (fun h => by have := h.v; have := unhide HNv; omega))
    have q2 : (32 : Int) < (nv : Int) := by omega
    clear hn1
    go_wp2_with fail
    go_ret
    exact ⟨by rw [unhide HX]; rfl, unhide HEw⟩
  have q2 : decide ((32 : Int) < (nv : Int)) = false := decide_eq_false (by omega)
  have hnb : nh ≤ 32 := by omega
  have hvb : nv ≤ 32 := by omega
  clear hn1 hn2 HEw
  go_wp2_with fail
  clear q1 q2 r0 r1
  go_loopw [3, 4, 5, 6, 7] (fun i _ _ _ _ wr => ∃ (k : Nat), k ≤ nh ∧ i = .int .i64 (k : Int) ∧ Hid (∀ i, i < k → ∀ x, hs[i]? = some x → goodHa x) ∧ Hid (Below w1.heap.size w1 wr)) (fun i _ _ _ _ _ => nh - (intOf i).toNat)
  case atStart => exact ⟨0, by omega, rfl, hide (fun i h => by omega), HF0⟩
  case round =>
    clear HF0
    obtain ⟨k, hk, rfl, HA, HF⟩ := hrel
    obtain ⟨r0, r1⟩ := unhide HR wr (unhide HF)
    by_cases hlt : k < nh
    · obtain ⟨x, hx⟩ := (unhide HHs).lt hlt
      have HXe := hide hx
      have HXm := hide (List.mem_of_getElem? hx)
      obtain ⟨hb, ho, rfl, _, h0, ⟨na, nc, h1, hneeds⟩, ca, cc, h2, hcases⟩ := (unhide HHs).at hx
      obtain ⟨CN, hCN⟩ : ∃ CN, CN = x.cases.length := ⟨_, rfl⟩
      obtain ⟨NN, hNN⟩ : ∃ NN, NN = x.needs.length := ⟨_, rfl⟩
      rw [← hCN] at h2 hcases
      rw [← hNN] at h1
      have hb0 := unhide H0 wr (unhide HF)
      have z0 := kept hb0 h0
      have z1 := kept hb0 h1
      have z2 := kept hb0 h2
      have hki : (k : Int) < (nh : Int) := by omega
      have hk0 : ¬ (k : Int) < 0 := by omega
      have HCa := hide hcases
      have HCN := hide hCN
      have HNN := hide hNN
      have hCNm : CN ≤ 9223372036854775807 := by have := hcases.len; omega
      have b2 : Below wr.heap.size wr (wr.alloc (.cells #[sv x.cmd, .slice na NN nc, .slice ca CN cc] 62)) := (Below.refl _ _).alloc (Nat.le_refl _) _
      have hx2 : (wr.alloc (.cells #[sv x.cmd, .slice na NN nc, .slice ca CN cc] 62)).heap[wr.heap.size]? = some (.cells #[sv x.cmd, .slice na NN nc, .slice ca CN cc] 62 (0, 0)) := heap_alloc_new _ _
      obtain ⟨w2, hw2⟩ : ∃ w2, w2 = wr.alloc (.cells #[sv x.cmd, .slice na NN nc, .slice ca CN cc] 62) := ⟨_, rfl⟩
      rw [← hw2] at b2 hx2
      have HW2 := hide hw2
      obtain ⟨q, hq⟩ : ∃ q, q = wr.heap.size := ⟨_, rfl⟩
      rw [← hq] at hx2
      have HQ := hide hq
      have HF2 : Hid (∀ W, Below w2.heap.size w2 W → Below w1.heap.size w1 W) := hide (fun W hW => (unhide HF).trans ((b2.trans (hW.mono b2.size)).mono (unhide HF).size))
      have HBx : Hid (∀ W, Below w2.heap.size w2 W → W.cell? ⟨q, 1, none⟩ = some (.slice na NN nc) ∧ W.cell? ⟨q, 2, none⟩ = some (.slice ca CN cc)) := hide (fun W hW => ⟨kept hW ((cell_of_row _ _ _ _ _ _ hx2).trans rfl), kept hW ((cell_of_row _ _ _ _ _ _ hx2).trans rfl)⟩)
      have HFr : Hid (Below w2.heap.size w2 w2) := hide (Below.refl _ _)
      clear hx h0 h1 h2 hneeds hcases hCN hNN hb0 b2 hx2 hw2 hq
      go_upto_region 7 with fail
      rw [show wr.alloc (.cells #[Value.string ⟨x.cmd.toArray⟩, .slice na NN nc, .slice ca CN cc] 62) = w2 from (unhide HW2).symm]
      rw [← unhide HQ]
      clear z0 z1 z2 r0 r1
      obtain ⟨y1, y2⟩ := unhide HBx w2 (unhide HFr)
      have HEw := hide (unhide HE1 w2 (unhide HF2 w2 (unhide HFr)))
      by_cases hc16 : 16 < CN
      · have HX : Hid (R = true) := hide (unhide HBig (fun h => by have := (h.c x (unhide HXm)).2.1; have := unhide HCN; omega))
        have p1 : (16 : Int) < (CN : Int) := by omega
        go_wp2_with fail
        go_ret
        exact ⟨by rw [unhide HX]; rfl, unhide HEw⟩
      have p1 : decide ((16 : Int) < (CN : Int)) = false := decide_eq_false (by omega)
      by_cases hn16 : 16 < NN
      · have HX : Hid (R = true) := hide (unhide HBig (fun h => by have := (h.c x (unhide HXm)).1; have := unhide HNN; omega))
        have p2 : (16 : Int) < (NN : Int) := by omega
        clear hc16
        go_wp2_with fail
        go_ret
        exact ⟨by rw [unhide HX]; rfl, unhide HEw⟩
      have p2 : decide ((16 : Int) < (NN : Int)) = false := decide_eq_false (by omega)
      have hCb : CN ≤ 16 := by omega
      have hNb : NN ≤ 16 := by omega
      clear hc16 hn16 HEw
      go_wp2_with fail
      clear p1 p2 y1 y2
      go_loopw [5, 6, 7] (fun i _ _ wq => ∃ (j : Nat), j ≤ CN ∧ i = .int .i64 (j : Int) ∧ Hid (∀ i, i < j → ∀ c, x.cases[i]? = some c → goodCs c) ∧ Hid (Below w2.heap.size w2 wq)) (fun i _ _ _ => CN - (intOf i).toNat)
      case atStart => exact ⟨0, by omega, rfl, hide (fun i h => by omega), HFr⟩
      case round =>
        clear HFr
        obtain ⟨j, hj, rfl, HJ, HFq⟩ := hrel
        rename World => wq
        obtain ⟨y1, y2⟩ := unhide HBx wq (unhide HFq)
        by_cases hjt : j < CN
        · obtain ⟨c, hcx⟩ := (unhide HCa).lt hjt
          have HCx := hide hcx
          have HCm := hide (List.mem_of_getElem? hcx)
          obtain ⟨cb, co, rfl, _, ⟨wa, wc, h0, hwhn⟩, h1, ea, ec, h2, hem⟩ := (unhide HCa).at hcx
          obtain ⟨WN, hWN⟩ : ∃ WN, WN = c.whn.length := ⟨_, rfl⟩
          obtain ⟨EN, hEN⟩ : ∃ EN, EN = c.emits.length := ⟨_, rfl⟩
          rw [← hWN] at h0
          rw [← hEN] at h2 hem
          have hb0 := unhide H0 wq (unhide HF2 wq (unhide HFq))
          have z0 := kept hb0 h0
          have z1 := kept hb0 h1
          have z2 := kept hb0 h2
          have hji : (j : Int) < (CN : Int) := by omega
          have hj0 : ¬ (j : Int) < 0 := by omega
          have HEm := hide hem
          have HWN := hide hWN
          have HEN := hide hEN
          have hENm : EN ≤ 9223372036854775807 := by have := hem.len; omega
          have b3 : Below wq.heap.size wq (wq.alloc (.cells #[.slice wa WN wc, sv c.refuse, .slice ea EN ec] 66)) := (Below.refl _ _).alloc (Nat.le_refl _) _
          have hx3 : (wq.alloc (.cells #[.slice wa WN wc, sv c.refuse, .slice ea EN ec] 66)).heap[wq.heap.size]? = some (.cells #[.slice wa WN wc, sv c.refuse, .slice ea EN ec] 66 (0, 0)) := heap_alloc_new _ _
          obtain ⟨w3, hw3⟩ : ∃ w3, w3 = wq.alloc (.cells #[.slice wa WN wc, sv c.refuse, .slice ea EN ec] 66) := ⟨_, rfl⟩
          rw [← hw3] at b3 hx3
          have HW3 := hide hw3
          obtain ⟨q3, hq3⟩ : ∃ q3, q3 = wq.heap.size := ⟨_, rfl⟩
          rw [← hq3] at hx3
          have HQ3 := hide hq3
          have HF3 : Hid (∀ W, Below w3.heap.size w3 W → Below w2.heap.size w2 W) := hide (fun W hW => (unhide HFq).trans ((b3.trans (hW.mono b3.size)).mono (unhide HFq).size))
          have HBc : Hid (∀ W, Below w3.heap.size w3 W → W.cell? ⟨q3, 0, none⟩ = some (.slice wa WN wc) ∧ W.cell? ⟨q3, 2, none⟩ = some (.slice ea EN ec)) := hide (fun W hW => ⟨kept hW ((cell_of_row _ _ _ _ _ _ hx3).trans rfl), kept hW ((cell_of_row _ _ _ _ _ _ hx3).trans rfl)⟩)
          have HFs : Hid (Below w3.heap.size w3 w3) := hide (Below.refl _ _)
          clear hcx h0 h1 h2 hwhn hem hWN hEN hb0 b3 hx3 hw3 hq3
          go_upto_region 13 with fail
          rw [show wq.alloc (.cells #[Value.slice wa WN wc, .string ⟨c.refuse.toArray⟩, .slice ea EN ec] 66) = w3 from (unhide HW3).symm]
          rw [← unhide HQ3]
          clear z0 z1 z2 y1 y2
          obtain ⟨c0, c2⟩ := unhide HBc w3 (unhide HFs)
          have HEw := hide (unhide HE1 w3 (unhide HF2 w3 (unhide HF3 w3 (unhide HFs))))
          by_cases hw16 : 16 < WN
          · have HX : Hid (R = true) := hide (unhide HBig (fun h => by have := ((h.c x (unhide HXm)).2.2 c (unhide HCm)).1; have := unhide HWN; omega))
            have p1 : (16 : Int) < (WN : Int) := by omega
            go_wp2_with fail
            go_ret
            exact ⟨by rw [unhide HX]; rfl, unhide HEw⟩
          have p1 : decide ((16 : Int) < (WN : Int)) = false := decide_eq_false (by omega)
          by_cases he16 : 16 < EN
          · have HX : Hid (R = true) := hide (unhide HBig (fun h => by have := ((h.c x (unhide HXm)).2.2 c (unhide HCm)).2.1; have := unhide HEN; omega))
            have p2 : (16 : Int) < (EN : Int) := by omega
            clear hw16
            go_wp2_with fail
            go_ret
            exact ⟨by rw [unhide HX]; rfl, unhide HEw⟩
          have p2 : decide ((16 : Int) < (EN : Int)) = false := decide_eq_false (by omega)
          have hWb : WN ≤ 16 := by omega
          have hEb : EN ≤ 16 := by omega
          clear hw16 he16 HEw
          go_wp2_with fail
          clear p1 p2 c0 c2
          go_loopw [7] (fun i wp => ∃ (n : Nat), n ≤ EN ∧ i = .int .i64 (n : Int) ∧ Hid (∀ i, i < n → ∀ m : Em, c.emits[i]? = some m → m.sets.length ≤ 16) ∧ Hid (Below w3.heap.size w3 wp)) (fun i _ => EN - (intOf i).toNat)
          case atStart => exact ⟨0, by omega, rfl, hide (fun i h => by omega), HFs⟩
          case round =>
            clear HFs
            obtain ⟨n, hn, rfl, HM, HFs⟩ := hrel
            rename World => wp
            obtain ⟨c0, c2⟩ := unhide HBc wp (unhide HFs)
            by_cases hnt : n < EN
            · obtain ⟨em, hex⟩ := (unhide HEm).lt hnt
              have hemm := List.mem_of_getElem? hex
              obtain ⟨eb, eo, rfl, _, k0, sa, sc, k1, hset⟩ := (unhide HEm).at hex
              obtain ⟨SN, hSN⟩ : ∃ SN, SN = em.sets.length := ⟨_, rfl⟩
              rw [← hSN] at k1
              have hb0 := unhide H0 wp (unhide HF2 wp (unhide HF3 wp (unhide HFs)))
              have d1 := kept hb0 k1
              have hmi : (n : Int) < (EN : Int) := by omega
              have hm0 : ¬ (n : Int) < 0 := by omega
              by_cases hs16 : 16 < SN
              · have HX : Hid (R = true) := hide (unhide HBig (fun h => by have := ((h.c x (unhide HXm)).2.2 c (unhide HCm)).2.2 em hemm; omega))
                have p1 : (16 : Int) < (SN : Int) := by omega
                have HEw := hide (unhide HE1 wp (unhide HF2 wp (unhide HF3 wp (unhide HFs))))
                clear hex hemm k0 k1 hset hSN hb0
                go_wp2_with fail
                go_ret
                exact ⟨by rw [unhide HX]; rfl, unhide HEw⟩
              · have p1 : decide ((16 : Int) < (SN : Int)) = false := decide_eq_false (by omega)
                have HM2 : Hid (∀ i, i < n + 1 → ∀ m : Em, c.emits[i]? = some m → m.sets.length ≤ 16) := hide (all_next (p := fun m : Em => m.sets.length ≤ 16) hex (by omega) (unhide HM))
                clear hex hemm k0 k1 hset hSN hb0 hs16
                go_wp2_with fail
                go_roundw
                case rel => exact ⟨n + 1, by omega, by go_num, HM2, HFs⟩
                case measure => simp [intOf]; omega
            · have hmi : ¬ (n : Int) < (EN : Int) := by omega
              have HG : Hid (goodCs c) := hide ⟨by have := unhide HWN; omega, by have := unhide HEN; omega, all_to (p := fun m : Em => m.sets.length ≤ 16) (unhide HEN) (by omega) (unhide HM)⟩
              have HJ2 : Hid (∀ i, i < j + 1 → ∀ c, x.cases[i]? = some c → goodCs c) := hide (all_next (unhide HCx) (unhide HG) (unhide HJ))
              have HFq2 := hide (unhide HF3 wp (unhide HFs))
              go_wp2_with fail
              go_roundw
              case rel => exact ⟨j + 1, by omega, by go_num, HJ2, HFq2⟩
              case measure => simp [intOf]; omega
        · have hji : ¬ (j : Int) < (CN : Int) := by omega
          have HG : Hid (goodHa x) := hide ⟨by have := unhide HNN; omega, by have := unhide HCN; omega, all_to (unhide HCN) (by omega) (unhide HJ)⟩
          have HA2 : Hid (∀ i, i < k + 1 → ∀ x, hs[i]? = some x → goodHa x) := hide (all_next (unhide HXe) (unhide HG) (unhide HA))
          have HFq2 := hide (unhide HF2 wq (unhide HFq))
          go_wp2_with fail
          go_roundw
          case rel => exact ⟨k + 1, by omega, by go_num, HA2, HFq2⟩
          case measure => simp [intOf]; omega
    · have hki : ¬ (k : Int) < (nh : Int) := by omega
      have HGh : Hid (∀ x ∈ hs, goodHa x) := hide (all_to (unhide HNh) (by omega) (unhide HA))
      clear HA
      go_wp2_with fail
      go_loopw [8] (fun i wr => ∃ (k : Nat), k ≤ nv ∧ i = .int .i64 (k : Int) ∧ Hid (∀ i, i < k → ∀ x, vs[i]? = some x → goodEv x) ∧ Hid (Below w1.heap.size w1 wr)) (fun i _ => nv - (intOf i).toNat)
      case atStart => exact ⟨0, by omega, rfl, hide (fun i h => by omega), HF⟩
      case round =>
        clear HF r0 r1
        obtain ⟨m, hm, rfl, HA, HF⟩ := hrel
        rename World => wm
        obtain ⟨r0, r1⟩ := unhide HR wm (unhide HF)
        by_cases hmt : m < nv
        · obtain ⟨ev, hex⟩ := (unhide HVs).lt hmt
          have hevm := List.mem_of_getElem? hex
          obtain ⟨eb, eo, rfl, _, k0, ⟨sa, sc, k1, hset⟩, da, dc, k2, hdr⟩ := (unhide HVs).at hex
          obtain ⟨SN, hSN⟩ : ∃ SN, SN = ev.sets.length := ⟨_, rfl⟩
          obtain ⟨DN, hDN⟩ : ∃ DN, DN = ev.drops.length := ⟨_, rfl⟩
          rw [← hSN] at k1
          rw [← hDN] at k2
          have hb0 := unhide H0 wm (unhide HF)
          have d1 := kept hb0 k1
          have d2 := kept hb0 k2
          have hmi : (m : Int) < (nv : Int) := by omega
          have hm0 : ¬ (m : Int) < 0 := by omega
          have HEw := hide (unhide HE1 wm (unhide HF))
          by_cases hs16 : 16 < SN
          · have HX : Hid (R = true) := hide (unhide HBig (fun h => by have := (h.e ev hevm).1; omega))
            have p1 : (16 : Int) < (SN : Int) := by omega
            clear hex hevm k0 k1 k2 hset hdr hSN hDN hb0
            go_wp2_with fail
            go_ret
            exact ⟨by rw [unhide HX]; rfl, unhide HEw⟩
          have p1 : decide ((16 : Int) < (SN : Int)) = false := decide_eq_false (by omega)
          by_cases hd16 : 16 < DN
          · have HX : Hid (R = true) := hide (unhide HBig (fun h => by have := (h.e ev hevm).2; omega))
            have p2 : (16 : Int) < (DN : Int) := by omega
            clear hex hevm k0 k1 k2 hset hdr hSN hDN hb0 hs16
            go_wp2_with fail
            go_ret
            exact ⟨by rw [unhide HX]; rfl, unhide HEw⟩
          have p2 : decide ((16 : Int) < (DN : Int)) = false := decide_eq_false (by omega)
          have HA2 : Hid (∀ i, i < m + 1 → ∀ x, vs[i]? = some x → goodEv x) := hide (all_next hex ⟨by omega, by omega⟩ (unhide HA))
          clear hex hevm k0 k1 k2 hset hdr hSN hDN hb0 hs16 hd16
          go_wp2_with fail
          go_roundw
          case rel => exact ⟨m + 1, by omega, by go_num, HA2, HF⟩
          case measure => simp [intOf]; omega
        · have hmi : ¬ (m : Int) < (nv : Int) := by omega
          have HSm : Hid (SmT hs vs) := hide (SmT.mk' (by have := unhide HNh; omega) (by have := unhide HNv; omega) (unhide HGh) (all_to (unhide HNv) (by omega) (unhide HA)))
          have HR2 : Hid (R = (exprsD hs vs).any manyX) := hide (unhide HSml (unhide HSm))
          have HC := hide (rexprs_any w0 ha nh hc hs va nv vc vs (unhide HHs) (unhide HVs) (unhide HSm) wm (unhide H0 wm (unhide HF)))
          obtain ⟨L, hL⟩ : ∃ L, L = exprsD hs vs := ⟨_, rfl⟩
          rw [← hL] at HR2 HC
          clear hL HA HGh
          go_upto_region 26 with (go_at_call 22; refine (unhide HC).mono ?_; rintro e w5 ⟨v5, rfl, o5, b5⟩; obtain ⟨la, lc, rfl, hl5⟩ := o5.exl; obtain ⟨ln, hln⟩ : ∃ ln, ln = L.length := ⟨_, rfl⟩; have HLn := hide hln; rw [← hln] at hl5 ⊢; have HLx := hide hl5; have HF5 := hide ((unhide HF).trans (b5.mono (unhide HF).size)); clear o5 b5 hln hl5)
          have hlnb : ln ≤ 9223372036854775807 := by obtain ⟨ds, _, _, e, h1, h2, _⟩ := unhide HLx; omega
          have HFs : Hid (Below w5.heap.size w5 w5) := hide (Below.refl _ _)
          clear r0 r1 HC
          go_wp2_with fail
          go_loopw [10] (fun i wr => ∃ (k : Nat), k ≤ ln ∧ i = .int .i64 (k : Int) ∧ Hid (∀ i, i < k → ∀ x, L[i]? = some x → manyX x = false) ∧ Hid (Below w5.heap.size w5 wr)) (fun i _ => ln - (intOf i).toNat)
          case atStart => exact ⟨0, by omega, rfl, hide (fun i h => by omega), HFs⟩
          case round =>
            clear HFs
            obtain ⟨u, hu, rfl, HU, HFs⟩ := hrel
            rename World => wu
            have HEw := hide (unhide HE1 wu ((unhide HF5).trans ((unhide HFs).mono (unhide HF5).size)))
            by_cases hut : u < ln
            · obtain ⟨y, hy⟩ : ∃ y, L[u]? = some y := ⟨_, List.getElem?_eq_getElem (by have := unhide HLn; omega)⟩
              have hym := List.mem_of_getElem? hy
              obtain ⟨yb, yo, ya, yc, rfl, y0, y1, y2, y3, hat⟩ := ((unhide HLx).grown (unhide HFs)).get hy
              have hb0 := unhide H0 wu ((unhide HF5).trans ((unhide HFs).mono (unhide HF5).size))
              obtain ⟨Q, hQ⟩ : ∃ Q, Q = manyX y := ⟨_, rfl⟩
              have HC : Hid (Calls Tryz.prog 68 #[.agg (exV y ya yc)] wu fun e w' => e = .returned (.bool Q) ∧ Below wu.heap.size wu w') := hide (by rw [hQ, ← many_cnt y]; exact rmany_any ⟨y, ya, yc⟩ wu (hat.grown hb0))
              have hui : (u : Int) < (ln : Int) := by omega
              have hu0 : ¬ (u : Int) < 0 := by omega
              have HU2 : Hid (Q = false → ∀ i, i < u + 1 → ∀ x, L[i]? = some x → manyX x = false) := hide (fun h => all_next hy (by rw [← hQ]; exact h) (unhide HU))
              have HT : Hid (Q = true → R = true) := hide (fun h => by rw [unhide HR2, List.any_eq_true]; exact ⟨y, hym, by rw [← hQ]; exact h⟩)
              obtain ⟨M, hM⟩ : ∃ M, M = y.args.length := ⟨_, rfl⟩
              rw [show exV y ya yc = #[.int .i64 y.kind, .int .i64 y.n, sv y.s, .slice ya M yc] by rw [hM]] at HC
              rw [← hM] at y3
              clear hy hym hat hb0 hQ hM
              cases Q with
              | true =>
                have HX := hide (unhide HT rfl)
                go_wp2_with (go_at_call 68; refine (unhide HC).mono ?_; rintro e w6 ⟨rfl, b6⟩; have HE6 := hide ((unhide HEw).trans (b6.mono (unhide HEw).size)); clear b6)
                go_ret
                exact ⟨by rw [unhide HX]; rfl, unhide HE6⟩
              | false =>
                have HU3 := hide (unhide HU2 rfl)
                go_wp2_with (go_at_call 68; refine (unhide HC).mono ?_; rintro e w6 ⟨rfl, b6⟩; have HF6 := hide ((unhide HFs).trans (b6.mono (unhide HFs).size)); clear b6)
                go_roundw
                case rel => exact ⟨u + 1, by omega, by go_num, HU3, HF6⟩
                case measure => simp [intOf]; omega
            · have hui : ¬ (u : Int) < (ln : Int) := by omega
              have HX : Hid (R = false) := hide (by
                rw [unhide HR2, List.any_eq_false]
                intro y hy
                have := all_to (p := fun y => manyX y = false) (unhide HLn) (by omega) (unhide HU) y hy
                rw [this]; simp)
              go_wp2_with fail
              go_ret
              exact ⟨by rw [unhide HX]; rfl, unhide HEw⟩
end Go.Proofs.YtingpmgpjmlioaaGreatDoor

namespace Go.Proofs.YtingpmgpjmlioaaGreatDoor
open Go.RowKit
set_option linter.unusedVariables false

def goodNH (x : Ha) : Prop := apartT (x.needs.map (·.nm)) = true ∧ ∀ c ∈ x.cases, ∀ m ∈ c.emits, nameB m.type = true ∧ apartT (m.sets.map (·.nm)) = true
def goodNV (v : Evo) : Prop := (∀ a ∈ v.sets, nameB a.nm = true) ∧ ∀ d ∈ v.drops, nameB d = true
structure GoodN (hs : List Ha) (vs : List Evo) : Prop where
  cmds : apartT (hs.map (·.cmd)) = true
  types : apartT (vs.map (·.type)) = true
  h : ∀ x ∈ hs, goodNH x
  v : ∀ x ∈ vs, goodNV x
  e : ∀ y ∈ exprsD hs vs, badNameX y = false
theorem misnamed_good {hs : List Ha} {vs : List Evo} (h : GoodN hs vs) : misnamedR hs vs = false := by
  unfold misnamedR
  rw [any_exprs]
  have e3 : hs.any (fun h => !apartT (h.needs.map (·.nm))) = false := List.any_eq_false.2 (fun x hx => by rw [(h.h x hx).1]; simp)
  have e4 : (emitsP hs).any (fun m => !nameB m.type || !apartT (m.sets.map (·.nm))) = false := List.any_eq_false.2 (fun m hm => by
    obtain ⟨c, hc, hm⟩ := List.mem_flatMap.1 hm
    obtain ⟨x, hx, hc⟩ := List.mem_flatMap.1 hc
    obtain ⟨q1, q2⟩ := (h.h x hx).2 c hc m hm
    rw [q1, q2]; simp)
  have e5 : vs.any (fun v => v.sets.any (fun a => !nameB a.nm) || v.drops.any (fun d => !nameB d)) = false := List.any_eq_false.2 (fun x hx => by
    obtain ⟨q1, q2⟩ := h.v x hx
    rw [List.any_eq_false.2 (fun a ha => by rw [q1 a ha]; simp), List.any_eq_false.2 (fun a ha => by rw [q2 a ha]; simp)]
    simp)
  have e6 : (exprsD hs vs).any badNameX = false := List.any_eq_false.2 (fun y hy => by rw [h.e y hy]; simp)
  rw [h.cmds, h.types, e3, e4, e5, e6]
  rfl
theorem misnamed_bad {hs : List Ha} {vs : List Evo} (h : ¬ GoodN hs vs) : misnamedR hs vs = true := by
  cases hR : misnamedR hs vs with
  | true => rfl
  | false =>
    exfalso
    apply h
    unfold misnamedR at hR
    rw [any_exprs] at hR
    simp only [Bool.or_eq_false_iff, List.any_eq_false] at hR
    obtain ⟨⟨⟨⟨⟨n1, n2⟩, n3⟩, n4⟩, n5⟩, n6⟩ := hR
    refine ⟨by simpa using n1, by simpa using n2, fun x hx => ⟨by simpa using n3 x hx, fun c hc m hm => ?_⟩, fun x hx => ?_, fun y hy => by simpa using n6 y hy⟩
    · have q := n4 m (List.mem_flatMap.2 ⟨c, List.mem_flatMap.2 ⟨x, hx, hc⟩, hm⟩)
      simpa using q
    · have q := n5 x hx
      simp at q
      exact ⟨q.1, q.2⟩
theorem badName_iff {y : Ex} (h : manyX y = false) : (badNameX y = false) ↔ (allX okN y = true) := by
  have hl : (nodesX y).length ≤ 64 := by unfold manyX at h; have := of_decide_eq_false h; omega
  rw [← nodes_all okN hl, List.all_eq_true]
  unfold badNameX
  rw [List.any_eq_false]
  exact ⟨fun h x hx => by have := h x hx; unfold okN; rw [Bool.not_eq_true] at this; rw [this]; rfl, fun h x hx => by have := h x hx; unfold okN at this; rw [Bool.not_eq_true'] at this; rw [this]; simp⟩
/-- What is needed of a table: its texts are no longer than may be. -/
structure FitT (hs : List Ha) (vs : List Evo) : Prop where
  h : ∀ x ∈ hs, fitHa x
  v : ∀ x ∈ vs, fitEv x

theorem step_append_sts {ops : Array Oper} {o : Oper} {a : Act} {w : World} {K : Act → World → Prop} {Q : Exit → Act → World → Prop} {E : Prop}
    (hg : o.guard = none) (s x : Operand) (ho : o.op = .call { callee := .builtin .append, args := #[s, x], argTypes := #[72, 72] })
    (base : Nat) (v : Value) (R : List (List UInt8)) (hs : a.eval s = v) (hown : SOwn w base v R) (ya : Option Addr) (n yc : Nat) (m : List (List UInt8)) (hx : a.eval x = .slice ya n yc) (hy : StL w ya n yc m) (hlen : R.length + m.length ≤ 1000000) (hbase : base ≤ w.heap.size)
    (hK : ∀ v' w', SOwn w' base v' (R ++ m) → Fr 9 base w w' → K (a.put o.dst v') w') :
    if Region.wanted o (yielded ops a.tmps) = true then Oper.wp Tryz.prog o a w K Q else E := by
  have hw : Region.wanted o (yielded ops a.tmps) = true := by simp [Region.wanted, hg]
  rw [if_pos hw]
  obtain ⟨i0, hi, hh⟩ := Option.map_eq_some_iff.1 Tryz.infoStr
  simp only [Prod.mk.injEq] at hh
  obtain ⟨rfl, hnews⟩ := hy.news
  cases ya with
  | none =>
    have hm : m = [] := hy.isNil
    subst hm
    have hrun := run_none (w := w) base 72 o.type 9 i0 1 Tryz.underlying72 hi v R.length (R.map sv) hown yc
    unfold Oper.wp
    simp [execOp, ho, resolve, invoke, builtin, hs, hx, hrun, Result.andThen]
    exact hK v w (by simpa using hown) (Fr.refl _ _ _)
  | some ad =>
    obtain ⟨v', w', hrun, r1, r2, _⟩ := run_append_own (P := Tryz.prog) w base 72 o.type 9 i0 (.string ⟨#[]⟩) 1 16 Tryz.underlying72 hi hh.1 hh.2.1 hh.2.2 rfl (by decide) v R.length (R.map sv) hown ad m.length yc (m.map sv) (by simp) (hnews ad rfl) (sv_one m) (by unfold maxLen; omega) (by omega) hbase
    unfold Oper.wp
    simp [execOp, ho, resolve, invoke, builtin, hs, hx, hrun, Result.andThen]
    exact hK v' w' (by unfold SOwn; rw [List.map_append, List.length_append]; exact r1) (fr_grown hown hbase r2)
theorem StL.len {w : World} {a : Option Addr} {n c : Nat} {l : List (List UInt8)} (h : StL w a n c l) : n = l.length ∧ n ≤ 9223372036854775807 := by
  have := h.len'; omega
theorem StL.get {w : World} {a : Option Addr} {n c : Nat} {l : List (List UInt8)} (h : StL w a n c l) {i : Nat} {s : List UInt8} (hi : l[i]? = some s) : ∃ b off, a = some ⟨b, off, none⟩ ∧ w.cell? ⟨b, off + i, none⟩ = some (sv s) := by
  obtain ⟨b, off, e, _, hc⟩ := h.at hi
  rw [Nat.mul_one] at hc
  exact ⟨b, off, e, hc⟩
theorem sown_st {w : World} {base n c : Nat} {a : Option Addr} {l : List (List UInt8)} (h : SOwn w base (.slice a n c) l) : StL w a n c l := by
  obtain ⟨a', c', e, hs⟩ := sown_stl h
  cases e
  exact hs
def goodEm (m : Em) : Prop := nameB m.type = true ∧ apartT (m.sets.map (·.nm)) = true
theorem take_map {α β : Type} (f : α → β) {l : List α} {k : Nat} {x : α} (h : l[k]? = some x) : (l.take (k + 1)).map f = (l.take k).map f ++ [f x] := by rw [List.take_add_one, h]; simp

set_option maxRecDepth 20000 in
set_option maxHeartbeats 32000000 in
theorem rbadNames_any (w0 : World) (ha : Option Addr) (nh hc : Nat) (hs : List Ha) (va : Option Addr) (nv vc : Nat) (vs : List Evo) (hH : SlOf 3 HaAt w0 (.slice ha nh hc) hs) (hV : SlOf 3 EvoAt w0 (.slice va nv vc) vs) (hsm : SmT hs vs) (hfit : FitT hs vs) (hmany : ∀ y ∈ exprsD hs vs, manyX y = false) (w : World) (hw : Below w0.heap.size w0 w) :
    Calls Tryz.prog 21 #[.agg #[.slice ha nh hc, .slice va nv vc]] w fun e w' => e = .returned (.bool (misnamedR hs vs)) ∧ Below w.heap.size w w' := by
  have hnh := hH.len.1
  have hnv := hV.len.1
  have h32 := hsm.h
  have v32 := hsm.v
  have hb1 : Below w.heap.size w (w.alloc (.cells #[.slice ha nh hc, .slice va nv vc] 25)) := (Below.refl _ _).alloc (Nat.le_refl _) _
  have hx1 : (w.alloc (.cells #[.slice ha nh hc, .slice va nv vc] 25)).heap[w.heap.size]? = some (.cells #[.slice ha nh hc, .slice va nv vc] 25 (0, 0)) := heap_alloc_new _ _
  obtain ⟨w1, hw1⟩ : ∃ w1, w1 = w.alloc (.cells #[.slice ha nh hc, .slice va nv vc] 25) := ⟨_, rfl⟩
  rw [← hw1] at hb1 hx1
  obtain ⟨B, hB⟩ : ∃ B, B = w.heap.size := ⟨_, rfl⟩
  rw [← hB] at hx1
  have HW := hide hw1
  have HB := hide hB
  have HE1 : Hid (∀ W, Below w1.heap.size w1 W → Below w.heap.size w W) := hide (fun W hW => hb1.trans (hW.mono hb1.size))
  have HR : Hid (∀ W, Below w1.heap.size w1 W → W.cell? ⟨B, 0, none⟩ = some (.slice ha nh hc) ∧ W.cell? ⟨B, 1, none⟩ = some (.slice va nv vc)) := hide (fun W hW => ⟨kept hW ((cell_of_row _ _ _ _ _ _ hx1).trans rfl), kept hW ((cell_of_row _ _ _ _ _ _ hx1).trans rfl)⟩)
  have H0 : Hid (∀ W, Below w1.heap.size w1 W → Below w0.heap.size w0 W) := hide (fun W hW => hw.trans ((hb1.trans (hW.mono hb1.size)).mono hw.size))
  obtain ⟨R, hRe⟩ : ∃ R, R = misnamedR hs vs := ⟨_, rfl⟩
  rw [← hRe]
  have HBad : Hid (¬ GoodN hs vs → R = true) := hide (fun h => by rw [hRe]; exact misnamed_bad h)
  have HGood : Hid (GoodN hs vs → R = false) := hide (fun h => by rw [hRe]; exact misnamed_good h)
  have HHs := hide hH
  have HVs := hide hV
  have HSm := hide hsm
  have HFit := hide hfit
  have HMany := hide hmany
  have HNh := hide hnh
  have HNv := hide hnv
  have hnb : nh ≤ 32 := by omega
  have hvb : nv ≤ 32 := by omega
  have HO0 : Hid (SOwn w1 w1.heap.size (.slice none 0 0) ((hs.take 0).map (·.cmd))) := hide (SOwn.nil _ _)
  have HF0 : Hid (Fr 9 w1.heap.size w1 w1) := hide (Fr.refl _ _ _)
  clear hw1 hb1 hx1 hB hH hV hsm hfit hmany hnh hnv h32 v32 hw hRe
  go_enter Tryz.func21, Tryz.ntmps21
  go_upto_region 1 with fail
  rw [show w.alloc (.cells #[Value.slice ha nh hc, .slice va nv vc] 25) = w1 from (unhide HW).symm]
  rw [← unhide HB]
  go_wp2_with fail
  go_loopw [3, 5, 6, 7, 8, 9, 10, 11, 12] (fun v i _ _ _ _ _ _ _ wr => ∃ (k : Nat) (ra : Option Addr) (rn rc : Nat), k ≤ nh ∧ i = .int .i64 (k : Int) ∧ v = .slice ra rn rc ∧ Hid (SOwn wr w1.heap.size (.slice ra rn rc) ((hs.take k).map (·.cmd))) ∧ Hid (∀ i, i < k → ∀ x, hs[i]? = some x → goodNH x) ∧ Hid (Fr 9 w1.heap.size w1 wr)) (fun _ i _ _ _ _ _ _ _ _ => nh - (intOf i).toNat)
  case atStart => exact ⟨0, none, 0, 0, by omega, rfl, rfl, HO0, hide (fun i h => by omega), HF0⟩
  case round =>
    clear HO0 HF0
    obtain ⟨k, ra, rn, rc, hk, rfl, rfl, HO, HA, HF⟩ := hrel
    obtain ⟨r0, r1⟩ := unhide HR wr (unhide HF).bel
    by_cases hlt : k < nh
    · obtain ⟨x, hx⟩ := (unhide HHs).lt hlt
      have HXe := hide hx
      have hxm := List.mem_of_getElem? hx
      have HXm := hide hxm
      have HX : Hid ((hs.take (k + 1)).map (·.cmd) = (hs.take k).map (·.cmd) ++ [x.cmd]) := hide (take_map (·.cmd) hx)
      have HP : Hid (((hs.take k).map (·.cmd)).length ≤ 32) := hide (by rw [List.length_map, List.length_take]; omega)
      obtain ⟨pre, hpre⟩ : ∃ pre, pre = (hs.take k).map (·.cmd) := ⟨_, rfl⟩
      rw [← hpre] at HO HX HP
      obtain ⟨hb, ho, rfl, _, h0, ⟨na, nc, h1, hneeds⟩, ca, cc, h2, hcases⟩ := (unhide HHs).at hx
      obtain ⟨CN, hCN⟩ : ∃ CN, CN = x.cases.length := ⟨_, rfl⟩
      obtain ⟨NN, hNN⟩ : ∃ NN, NN = x.needs.length := ⟨_, rfl⟩
      rw [← hCN] at h2 hcases
      rw [← hNN] at h1 hneeds
      have hb0 := unhide H0 wr (unhide HF).bel
      have z0 := kept hb0 h0
      have z1 := kept hb0 h1
      have z2 := kept hb0 h2
      have hki : (k : Int) < (nh : Int) := by omega
      have hk0 : ¬ (k : Int) < 0 := by omega
      have HCa := hide hcases
      have HNe := hide hneeds
      have hCNb : CN ≤ 16 := by rw [hCN]; exact ((unhide HSm).c x hxm).2.1
      have hNNb : NN ≤ 16 := by rw [hNN]; exact ((unhide HSm).c x hxm).1
      have HCN := hide hCN
      have HNN := hide hNN
      have b2 : Below wr.heap.size wr (wr.alloc (.cells #[sv x.cmd, .slice na NN nc, .slice ca CN cc] 62)) := (Below.refl _ _).alloc (Nat.le_refl _) _
      have hx2 : (wr.alloc (.cells #[sv x.cmd, .slice na NN nc, .slice ca CN cc] 62)).heap[wr.heap.size]? = some (.cells #[sv x.cmd, .slice na NN nc, .slice ca CN cc] 62 (0, 0)) := heap_alloc_new _ _
      obtain ⟨w2, hw2⟩ : ∃ w2, w2 = wr.alloc (.cells #[sv x.cmd, .slice na NN nc, .slice ca CN cc] 62) := ⟨_, rfl⟩
      rw [← hw2] at b2 hx2
      have HW2 := hide hw2
      obtain ⟨q, hq⟩ : ∃ q, q = wr.heap.size := ⟨_, rfl⟩
      rw [← hq] at hx2
      have HQ := hide hq
      have HO2 : Hid (SOwn w2 w1.heap.size (.slice ra rn rc) pre) := hide ((unhide HO).below b2 (Nat.le_refl _))
      have HF2 : Hid (Fr 9 w1.heap.size w1 w2) := hide ((unhide HF).trans (Fr.of b2 (unhide HF).bel.size))
      have HX2 := hide hx2
      have HS2 := hide (unhide HF2).bel.size
      have HAL : Hid (Below w2.heap.size w2 (w2.alloc (.cells #[sv x.cmd] 9))) := hide ((Below.refl _ _).alloc (Nat.le_refl _) _)
      have y0 : w2.cell? ⟨q, 0, none⟩ = some (sv x.cmd) := (cell_of_row _ _ _ _ _ _ hx2).trans rfl
      clear hx hxm hpre h0 h1 h2 hneeds hcases hCN hNN hb0 b2 hx2 hw2 hq
      go_upto_region 7 with fail
      rw [show wr.alloc (.cells #[Value.string ⟨x.cmd.toArray⟩, .slice na NN nc, .slice ca CN cc] 62) = w2 from (unhide HW2).symm]
      rw [← unhide HQ]
      clear z0 z1 z2 r0 r1
      go_upto_region 8 with (at_builtin; refine wpList_append_sts rfl (.tmp 32) (.tmp 35) rfl w1.heap.size _ _ rfl ((unhide HO2).below (unhide HAL) (Nat.le_refl _)) _ 1 1 [x.cmd] rfl (stl_one w2 x.cmd) (by have := unhide HP; simp only [List.length_singleton]; omega) (by have := unhide HS2; have := (unhide HAL).size; omega) ?_; intro v5 w5 o5 f5; obtain ⟨ra5, rn5, rc5, rfl⟩ := o5.sl; have HO5 := hide o5; have HF5 := hide ((Fr.of (unhide HAL) (unhide HS2)).trans f5); clear o5 f5)
      have hx5 := (unhide HF5).row (by decide) (unhide HX2)
      have HBx : Hid (∀ W, Below w5.heap.size w5 W → W.cell? ⟨q, 1, none⟩ = some (.slice na NN nc) ∧ W.cell? ⟨q, 2, none⟩ = some (.slice ca CN cc)) := hide (fun W hW => ⟨kept hW ((cell_of_row _ _ _ _ _ _ hx5).trans rfl), kept hW ((cell_of_row _ _ _ _ _ _ hx5).trans rfl)⟩)
      have HF15 := hide ((unhide HF2).trans (unhide HF5))
      have HW5 : Hid (∀ W, Below w5.heap.size w5 W → Below w1.heap.size w1 W) := hide (fun W hW => (unhide HF15).bel.trans (hW.mono (unhide HF15).bel.size))
      have HO0 : Hid (SOwn w5 w5.heap.size (.slice none 0 0) ((x.needs.take 0).map (·.nm))) := hide (SOwn.nil _ _)
      have HF0 : Hid (Fr 9 w5.heap.size w5 w5) := hide (Fr.refl _ _ _)
      clear y0 hx5 HAL HO2 HO HX2
      go_wp2_with fail
      go_loopw [7, 8] (fun v i wq => ∃ (j : Nat) (la : Option Addr) (ln lc : Nat), j ≤ NN ∧ i = .int .i64 (j : Int) ∧ v = .slice la ln lc ∧ Hid (SOwn wq w5.heap.size (.slice la ln lc) ((x.needs.take j).map (·.nm))) ∧ Hid (Fr 9 w5.heap.size w5 wq)) (fun _ i _ => NN - (intOf i).toNat)
      case atStart => exact ⟨0, none, 0, 0, by omega, rfl, rfl, HO0, HF0⟩
      case round =>
        clear HO0 HF0
        obtain ⟨j, la, ln, lc, hj, rfl, rfl, HOn, HFn⟩ := hrel
        rename World => wq
        obtain ⟨y1, y2⟩ := unhide HBx wq (unhide HFn).bel
        by_cases hjt : j < NN
        · obtain ⟨ne, hne⟩ := (unhide HNe).lt hjt
          obtain ⟨nb, no, rfl, _, k0, _⟩ := (unhide HNe).at hne
          have z0 := kept (unhide H0 wq (unhide HW5 wq (unhide HFn).bel)) k0
          have HNX : Hid ((x.needs.take (j + 1)).map (·.nm) = (x.needs.take j).map (·.nm) ++ [ne.nm]) := hide (take_map (·.nm) hne)
          have HLn : Hid (((x.needs.take j).map (·.nm)).length ≤ 16) := hide (by rw [List.length_map, List.length_take]; omega)
          have HAL : Hid (Below wq.heap.size wq (wq.alloc (.cells #[sv ne.nm] 9))) := hide ((Below.refl _ _).alloc (Nat.le_refl _) _)
          have HSn := hide (unhide HFn).bel.size
          have hji : (j : Int) < (NN : Int) := by omega
          have hj0 : ¬ (j : Int) < 0 := by omega
          clear hne k0
          go_wp2_with (at_builtin; refine wpList_append_sts rfl (.tmp 44) (.tmp 51) rfl w5.heap.size _ _ rfl ((unhide HOn).below (unhide HAL) (Nat.le_refl _)) _ 1 1 [ne.nm] rfl (stl_one wq ne.nm) (by have := unhide HLn; simp only [List.length_singleton]; omega) (by have := unhide HSn; have := (unhide HAL).size; omega) ?_; intro v6 w6 o6 f6; obtain ⟨la6, ln6, lc6, rfl⟩ := o6.sl; have HO6 := hide o6; have HF6 := hide ((unhide HFn).trans ((Fr.of (unhide HAL) (unhide HSn)).trans f6)); clear o6 f6)
          go_roundw
          case rel => exact ⟨j + 1, _, _, _, by omega, by go_num, rfl, by rw [unhide HNX]; exact HO6, HF6⟩
          case measure => simp [intOf]; omega
        · have hji : ¬ (j : Int) < (NN : Int) := by omega
          have hso : SOwn wq w5.heap.size (.slice la ln lc) (x.needs.map (·.nm)) := by
            have := unhide HOn
            rwa [List.take_of_length_le (by have := unhide HNN; omega)] at this
          obtain ⟨AP, hAP⟩ : ∃ AP, AP = apartT (x.needs.map (·.nm)) := ⟨_, rfl⟩
          have HAP := hide hAP
          have HC : Hid (Calls Tryz.prog 69 #[.slice la ln lc] wq fun e w' => e = .returned (.bool (!AP)) ∧ Below wq.heap.size wq w') := hide (by
            rw [hAP]
            exact rtwice_any la ln lc _ wq (sown_st hso) (fun s hs => by
              obtain ⟨n, hn, rfl⟩ := List.mem_map.1 hs
              have := ((unhide HFit).h x (unhide HXm)).2.1 n hn
              omega) (by have := (sown_st hso).len'.1; rw [List.length_map] at this; have := unhide HNN; omega))
          have HWq := hide (unhide HW5 wq (unhide HFn).bel)
          clear hso hAP
          cases AP with
          | false =>
            have HT : Hid (R = true) := hide (unhide HBad (fun h => by have := (h.h x (unhide HXm)).1; rw [← unhide HAP] at this; cases this))
            go_wp2_with (go_at_call 69; refine (unhide HC).mono ?_; rintro e w6 ⟨rfl, b6⟩; have HE6 := hide (unhide HE1 _ ((unhide HWq).trans (b6.mono (unhide HWq).size))); clear b6)
            go_ret
            exact ⟨by rw [unhide HT]; rfl, unhide HE6⟩
          | true =>
            go_upto_region 15 with (go_at_call 69; refine (unhide HC).mono ?_; rintro e w6 ⟨rfl, b6⟩; have HB6 := hide ((unhide HFn).bel.trans (b6.mono (unhide HFn).bel.size)); clear b6)
            have HFs : Hid (Below w6.heap.size w6 w6) := hide (Below.refl _ _)
            have HW6 : Hid (∀ W, Below w6.heap.size w6 W → Below w5.heap.size w5 W) := hide (fun W hW => (unhide HB6).trans (hW.mono (unhide HB6).size))
            clear y1 y2 HC HOn
            go_wp2_with fail
            go_loopw [9, 10, 11, 12] (fun i _ _ _ wp => ∃ (j : Nat), j ≤ CN ∧ i = .int .i64 (j : Int) ∧ Hid (∀ i, i < j → ∀ c : Cs, x.cases[i]? = some c → ∀ m ∈ c.emits, goodEm m) ∧ Hid (Below w6.heap.size w6 wp)) (fun i _ _ _ _ => CN - (intOf i).toNat)
            case atStart => exact ⟨0, by omega, rfl, hide (fun i h => by omega), HFs⟩
            case round =>
              clear HFs
              obtain ⟨j, hj, rfl, HJ, HFp⟩ := hrel
              rename World => wp
              obtain ⟨y1, y2⟩ := unhide HBx wp (unhide HW6 wp (unhide HFp))
              by_cases hjt : j < CN
              · obtain ⟨c, hcx⟩ := (unhide HCa).lt hjt
                have HCx := hide hcx
                have hcm := List.mem_of_getElem? hcx
                have HCm := hide hcm
                obtain ⟨cb, co, rfl, _, _, _, ea, ec, h2, hem⟩ := (unhide HCa).at hcx
                obtain ⟨EN, hEN⟩ : ∃ EN, EN = c.emits.length := ⟨_, rfl⟩
                rw [← hEN] at h2 hem
                have hEb : EN ≤ 16 := by rw [hEN]; exact (((unhide HSm).c x (unhide HXm)).2.2 c hcm).2.1
                have HCc : Hid (∀ W, Below w6.heap.size w6 W → W.cell? ⟨cb, co + j * 3 + 2, none⟩ = some (.slice ea EN ec)) := hide (fun W hW => kept (unhide H0 W (unhide HW5 W (unhide HW6 W hW))) h2)
                have hji : (j : Int) < (CN : Int) := by omega
                have hj0 : ¬ (j : Int) < 0 := by omega
                have HEm := hide hem
                have HEN := hide hEN
                clear hcx hcm h2 hem hEN
                go_wp2_with fail
                go_loopw [10, 11, 12] (fun i _ _ wm => ∃ (n : Nat), n ≤ EN ∧ i = .int .i64 (n : Int) ∧ Hid (∀ i, i < n → ∀ m : Em, c.emits[i]? = some m → goodEm m) ∧ Hid (Below w6.heap.size w6 wm)) (fun i _ _ _ => EN - (intOf i).toNat)
                case atStart => exact ⟨0, by omega, rfl, hide (fun i h => by omega), HFp⟩
                case round =>
                  clear HFp y1 y2
                  obtain ⟨n, hn, rfl, HM, HFp⟩ := hrel
                  rename World => wm
                  obtain ⟨y1, y2⟩ := unhide HBx wm (unhide HW6 wm (unhide HFp))
                  have c2 := unhide HCc wm (unhide HFp)
                  by_cases hnt : n < EN
                  · obtain ⟨em, hex⟩ := (unhide HEm).lt hnt
                    have HEx := hide hex
                    have hemm := List.mem_of_getElem? hex
                    have HEmm := hide hemm
                    obtain ⟨eb, eo, rfl, _, k0, sa, sc, k1, hset⟩ := (unhide HEm).at hex
                    obtain ⟨SN, hSN⟩ : ∃ SN, SN = em.sets.length := ⟨_, rfl⟩
                    rw [← hSN] at k1 hset
                    have hb0 := unhide H0 wm (unhide HW5 wm (unhide HW6 wm (unhide HFp)))
                    have d0 := kept hb0 k0
                    have d1 := kept hb0 k1
                    have hmi : (n : Int) < (EN : Int) := by omega
                    have hm0 : ¬ (n : Int) < 0 := by omega
                    have hSb : SN ≤ 16 := by rw [hSN]; exact (((unhide HSm).c x (unhide HXm)).2.2 c (unhide HCm)).2.2 em hemm
                    have hfe := (((unhide HFit).h x (unhide HXm)).2.2 c (unhide HCm)).2 em hemm
                    have b7 : Below wm.heap.size wm (wm.alloc (.cells #[sv em.type, .slice sa SN sc] 94)) := (Below.refl _ _).alloc (Nat.le_refl _) _
                    have hx7 : (wm.alloc (.cells #[sv em.type, .slice sa SN sc] 94)).heap[wm.heap.size]? = some (.cells #[sv em.type, .slice sa SN sc] 94 (0, 0)) := heap_alloc_new _ _
                    obtain ⟨w7, hw7⟩ : ∃ w7, w7 = wm.alloc (.cells #[sv em.type, .slice sa SN sc] 94) := ⟨_, rfl⟩
                    rw [← hw7] at b7 hx7
                    have HW7 := hide hw7
                    obtain ⟨q7, hq7⟩ : ∃ q7, q7 = wm.heap.size := ⟨_, rfl⟩
                    rw [← hq7] at hx7
                    have HQ7 := hide hq7
                    have HF7 := hide ((unhide HFp).trans (b7.mono (unhide HFp).size))
                    have x0 : w7.cell? ⟨q7, 0, none⟩ = some (sv em.type) := (cell_of_row _ _ _ _ _ _ hx7).trans rfl
                    have x1 : w7.cell? ⟨q7, 1, none⟩ = some (.slice sa SN sc) := (cell_of_row _ _ _ _ _ _ hx7).trans rfl
                    obtain ⟨NB, hNB⟩ : ∃ NB, NB = nameB em.type := ⟨_, rfl⟩
                    have HNB := hide hNB
                    have HC1 : Hid (Calls Tryz.prog 12 #[sv em.type] w7 fun e w' => e = .returned (.bool NB) ∧ w7 = w') := hide (by rw [hNB]; exact rName_any em.type w7 (by have := hfe.1; omega))
                    have HC2 := hide (rsetNames_any w0 sa SN sc em.sets hset hSb w7 (hb0.trans (b7.mono hb0.size)))
                    obtain ⟨AP2, hAP2⟩ : ∃ AP2, AP2 = apartT (em.sets.map (·.nm)) := ⟨_, rfl⟩
                    have HAP2 := hide hAP2
                    have HC3 : Hid (∀ (W : World) (ua : Option Addr) (un uc : Nat), SOwn W w7.heap.size (.slice ua un uc) (em.sets.map (·.nm)) → Calls Tryz.prog 69 #[.slice ua un uc] W fun e w' => e = .returned (.bool (!AP2)) ∧ Below W.heap.size W w') := hide (fun W ua un uc ho => by
                      rw [hAP2]
                      exact rtwice_any ua un uc _ W (sown_st ho) (fun s hs => by
                        obtain ⟨n, hn, rfl⟩ := List.mem_map.1 hs
                        have := hfe.2 n hn
                        unfold fitAs at this
                        omega) (by have := (sown_st ho).len'.1; rw [List.length_map] at this; omega))
                    have HE7 := hide (unhide HE1 _ (unhide HW5 _ (unhide HW6 _ (unhide HF7))))
                    clear hex hemm k0 k1 hset hSN hb0 hfe b7 hx7 hw7 hq7 hNB hAP2
                    go_upto_region 22 with fail
                    rw [show wm.alloc (.cells #[Value.string ⟨em.type.toArray⟩, .slice sa SN sc] 94) = w7 from (unhide HW7).symm]
                    rw [← unhide HQ7]
                    clear d0 d1 c2 y1 y2
                    cases NB with
                    | false =>
                      have HT : Hid (R = true) := hide (unhide HBad (fun h => by have := ((h.h x (unhide HXm)).2 c (unhide HCm) em (unhide HEmm)).1; rw [← unhide HNB] at this; cases this))
                      go_wp2_with (go_at_call 12; refine (unhide HC1).mono ?_; rintro e w8 ⟨rfl, rfl⟩)
                      go_ret
                      exact ⟨by rw [unhide HT]; rfl, unhide HE7⟩
                    | true =>
                      go_wp2_with fail
                      refine (unhide HC1).mono ?_
                      rintro e w8 ⟨rfl, rfl⟩
                      go_wp2_with fail
                      refine (unhide HC2).mono ?_
                      rintro e w8 ⟨v8, rfl, o8, b8⟩
                      obtain ⟨ua, un, uc, rfl⟩ := o8.sl
                      have HC4 := hide (unhide HC3 w8 ua un uc o8)
                      have HB8 := hide b8
                      clear o8 b8 x0 x1
                      cases AP2 with
                      | false =>
                        have HT : Hid (R = true) := hide (unhide HBad (fun h => by have := ((h.h x (unhide HXm)).2 c (unhide HCm) em (unhide HEmm)).2; rw [← unhide HAP2] at this; cases this))
                        go_wp2_with (go_at_call 69; refine (unhide HC4).mono ?_; rintro e w9 ⟨rfl, b9⟩; have HE9 := hide ((unhide HE7).trans (((unhide HB8).trans (b9.mono (unhide HB8).size)).mono (unhide HE7).size)); clear b9)
                        go_ret
                        exact ⟨by rw [unhide HT]; rfl, unhide HE9⟩
                      | true =>
                        have HM2 : Hid (∀ i, i < n + 1 → ∀ m : Em, c.emits[i]? = some m → goodEm m) := hide (all_next (unhide HEx) ⟨(unhide HNB).symm, (unhide HAP2).symm⟩ (unhide HM))
                        go_wp2_with (go_at_call 69; refine (unhide HC4).mono ?_; rintro e w9 ⟨rfl, b9⟩; have HF9 := hide ((unhide HF7).trans (((unhide HB8).trans (b9.mono (unhide HB8).size)).mono (unhide HF7).size)); clear b9)
                        go_roundw
                        case rel => exact ⟨n + 1, by omega, by go_num, HM2, HF9⟩
                        case measure => simp [intOf]; omega
                  · have hmi : ¬ (n : Int) < (EN : Int) := by omega
                    have HG : Hid (∀ m ∈ c.emits, goodEm m) := hide (all_to (unhide HEN) (by omega) (unhide HM))
                    have HJ2 : Hid (∀ i, i < j + 1 → ∀ c : Cs, x.cases[i]? = some c → ∀ m ∈ c.emits, goodEm m) := hide (all_next (p := fun c : Cs => ∀ m ∈ c.emits, goodEm m) (unhide HCx) (unhide HG) (unhide HJ))
                    go_wp2_with fail
                    go_roundw
                    case rel => exact ⟨j + 1, by omega, by go_num, HJ2, HFp⟩
                    case measure => simp [intOf]; omega
              · have hji : ¬ (j : Int) < (CN : Int) := by omega
                have HGx : Hid (goodNH x) := hide ⟨(unhide HAP).symm, all_to (p := fun c : Cs => ∀ m ∈ c.emits, goodEm m) (unhide HCN) (by omega) (unhide HJ)⟩
                have HA2 : Hid (∀ i, i < k + 1 → ∀ x, hs[i]? = some x → goodNH x) := hide (all_next (unhide HXe) (unhide HGx) (unhide HA))
                have HO7 : Hid (SOwn wp w1.heap.size (.slice ra5 rn5 rc5) ((hs.take (k + 1)).map (·.cmd))) := hide (by rw [unhide HX]; exact (unhide HO5).below (unhide HW6 _ (unhide HFp)) (Nat.le_refl _))
                have HF7 : Hid (Fr 9 w1.heap.size w1 wp) := hide ((unhide HF15).trans (Fr.of (unhide HW6 _ (unhide HFp)) (unhide HF15).bel.size))
                go_wp2_with fail
                go_roundw
                case rel => exact ⟨k + 1, _, _, _, by omega, by go_num, rfl, HO7, HA2, HF7⟩
                case measure => simp [intOf]; omega
    · have hki : ¬ (k : Int) < (nh : Int) := by omega
      have HOc : Hid (SOwn wr w1.heap.size (.slice ra rn rc) (hs.map (·.cmd))) := hide (by
        have := unhide HO
        rwa [List.take_of_length_le (by have := unhide HNh; omega)] at this)
      have HGh : Hid (∀ x ∈ hs, goodNH x) := hide (all_to (unhide HNh) (by omega) (unhide HA))
      have HW8 : Hid (∀ W, Below wr.heap.size wr W → Below w1.heap.size w1 W) := hide (fun W hW => (unhide HF).bel.trans (hW.mono (unhide HF).bel.size))
      have HO0 : Hid (SOwn wr wr.heap.size (.slice none 0 0) ((vs.take 0).map (·.type))) := hide (SOwn.nil _ _)
      have HF0 : Hid (Fr 9 wr.heap.size wr wr) := hide (Fr.refl _ _ _)
      clear HO HA
      go_wp2_with fail
      go_loopw [4, 13, 14, 15, 16] (fun v i _ _ _ W => ∃ (k : Nat) (la : Option Addr) (ln lc : Nat), k ≤ nv ∧ i = .int .i64 (k : Int) ∧ v = .slice la ln lc ∧ Hid (SOwn W wr.heap.size (.slice la ln lc) ((vs.take k).map (·.type))) ∧ Hid (∀ i, i < k → ∀ x, vs[i]? = some x → goodNV x) ∧ Hid (Fr 9 wr.heap.size wr W)) (fun _ i _ _ _ _ => nv - (intOf i).toNat)
      case atStart => exact ⟨0, none, 0, 0, by omega, rfl, rfl, HO0, hide (fun i h => by omega), HF0⟩
      case round =>
        clear HO0 HF0 r0 r1
        obtain ⟨m, la, ln, lc, hm, rfl, rfl, HO, HA, HFm⟩ := hrel
        rename World => wm
        obtain ⟨r0, r1⟩ := unhide HR wm (unhide HW8 wm (unhide HFm).bel)
        by_cases hmt : m < nv
        · obtain ⟨ev, hex⟩ := (unhide HVs).lt hmt
          have HEx := hide hex
          have hevm := List.mem_of_getElem? hex
          have HEvm := hide hevm
          have HVX : Hid ((vs.take (m + 1)).map (·.type) = (vs.take m).map (·.type) ++ [ev.type]) := hide (take_map (·.type) hex)
          have HP : Hid (((vs.take m).map (·.type)).length ≤ 32) := hide (by rw [List.length_map, List.length_take]; omega)
          obtain ⟨eb, eo, rfl, _, k0, ⟨sa, sc, k1, hset⟩, da, dc, k2, hdr⟩ := (unhide HVs).at hex
          obtain ⟨SN, hSN⟩ : ∃ SN, SN = ev.sets.length := ⟨_, rfl⟩
          obtain ⟨DN, hDN⟩ : ∃ DN, DN = ev.drops.length := ⟨_, rfl⟩
          rw [← hSN] at k1 hset
          rw [← hDN] at k2 hdr
          have hSb : SN ≤ 16 := by rw [hSN]; exact ((unhide HSm).e ev hevm).1
          have hDb : DN ≤ 16 := by rw [hDN]; exact ((unhide HSm).e ev hevm).2
          have hb0 := unhide H0 wm (unhide HW8 wm (unhide HFm).bel)
          have d0 := kept hb0 k0
          have hmi : (m : Int) < (nv : Int) := by omega
          have hm0 : ¬ (m : Int) < 0 := by omega
          have HK1 := hide k1
          have HK2 := hide k2
          have HSet := hide hset
          have HDr : Hid (StL w0 da DN dc ev.drops) := hide hdr
          have HSm8 := hide (unhide HFm).bel.size
          have HAL : Hid (Below wm.heap.size wm (wm.alloc (.cells #[sv ev.type] 9))) := hide ((Below.refl _ _).alloc (Nat.le_refl _) _)
          have HSN := hide hSN
          have HDN := hide hDN
          clear hex hevm k0 k1 k2 hset hdr hSN hDN hb0
          go_upto_region 29 with (at_builtin; refine wpList_append_sts rfl (.tmp 100) (.tmp 107) rfl wr.heap.size _ _ rfl ((unhide HO).below (unhide HAL) (Nat.le_refl _)) _ 1 1 [ev.type] rfl (stl_one wm ev.type) (by have := unhide HP; simp only [List.length_singleton]; omega) (by have := unhide HSm8; have := (unhide HAL).size; omega) ?_; intro v9 w9 o9 f9; obtain ⟨ta, tn, tc, rfl⟩ := o9.sl; have HO9 := hide o9; have HF9 := hide ((unhide HFm).trans ((Fr.of (unhide HAL) (unhide HSm8)).trans f9)); clear o9 f9)
          have HW9 : Hid (∀ W, Below w9.heap.size w9 W → Below w1.heap.size w1 W) := hide (fun W hW => unhide HW8 W ((unhide HF9).bel.trans (hW.mono (unhide HF9).bel.size)))
          have HSV : Hid (∀ V, Below w9.heap.size w9 V → V.cell? ⟨B, 1, none⟩ = some (.slice (some ⟨eb, eo, none⟩) nv vc) ∧ V.cell? ⟨eb, eo + m * 3 + 1, none⟩ = some (.slice sa SN sc) ∧ V.cell? ⟨eb, eo + m * 3 + 2, none⟩ = some (.slice da DN dc)) := hide (fun V hV => by
            have h1 := unhide HW9 V hV
            exact ⟨(unhide HR V h1).2, kept (unhide H0 V h1) (unhide HK1), kept (unhide H0 V h1) (unhide HK2)⟩)
          have bD : Below w9.heap.size w9 w9.drew := (Below.refl _ _).drew
          have S0 := hide (unhide HSV _ (Below.refl _ _))
          have SD := hide (unhide HSV _ bD)
          have HC : Hid (Calls Tryz.prog 70 #[.slice sa SN sc] w9.drew fun e w' => ∃ v, e = .returned v ∧ SOwn w' w9.heap.size v (ev.sets.map (·.nm)) ∧ Below w9.heap.size w9.drew w') := hide (rsetNames_any w0 sa SN sc ev.sets (unhide HSet) hSb w9.drew (unhide H0 _ (unhide HW9 _ bD)))
          have HStl : Hid (∀ W, Below w9.heap.size w9 W → StL W da DN dc ev.drops) := hide (fun W hW => (unhide HDr).grown (unhide H0 _ (unhide HW9 _ hW)))
          have HLen : Hid ((ev.sets.map (·.nm)).length + ev.drops.length ≤ 1000000) := hide (by rw [List.length_map]; have := unhide HSN; have := unhide HDN; omega)
          have BD := hide bD
          clear bD d0 r0 r1 HAL HO
          go_region_held3 (fun V => V.cell? ⟨B, 1, none⟩ = some (.slice (some ⟨eb, eo, none⟩) nv vc) ∧ V.cell? ⟨eb, eo + m * 3 + 1, none⟩ = some (.slice sa SN sc) ∧ V.cell? ⟨eb, eo + m * 3 + 2, none⟩ = some (.slice da DN dc))
            (first | with_reducible exact unhide S0 | with_reducible exact unhide SD | with_reducible exact unhide S7 | with_reducible exact unhide S8)
            ((first
              | (go_at_call 70; refine (unhide HC).mono ?_; rintro e w10 ⟨v10, rfl, o10, b10⟩; obtain ⟨ua, un, uc, rfl⟩ := o10.sl; have HB10 := hide ((unhide BD).trans b10); have S7 := hide (unhide HSV _ (unhide HB10)); have HO10 := hide o10; clear o10 b10)
              | (refine step_append_sts rfl (.tmp 115) (.tmp 121) rfl w9.heap.size _ _ rfl (unhide HO10) da DN dc ev.drops rfl (unhide HStl _ (unhide HB10)) (unhide HLen) (unhide HB10).size ?_; intro v11 w11 o11 f11; obtain ⟨ua2, un2, uc2, rfl⟩ := o11.sl; have HB11 := hide ((unhide HB10).trans f11.bel); have S8 := hide (unhide HSV _ (unhide HB11)); have HO11 := hide o11; clear o11 f11)))
          obtain ⟨L, hL⟩ : ∃ L, L = ev.sets.map (·.nm) ++ ev.drops := ⟨_, rfl⟩
          rw [← hL] at HO11
          have HLe := hide hL
          have hst := sown_st (unhide HO11)
          have HSt := hide hst
          have HUn := hide hst.len'.1
          have hunm : un2 ≤ 9223372036854775807 := by have := hst.len'; omega
          have HLs : Hid (∀ s ∈ L, s.length ≤ 9223372036854775807) := hide (fun s hs => by
            rw [unhide HLe] at hs
            have hf := (unhide HFit).v ev (unhide HEvm)
            rcases List.mem_append.1 hs with hs | hs
            · obtain ⟨a, ha, rfl⟩ := List.mem_map.1 hs
              have := hf.2.1 a ha
              unfold fitAs at this
              omega
            · have := hf.2.2 s hs
              omega)
          have HFs : Hid (Below w11.heap.size w11 w11) := hide (Below.refl _ _)
          clear hL hst S0 SD S7 S8 HC HO10
          go_wp2_with fail
          go_loopw [15, 16] (fun i _ W => ∃ (j : Nat), j ≤ un2 ∧ i = .int .i64 (j : Int) ∧ Hid (∀ i, i < j → ∀ s, L[i]? = some s → nameB s = true) ∧ Hid (Below w11.heap.size w11 W)) (fun i _ _ => un2 - (intOf i).toNat)
          case atStart => exact ⟨0, by omega, rfl, hide (fun i h => by omega), HFs⟩
          case round =>
            clear HFs
            obtain ⟨j, hj, rfl, HJ, HFs⟩ := hrel
            rename World => wj
            have HBj := hide ((unhide HB11).trans ((unhide HFs).mono (unhide HB11).size))
            by_cases hjt : j < un2
            · have hjl : j < L.length := by have := unhide HUn; omega
              obtain ⟨s, hs⟩ : ∃ s, L[j]? = some s := ⟨_, List.getElem?_eq_getElem hjl⟩
              have hsm := List.mem_of_getElem? hs
              obtain ⟨b, off, rfl, c0⟩ := ((unhide HSt).grown (unhide HFs)).get hs
              obtain ⟨NB, hNB⟩ : ∃ NB, NB = nameB s := ⟨_, rfl⟩
              have HC1 : Hid (Calls Tryz.prog 12 #[sv s] wj fun e w' => e = .returned (.bool NB) ∧ wj = w') := hide (by rw [hNB]; exact rName_any s wj (unhide HLs s hsm))
              have hji : (j : Int) < (un2 : Int) := by omega
              have hj0 : ¬ (j : Int) < 0 := by omega
              have HT : Hid (NB = false → R = true) := hide (fun e => unhide HBad (fun h => by
                obtain ⟨q1, q2⟩ := h.v ev (unhide HEvm)
                rw [unhide HLe] at hsm
                have hn : nameB s = true := by
                  rcases List.mem_append.1 hsm with hs | hs
                  · obtain ⟨a, ha, rfl⟩ := List.mem_map.1 hs; exact q1 a ha
                  · exact q2 s hs
                rw [← hNB, e] at hn
                cases hn))
              have HJ2 : Hid (NB = true → ∀ i, i < j + 1 → ∀ s, L[i]? = some s → nameB s = true) := hide (fun e => all_next (p := fun s => nameB s = true) hs (by rw [← hNB]; exact e) (unhide HJ))
              have HEj := hide (unhide HE1 _ (unhide HW9 _ (unhide HBj)))
              clear hs hsm hNB hjl
              cases NB with
              | false =>
                have HX := hide (unhide HT rfl)
                go_wp2_with (go_at_call 12; refine (unhide HC1).mono ?_; rintro e w12 ⟨rfl, rfl⟩)
                go_ret
                exact ⟨by rw [unhide HX]; rfl, unhide HEj⟩
              | true =>
                have HJ3 := hide (unhide HJ2 rfl)
                go_wp2_with (go_at_call 12; refine (unhide HC1).mono ?_; rintro e w12 ⟨rfl, rfl⟩)
                go_roundw
                case rel => exact ⟨j + 1, by omega, by go_num, HJ3, HFs⟩
                case measure => simp [intOf]; omega
            · have hji : ¬ (j : Int) < (un2 : Int) := by omega
              have HG : Hid (goodNV ev) := hide (by
                have hall := all_to (p := fun s => nameB s = true) (unhide HUn) (by omega) (unhide HJ)
                rw [unhide HLe] at hall
                exact ⟨fun a ha => hall a.nm (List.mem_append_left _ (List.mem_map_of_mem ha)), fun d hd => hall d (List.mem_append_right _ hd)⟩)
              have HA2 : Hid (∀ i, i < m + 1 → ∀ x, vs[i]? = some x → goodNV x) := hide (all_next (unhide HEx) (unhide HG) (unhide HA))
              have HO12 : Hid (SOwn wj wr.heap.size (.slice ta tn tc) ((vs.take (m + 1)).map (·.type))) := hide (by rw [unhide HVX]; exact (unhide HO9).below (unhide HBj) (Nat.le_refl _))
              have HF12 : Hid (Fr 9 wr.heap.size wr wj) := hide ((unhide HF9).trans (Fr.of (unhide HBj) (unhide HF9).bel.size))
              go_wp2_with fail
              go_roundw
              case rel => exact ⟨m + 1, _, _, _, by omega, by go_num, rfl, HO12, HA2, HF12⟩
              case measure => simp [intOf]; omega
        · have hmi : ¬ (m : Int) < (nv : Int) := by omega
          have HGv : Hid (∀ x ∈ vs, goodNV x) := hide (all_to (unhide HNv) (by omega) (unhide HA))
          have hsc : SOwn wm w1.heap.size (.slice ra rn rc) (hs.map (·.cmd)) := (unhide HOc).below (unhide HFm).bel (Nat.le_refl _)
          have hst : SOwn wm wr.heap.size (.slice la ln lc) (vs.map (·.type)) := by
            have := unhide HO
            rwa [List.take_of_length_le (by have := unhide HNv; omega)] at this
          obtain ⟨AP1, hAP1⟩ : ∃ AP1, AP1 = apartT (hs.map (·.cmd)) := ⟨_, rfl⟩
          obtain ⟨AP2, hAP2⟩ : ∃ AP2, AP2 = apartT (vs.map (·.type)) := ⟨_, rfl⟩
          have HAP1 := hide hAP1
          have HAP2 := hide hAP2
          have HC1 : Hid (Calls Tryz.prog 69 #[.slice ra rn rc] wm fun e w' => e = .returned (.bool (!AP1)) ∧ Below wm.heap.size wm w') := hide (by
            rw [hAP1]
            exact rtwice_any ra rn rc _ wm (sown_st hsc) (fun s hs => by
              obtain ⟨n, hn, rfl⟩ := List.mem_map.1 hs
              have := ((unhide HFit).h n hn).1
              omega) (by have := (sown_st hsc).len'.1; rw [List.length_map] at this; have := unhide HNh; omega))
          have HC2 : Hid (∀ W, Below wm.heap.size wm W → Calls Tryz.prog 69 #[.slice la ln lc] W fun e w' => e = .returned (.bool (!AP2)) ∧ Below W.heap.size W w') := hide (fun W hW => by
            rw [hAP2]
            exact rtwice_any la ln lc _ W (sown_st (hst.below hW (Nat.le_refl _))) (fun s hs => by
              obtain ⟨n, hn, rfl⟩ := List.mem_map.1 hs
              have := ((unhide HFit).v n hn).1
              omega) (by have := (sown_st hst).len'.1; rw [List.length_map] at this; have := unhide HNv; omega))
          have HWm := hide (unhide HW8 wm (unhide HFm).bel)
          clear hsc hst hAP1 hAP2 HO HA HOc
          cases AP1 with
          | false =>
            have HT : Hid (R = true) := hide (unhide HBad (fun h => by have := h.cmds; rw [← unhide HAP1] at this; cases this))
            go_wp2_with (go_at_call 69; refine (unhide HC1).mono ?_; rintro e w6 ⟨rfl, b6⟩; have HE6 := hide (unhide HE1 _ ((unhide HWm).trans (b6.mono (unhide HWm).size))); clear b6)
            go_ret
            exact ⟨by rw [unhide HT]; rfl, unhide HE6⟩
          | true =>
            go_wp2_with fail
            refine (unhide HC1).mono ?_
            rintro e w6 ⟨rfl, b6⟩
            have HC3 := hide (unhide HC2 w6 b6)
            have HW6 := hide ((unhide HWm).trans (b6.mono (unhide HWm).size))
            clear b6 HC1 HC2 r0 r1
            cases AP2 with
            | false =>
              have HT : Hid (R = true) := hide (unhide HBad (fun h => by have := h.types; rw [← unhide HAP2] at this; cases this))
              go_wp2_with (go_at_call 69; refine (unhide HC3).mono ?_; rintro e w7 ⟨rfl, b7⟩; have HE7 := hide (unhide HE1 _ ((unhide HW6).trans (b7.mono (unhide HW6).size))); clear b7)
              go_ret
              exact ⟨by rw [unhide HT]; rfl, unhide HE7⟩
            | true =>
              go_upto_region 38 with (go_at_call 69; refine (unhide HC3).mono ?_; rintro e w7 ⟨rfl, b7⟩; have HW7 := hide ((unhide HW6).trans (b7.mono (unhide HW6).size)); clear b7)
              obtain ⟨r0, r1⟩ := unhide HR w7 (unhide HW7)
              have HC := hide (rexprs_any w0 ha nh hc hs va nv vc vs (unhide HHs) (unhide HVs) (unhide HSm) w7 (unhide H0 w7 (unhide HW7)))
              have HGd : Hid ((∀ y ∈ exprsD hs vs, badNameX y = false) → GoodN hs vs) := hide (fun h => ⟨(unhide HAP1).symm, (unhide HAP2).symm, unhide HGh, unhide HGv, h⟩)
              obtain ⟨L, hL⟩ : ∃ L, L = exprsD hs vs := ⟨_, rfl⟩
              have HLe := hide hL
              rw [← hL] at HC HGd HMany
              clear hL
              go_upto_region 39 with (go_at_call 22; refine (unhide HC).mono ?_; rintro e w8 ⟨v8, rfl, o8, b8⟩; obtain ⟨xa, xc, rfl, hl8⟩ := o8.exl; obtain ⟨xn, hxn⟩ : ∃ xn, xn = L.length := ⟨_, rfl⟩; have HLn := hide hxn; rw [← hxn] at hl8 ⊢; have HLx := hide hl8; have HW8' := hide ((unhide HW7).trans (b8.mono (unhide HW7).size)); clear o8 b8 hxn hl8)
              have hlnb : xn ≤ 9223372036854775807 := by obtain ⟨ds, _, _, e, h1, h2, _⟩ := unhide HLx; omega
              have HFs : Hid (Below w8.heap.size w8 w8) := hide (Below.refl _ _)
              clear r0 r1 HC
              go_wp2_with fail
              go_loopw [18, 19] (fun i _ W => ∃ (k : Nat), k ≤ xn ∧ i = .int .i64 (k : Int) ∧ Hid (∀ i, i < k → ∀ x, L[i]? = some x → badNameX x = false) ∧ Hid (Below w8.heap.size w8 W)) (fun i _ _ => xn - (intOf i).toNat)
              case atStart => exact ⟨0, by omega, rfl, hide (fun i h => by omega), HFs⟩
              case round =>
                clear HFs
                obtain ⟨u, hu, rfl, HU, HFs⟩ := hrel
                rename World => wu
                have HWu := hide ((unhide HW8').trans ((unhide HFs).mono (unhide HW8').size))
                have HEw := hide (unhide HE1 wu (unhide HWu))
                by_cases hut : u < xn
                · obtain ⟨y, hy⟩ : ∃ y, L[u]? = some y := ⟨_, List.getElem?_eq_getElem (by have := unhide HLn; omega)⟩
                  have hym := List.mem_of_getElem? hy
                  obtain ⟨yb, yo, ya, yc, rfl, y0, y1, y2, y3, hat⟩ := ((unhide HLx).grown (unhide HFs)).get hy
                  obtain ⟨Q, hQ⟩ : ∃ Q, Q = allX okN y := ⟨_, rfl⟩
                  have HC : Hid (Calls Tryz.prog 71 #[.agg (exV y ya yc)] wu fun e w' => e = .returned (.bool Q) ∧ Below wu.heap.size wu w') := hide (by rw [hQ]; exact rnamed_any hat wu (unhide H0 wu (unhide HWu)))
                  have hui : (u : Int) < (xn : Int) := by omega
                  have hu0 : ¬ (u : Int) < 0 := by omega
                  have hbn := badName_iff (unhide HMany y hym)
                  rw [← hQ] at hbn
                  have HU2 : Hid (Q = true → ∀ i, i < u + 1 → ∀ x, L[i]? = some x → badNameX x = false) := hide (fun h => all_next (p := fun x => badNameX x = false) hy (hbn.2 h) (unhide HU))
                  have HT : Hid (Q = false → R = true) := hide (fun h => unhide HBad (fun g => by
                    have := hbn.1 (g.e y (by rw [← unhide HLe]; exact hym))
                    rw [h] at this
                    cases this))
                  obtain ⟨M, hM⟩ : ∃ M, M = y.args.length := ⟨_, rfl⟩
                  rw [show exV y ya yc = #[.int .i64 y.kind, .int .i64 y.n, sv y.s, .slice ya M yc] by rw [hM]] at HC
                  rw [← hM] at y3
                  clear hy hym hat hQ hM hbn
                  cases Q with
                  | false =>
                    have HX := hide (unhide HT rfl)
                    go_wp2_with (go_at_call 71; refine (unhide HC).mono ?_; rintro e w9 ⟨rfl, b9⟩; have HE9 := hide ((unhide HEw).trans (b9.mono (unhide HEw).size)); clear b9)
                    go_ret
                    exact ⟨by rw [unhide HX]; rfl, unhide HE9⟩
                  | true =>
                    have HU3 := hide (unhide HU2 rfl)
                    go_wp2_with (go_at_call 71; refine (unhide HC).mono ?_; rintro e w9 ⟨rfl, b9⟩; have HF9 := hide ((unhide HFs).trans (b9.mono (unhide HFs).size)); clear b9)
                    go_roundw
                    case rel => exact ⟨u + 1, by omega, by go_num, HU3, HF9⟩
                    case measure => simp [intOf]; omega
                · have hui : ¬ (u : Int) < (xn : Int) := by omega
                  have HX : Hid (R = false) := hide (unhide HGood (unhide HGd (all_to (p := fun y => badNameX y = false) (unhide HLn) (by omega) (unhide HU))))
                  go_wp2_with fail
                  go_ret
                  exact ⟨by rw [unhide HX]; rfl, unhide HEw⟩
end Go.Proofs.YtingpmgpjmlioaaGreatDoor

namespace Go.Proofs.YtingpmgpjmlioaaGreatDoor
open Go.RowKit
set_option linter.unusedVariables false

theorem shr_all : ∀ (k : Nat) (x : Ex), SizeOf.sizeOf x ≤ k → shrX x = allX shortX x := by
  intro k
  induction k with
  | zero => intro x hx; cases x; simp only [Ex.mk.sizeOf_spec] at hx; omega
  | succ k ih =>
    intro x hx
    have hl : ∀ l : List Ex, (∀ y ∈ l, SizeOf.sizeOf y ≤ k) → shrL l = allXL shortX l := by
      intro l
      induction l with
      | nil => intro _; rw [shrL_nil, allXL]
      | cons y r ihr =>
        intro h
        rw [shrL_cons, allXL_cons, ih y (h y (by simp)), ihr (fun z hz => h z (by simp [hz]))]
    rw [shrX_eq, allX_eq, hl x.args (fun y hy => by have := args_lt hy; omega)]
theorem any_short (l : List Ex) : l.any (fun x => decide (x.kind = 2) && decide (200 < x.s.length)) = !l.all shortX := by
  induction l with
  | nil => rfl
  | cons x r ih =>
    rw [List.any_cons, List.all_cons, ih]
    unfold shortX
    generalize (decide (x.kind = 2) && decide (200 < x.s.length)) = b
    generalize r.all _ = c
    cases b <;> cases c <;> rfl
theorem badForm_eq {y : Ex} (h : manyX y = false) : badFormX y = (!frmX y || !shrX y) := by
  have hl : (nodesX y).length ≤ 64 := by unfold manyX at h; have := of_decide_eq_false h; omega
  have hs : shrX y = (nodesX y).all shortX := by
    rw [shr_all _ y (Nat.le_refl _), Bool.eq_iff_iff]
    exact (nodes_all shortX hl).symm
  have hf : formX y = frmX y := by rw [formX_eq, h, Bool.not_false, Bool.true_and]
  have hb : badFormX y = (!formX y || (nodesX y).any (fun x => decide (x.kind = 2) && decide (200 < x.s.length))) := by unfold badFormX; rfl
  rw [hb, hf, any_short, hs]
def goodC2 (c : Cs) : Prop := badCase c = false ∧ ∀ d ∈ c.whn, badCond d = false
structure GoodF (hs : List Ha) (vs : List Evo) : Prop where
  c : ∀ x ∈ hs, ∀ c ∈ x.cases, goodC2 c
  e : ∀ y ∈ exprsD hs vs, badFormX y = false
theorem misformed_good {hs : List Ha} {vs : List Evo} (h : GoodF hs vs) : misformedR hs vs = false := by
  unfold misformedR
  rw [any_exprs]
  have e1 : (casesP hs).any badCase = false := List.any_eq_false.2 (fun c hc => by
    obtain ⟨x, hx, hc⟩ := List.mem_flatMap.1 hc
    rw [(h.c x hx c hc).1]; simp)
  have e2 : (condsP hs).any badCond = false := List.any_eq_false.2 (fun d hd => by
    obtain ⟨c, hc, hd⟩ := List.mem_flatMap.1 hd
    obtain ⟨x, hx, hc⟩ := List.mem_flatMap.1 hc
    rw [(h.c x hx c hc).2 d hd]; simp)
  have e3 : (exprsD hs vs).any badFormX = false := List.any_eq_false.2 (fun y hy => by rw [h.e y hy]; simp)
  rw [e1, e2, e3]
  rfl
theorem misformed_bad {hs : List Ha} {vs : List Evo} (h : ¬ GoodF hs vs) : misformedR hs vs = true := by
  cases hR : misformedR hs vs with
  | true => rfl
  | false =>
    exfalso
    apply h
    unfold misformedR at hR
    rw [any_exprs] at hR
    simp only [Bool.or_eq_false_iff, List.any_eq_false] at hR
    obtain ⟨⟨n1, n2⟩, n3⟩ := hR
    refine ⟨fun x hx c hc => ?_, fun y hy => by simpa using n3 y hy⟩
    have hcP : c ∈ casesP hs := List.mem_flatMap.2 ⟨x, hx, hc⟩
    exact ⟨by simpa using n1 c hcP, fun d hd => by simpa using n2 d (List.mem_flatMap.2 ⟨c, hcP, hd⟩)⟩
theorem small_of {hs : List Ha} {vs : List Evo} (h : tooManyR hs vs = false) : SmT hs vs ∧ ∀ y ∈ exprsD hs vs, manyX y = false := by
  have h1 : SmT hs vs := by
    by_cases q : SmT hs vs
    · exact q
    · rw [tooMany_big q] at h; cases h
  refine ⟨h1, fun y hy => ?_⟩
  rw [tooMany_small h1, List.any_eq_false] at h
  simpa using h y hy

set_option maxRecDepth 20000 in
set_option maxHeartbeats 32000000 in
theorem ruCheck_any (w0 : World) (ha : Option Addr) (nh hc : Nat) (hs : List Ha) (va : Option Addr) (nv vc : Nat) (vs : List Evo) (hH : SlOf 3 HaAt w0 (.slice ha nh hc) hs) (hV : SlOf 3 EvoAt w0 (.slice va nv vc) vs) (hfit : FitT hs vs) (w : World) (hw : Below w0.heap.size w0 w) :
    Calls Tryz.prog 8 #[.agg #[.slice ha nh hc, .slice va nv vc]] w fun e w' => e = .returned (.int .i64 (checkT hs vs)) ∧ Below w.heap.size w w' := by
  have hnh := hH.len.1
  have hb1 : Below w.heap.size w (w.alloc (.cells #[.slice ha nh hc, .slice va nv vc] 25)) := (Below.refl _ _).alloc (Nat.le_refl _) _
  have hx1 : (w.alloc (.cells #[.slice ha nh hc, .slice va nv vc] 25)).heap[w.heap.size]? = some (.cells #[.slice ha nh hc, .slice va nv vc] 25 (0, 0)) := heap_alloc_new _ _
  obtain ⟨w1, hw1⟩ : ∃ w1, w1 = w.alloc (.cells #[.slice ha nh hc, .slice va nv vc] 25) := ⟨_, rfl⟩
  rw [← hw1] at hb1 hx1
  obtain ⟨B, hB⟩ : ∃ B, B = w.heap.size := ⟨_, rfl⟩
  rw [← hB] at hx1
  have HW := hide hw1
  have HB := hide hB
  have HE1 : Hid (∀ W, Below w1.heap.size w1 W → Below w.heap.size w W) := hide (fun W hW => hb1.trans (hW.mono hb1.size))
  have HR : Hid (∀ W, Below w1.heap.size w1 W → W.cell? ⟨B, 0, none⟩ = some (.slice ha nh hc) ∧ W.cell? ⟨B, 1, none⟩ = some (.slice va nv vc)) := hide (fun W hW => ⟨kept hW ((cell_of_row _ _ _ _ _ _ hx1).trans rfl), kept hW ((cell_of_row _ _ _ _ _ _ hx1).trans rfl)⟩)
  have H0 : Hid (∀ W, Below w1.heap.size w1 W → Below w0.heap.size w0 W) := hide (fun W hW => hw.trans ((hb1.trans (hW.mono hb1.size)).mono hw.size))
  obtain ⟨R, hRe⟩ : ∃ R, R = checkT hs vs := ⟨_, rfl⟩
  rw [← hRe]
  obtain ⟨T1, hT1⟩ : ∃ T1, T1 = tooManyR hs vs := ⟨_, rfl⟩
  obtain ⟨T2, hT2⟩ : ∃ T2, T2 = misnamedR hs vs := ⟨_, rfl⟩
  have HRe : Hid (R = if T1 then 130 else if T2 then 131 else if misformedR hs vs then 132 else 0) := hide (by rw [hRe, hT1, hT2]; rfl)
  have HHs := hide hH
  have HVs := hide hV
  have HFit := hide hfit
  have HNh := hide hnh
  have HF0 : Hid (Below w1.heap.size w1 w1) := hide (Below.refl _ _)
  have HC1 : Hid (Calls Tryz.prog 20 #[.agg #[.slice ha nh hc, .slice va nv vc]] w1 fun e w' => e = .returned (.bool T1) ∧ Below w1.heap.size w1 w') := hide (by rw [hT1]; exact rtooMany_any w0 ha nh hc hs va nv vc vs hH hV w1 (unhide H0 w1 (unhide HF0)))
  have HT1 := hide hT1
  have HT2 := hide hT2
  have hnm : nh ≤ 9223372036854775807 := by have := hH.len; omega
  clear hw1 hb1 hx1 hB hH hV hfit hnh hw hRe hT1 hT2
  go_enter Tryz.func8, Tryz.ntmps8
  go_upto_region 1 with fail
  rw [show w.alloc (.cells #[Value.slice ha nh hc, .slice va nv vc] 25) = w1 from (unhide HW).symm]
  rw [← unhide HB]
  obtain ⟨r0, r1⟩ := unhide HR w1 (unhide HF0)
  cases T1 with
  | true =>
    have HX : Hid (R = 130) := hide (by rw [unhide HRe]; rfl)
    go_wp2_with (go_at_call 20; refine (unhide HC1).mono ?_; rintro e w2 ⟨rfl, b2⟩; have HE2 := hide (unhide HE1 _ b2); clear b2)
    go_ret
    exact ⟨by rw [unhide HX]; rfl, unhide HE2⟩
  | false =>
  have HRe2 : Hid (R = if T2 then 131 else if misformedR hs vs then 132 else 0) := hide (by rw [unhide HRe]; rfl)
  have HSm := hide (small_of (unhide HT1).symm).1
  have HMany := hide (small_of (unhide HT1).symm).2
  clear HRe HT1
  go_upto_region 3 with (go_at_call 20; refine (unhide HC1).mono ?_; rintro e w2 ⟨rfl, b2⟩; have HW2 := hide b2; clear b2)
  have HC2 : Hid (Calls Tryz.prog 21 #[.agg #[.slice ha nh hc, .slice va nv vc]] w2 fun e w' => e = .returned (.bool T2) ∧ Below w2.heap.size w2 w') := hide (by rw [unhide HT2]; exact rbadNames_any w0 ha nh hc hs va nv vc vs (unhide HHs) (unhide HVs) (unhide HSm) (unhide HFit) (unhide HMany) w2 (unhide H0 w2 (unhide HW2)))
  clear r0 r1 HC1
  obtain ⟨r0, r1⟩ := unhide HR w2 (unhide HW2)
  cases T2 with
  | true =>
    have HX : Hid (R = 131) := hide (by rw [unhide HRe2]; rfl)
    go_wp2_with (go_at_call 21; refine (unhide HC2).mono ?_; rintro e w3 ⟨rfl, b3⟩; have HE3 := hide (unhide HE1 _ ((unhide HW2).trans (b3.mono (unhide HW2).size))); clear b3)
    go_ret
    exact ⟨by rw [unhide HX]; rfl, unhide HE3⟩
  | false =>
  have HBad : Hid (¬ GoodF hs vs → R = 132) := hide (fun h => by rw [unhide HRe2, misformed_bad h]; rfl)
  have HGood : Hid (GoodF hs vs → R = 0) := hide (fun h => by rw [unhide HRe2, misformed_good h]; rfl)
  clear HRe2 HT2
  go_upto_region 5 with (go_at_call 21; refine (unhide HC2).mono ?_; rintro e w3 ⟨rfl, b3⟩; have HW3 := hide ((unhide HW2).trans (b3.mono (unhide HW2).size)); clear b3)
  clear r0 r1 HC2
  obtain ⟨r0, r1⟩ := unhide HR w3 (unhide HW3)
  have HC := hide (rexprs_any w0 ha nh hc hs va nv vc vs (unhide HHs) (unhide HVs) (unhide HSm) w3 (unhide H0 w3 (unhide HW3)))
  obtain ⟨L, hL⟩ : ∃ L, L = exprsD hs vs := ⟨_, rfl⟩
  have HLe := hide hL
  rw [← hL] at HC HMany
  clear hL
  go_upto_region 6 with (go_at_call 22; refine (unhide HC).mono ?_; rintro e w8 ⟨v8, rfl, o8, b8⟩; obtain ⟨xa, xc, rfl, hl8⟩ := o8.exl; obtain ⟨xn, hxn⟩ : ∃ xn, xn = L.length := ⟨_, rfl⟩; have HLn := hide hxn; rw [← hxn] at hl8 ⊢; have HLx := hide hl8; have HW8 := hide ((unhide HW3).trans (b8.mono (unhide HW3).size)); clear o8 b8 hxn hl8)
  have hlnb : xn ≤ 9223372036854775807 := by obtain ⟨ds, _, _, e, h1, h2, _⟩ := unhide HLx; omega
  have HFs : Hid (Below w8.heap.size w8 w8) := hide (Below.refl _ _)
  clear r0 r1 HC
  go_wp2_with fail
  go_loopw [4, 5, 6] (fun i _ _ W => ∃ (k : Nat), k ≤ xn ∧ i = .int .i64 (k : Int) ∧ Hid (∀ i, i < k → ∀ x, L[i]? = some x → badFormX x = false) ∧ Hid (Below w8.heap.size w8 W)) (fun i _ _ _ => xn - (intOf i).toNat)
  case atStart => exact ⟨0, by omega, rfl, hide (fun i h => by omega), HFs⟩
  case round =>
    clear HFs
    obtain ⟨u, hu, rfl, HU, HFs⟩ := hrel
    rename World => wu
    have HWu := hide ((unhide HW8).trans ((unhide HFs).mono (unhide HW8).size))
    have HEw := hide (unhide HE1 wu (unhide HWu))
    by_cases hut : u < xn
    · obtain ⟨y, hy⟩ : ∃ y, L[u]? = some y := ⟨_, List.getElem?_eq_getElem (by have := unhide HLn; omega)⟩
      have hym := List.mem_of_getElem? hy
      obtain ⟨yb, yo, ya, yc, rfl, y0, y1, y2, y3, hat⟩ := ((unhide HLx).grown (unhide HFs)).get hy
      obtain ⟨Q1, hQ1⟩ : ∃ Q1, Q1 = frmX y := ⟨_, rfl⟩
      obtain ⟨Q2, hQ2⟩ : ∃ Q2, Q2 = shrX y := ⟨_, rfl⟩
      obtain ⟨M, hM⟩ : ∃ M, M = y.args.length := ⟨_, rfl⟩
      have HC1 : Hid (Calls Tryz.prog 23 #[.agg (exV y ya yc)] wu fun e w' => e = .returned (.bool Q1) ∧ Below wu.heap.size wu w') := hide (by rw [hQ1]; exact rFormed_any hat wu (unhide H0 wu (unhide HWu)))
      have HC2 : Hid (∀ W, Below wu.heap.size wu W → Calls Tryz.prog 24 #[.agg (exV y ya yc)] W fun e w' => e = .returned (.bool Q2) ∧ Below W.heap.size W w') := hide (fun W hW => by rw [hQ2]; exact rshort_any hat W (unhide H0 W ((unhide HWu).trans (hW.mono (unhide HWu).size))))
      have hui : (u : Int) < (xn : Int) := by omega
      have hu0 : ¬ (u : Int) < 0 := by omega
      have hbf := badForm_eq (unhide HMany y hym)
      rw [← hQ1, ← hQ2] at hbf
      have HU2 : Hid (Q1 = true → Q2 = true → ∀ i, i < u + 1 → ∀ x, L[i]? = some x → badFormX x = false) := hide (fun h1 h2 => all_next (p := fun x => badFormX x = false) hy (by rw [hbf, h1, h2]; rfl) (unhide HU))
      have HT : Hid ((!Q1 || !Q2) = true → R = 132) := hide (fun h => unhide HBad (fun g => by
        have := g.e y (by rw [← unhide HLe]; exact hym)
        rw [hbf, h] at this
        cases this))
      have HYc : Hid (∀ W, Below wu.heap.size wu W → W.cell? ⟨yb, yo + u * 4, none⟩ = some (.int .i64 y.kind) ∧ W.cell? ⟨yb, yo + u * 4 + 1, none⟩ = some (.int .i64 y.n) ∧ W.cell? ⟨yb, yo + u * 4 + 2, none⟩ = some (sv y.s) ∧ W.cell? ⟨yb, yo + u * 4 + 3, none⟩ = some (.slice ya M yc)) := hide (fun W hW => ⟨kept hW y0, kept hW y1, kept hW y2, by rw [hM]; exact kept hW y3⟩)
      rw [show exV y ya yc = #[.int .i64 y.kind, .int .i64 y.n, sv y.s, .slice ya M yc] by rw [hM]] at HC1 HC2
      rw [← hM] at y3
      clear hy hym hat hQ1 hQ2 hM hbf
      go_wp2_with fail
      refine (unhide HC1).mono ?_
      rintro e w9 ⟨rfl, b9⟩
      have HC3 := hide (unhide HC2 w9 b9)
      have HF9 := hide ((unhide HFs).trans (b9.mono (unhide HFs).size))
      have HE9 := hide ((unhide HEw).trans (b9.mono (unhide HEw).size))
      clear y0 y1 y2 y3
      obtain ⟨y0, y1, y2, y3⟩ := unhide HYc w9 b9
      clear b9 HC1 HC2
      go_wp2_with fail
      refine (unhide HC3).mono ?_
      rintro e w10 ⟨rfl, b10⟩
      have HF10 := hide ((unhide HF9).trans (b10.mono (unhide HF9).size))
      have HE10 := hide ((unhide HE9).trans (b10.mono (unhide HE9).size))
      clear b10 y0 y1 y2 y3 HC3 HYc
      cases Q1 with
      | false =>
        have HX := hide (unhide HT (by cases Q2 <;> rfl))
        go_wp2_with fail
        go_ret
        exact ⟨by rw [unhide HX]; rfl, unhide HE10⟩
      | true =>
        cases Q2 with
        | false =>
          have HX := hide (unhide HT rfl)
          go_wp2_with fail
          go_ret
          exact ⟨by rw [unhide HX]; rfl, unhide HE10⟩
        | true =>
          have HU3 := hide (unhide HU2 rfl rfl)
          go_wp2_with fail
          go_roundw
          case rel => exact ⟨u + 1, by omega, by go_num, HU3, HF10⟩
          case measure => simp [intOf]; omega
    · have hui : ¬ (u : Int) < (xn : Int) := by omega
      have HGe : Hid (∀ y ∈ exprsD hs vs, badFormX y = false) := hide (by rw [← unhide HLe]; exact all_to (p := fun y => badFormX y = false) (unhide HLn) (by omega) (unhide HU))
      clear HU HLx HEw
      go_wp2_with fail
      clear HFs
      go_loopw [7, 8, 9, 10, 11] (fun i _ _ _ _ W => ∃ (k : Nat), k ≤ nh ∧ i = .int .i64 (k : Int) ∧ Hid (∀ i, i < k → ∀ x : Ha, hs[i]? = some x → ∀ c ∈ x.cases, goodC2 c) ∧ Hid (Below w1.heap.size w1 W)) (fun i _ _ _ _ _ => nh - (intOf i).toNat)
      case atStart => exact ⟨0, by omega, rfl, hide (fun i h => by omega), HWu⟩
      case round =>
        clear HWu
        obtain ⟨k, hk, rfl, HA, HF⟩ := hrel
        rename World => wr
        obtain ⟨r0, r1⟩ := unhide HR wr (unhide HF)
        by_cases hlt : k < nh
        · obtain ⟨x, hx⟩ := (unhide HHs).lt hlt
          have HXe := hide hx
          have HXm := hide (List.mem_of_getElem? hx)
          obtain ⟨hb, ho, rfl, _, _, _, ca, cc, h2, hcases⟩ := (unhide HHs).at hx
          obtain ⟨CN, hCN⟩ : ∃ CN, CN = x.cases.length := ⟨_, rfl⟩
          rw [← hCN] at h2 hcases
          have HCx : Hid (∀ W, Below w1.heap.size w1 W → W.cell? ⟨hb, ho + k * 3 + 2, none⟩ = some (.slice ca CN cc)) := hide (fun W hW => kept (unhide H0 W hW) h2)
          have hki : (k : Int) < (nh : Int) := by omega
          have hk0 : ¬ (k : Int) < 0 := by omega
          have HCa := hide hcases
          have HCN := hide hCN
          have hCNm : CN ≤ 9223372036854775807 := by have := hcases.len; omega
          clear hx h2 hcases hCN
          go_wp2_with fail
          go_loopw [8, 9, 10, 11] (fun i _ _ _ W => ∃ (j : Nat), j ≤ CN ∧ i = .int .i64 (j : Int) ∧ Hid (∀ i, i < j → ∀ c : Cs, x.cases[i]? = some c → goodC2 c) ∧ Hid (Below w1.heap.size w1 W)) (fun i _ _ _ _ => CN - (intOf i).toNat)
          case atStart => exact ⟨0, by omega, rfl, hide (fun i h => by omega), HF⟩
          case round =>
            clear HF r0 r1
            obtain ⟨j, hj, rfl, HJ, HF⟩ := hrel
            rename World => wq
            obtain ⟨r0, r1⟩ := unhide HR wq (unhide HF)
            have y2 := unhide HCx wq (unhide HF)
            by_cases hjt : j < CN
            · obtain ⟨c, hcx⟩ := (unhide HCa).lt hjt
              have HCe := hide hcx
              have HCm := hide (List.mem_of_getElem? hcx)
              obtain ⟨cb, co, rfl, _, ⟨wa, wc, h0, hwhn⟩, h1, ea, ec, h2, hem⟩ := (unhide HCa).at hcx
              obtain ⟨WN, hWN⟩ : ∃ WN, WN = c.whn.length := ⟨_, rfl⟩
              obtain ⟨EN, hEN⟩ : ∃ EN, EN = c.emits.length := ⟨_, rfl⟩
              rw [← hWN] at h0 hwhn
              rw [← hEN] at h2
              have hb0 := unhide H0 wq (unhide HF)
              have z0 := kept hb0 h0
              have z1 := kept hb0 h1
              have z2 := kept hb0 h2
              have hji : (j : Int) < (CN : Int) := by omega
              have hj0 : ¬ (j : Int) < 0 := by omega
              have HWh := hide hwhn
              have HWN := hide hWN
              have hWNm : WN ≤ 9223372036854775807 := by have := hwhn.len; omega
              have hfr := ((((unhide HFit).h x (unhide HXm)).2.2 c (unhide HCm)).1)
              obtain ⟨rf, hrf⟩ : ∃ rf, rf = c.refuse := ⟨_, rfl⟩
              rw [← hrf] at z1 hfr
              have HBc : Hid (badCase c = (decide (200 < rf.length) || (rf.isEmpty == decide (EN = 0)))) := hide (by
                unfold badCase; rw [hrf, hEN]; congr 2; rw [Bool.eq_iff_iff]; simp)
              have b3 : Below wq.heap.size wq (wq.alloc (.cells #[.slice wa WN wc, sv rf, .slice ea EN ec] 66)) := (Below.refl _ _).alloc (Nat.le_refl _) _
              have hx3 : (wq.alloc (.cells #[.slice wa WN wc, sv rf, .slice ea EN ec] 66)).heap[wq.heap.size]? = some (.cells #[.slice wa WN wc, sv rf, .slice ea EN ec] 66 (0, 0)) := heap_alloc_new _ _
              obtain ⟨w3, hw3⟩ : ∃ w3, w3 = wq.alloc (.cells #[.slice wa WN wc, sv rf, .slice ea EN ec] 66) := ⟨_, rfl⟩
              rw [← hw3] at b3 hx3
              have HW3' := hide hw3
              obtain ⟨q3, hq3⟩ : ∃ q3, q3 = wq.heap.size := ⟨_, rfl⟩
              rw [← hq3] at hx3
              have HQ3 := hide hq3
              have HF3 : Hid (∀ W, Below w3.heap.size w3 W → Below w1.heap.size w1 W) := hide (fun W hW => (unhide HF).trans ((b3.trans (hW.mono b3.size)).mono (unhide HF).size))
              have HBx : Hid (∀ W, Below w3.heap.size w3 W → W.cell? ⟨q3, 0, none⟩ = some (.slice wa WN wc) ∧ W.cell? ⟨q3, 1, none⟩ = some (sv rf) ∧ W.cell? ⟨q3, 2, none⟩ = some (.slice ea EN ec)) := hide (fun W hW => ⟨kept hW ((cell_of_row _ _ _ _ _ _ hx3).trans rfl), kept hW ((cell_of_row _ _ _ _ _ _ hx3).trans rfl), kept hW ((cell_of_row _ _ _ _ _ _ hx3).trans rfl)⟩)
              have HFs : Hid (Below w3.heap.size w3 w3) := hide (Below.refl _ _)
              have HT : Hid (badCase c = true → R = 132) := hide (fun h => unhide HBad (fun g => by have := (g.c x (unhide HXm) c (unhide HCm)).1; rw [h] at this; cases this))
              clear hcx h0 h1 h2 hwhn hem hWN hEN hb0 b3 hx3 hw3 hq3 hrf
              go_upto_region 20 with fail
              rw [show wq.alloc (.cells #[Value.slice wa WN wc, .string ⟨rf.toArray⟩, .slice ea EN ec] 66) = w3 from (unhide HW3').symm]
              rw [← unhide HQ3]
              clear z0 z1 z2 r0 r1 y2
              obtain ⟨c0, c1, c2⟩ := unhide HBx w3 (unhide HFs)
              have HEw := hide (unhide HE1 w3 (unhide HF3 w3 (unhide HFs)))
              go_cut [80] from 67 to 79 (fun t80 W => W = w3 ∧ t80 = .bool (badCase c))
              case first =>
                by_cases hl : 200 < rf.length
                · have HX : Hid (badCase c = true) := hide (by rw [unhide HBc, decide_eq_true hl]; rfl)
                  have p1 : (200 : Int) < (rf.length : Int) := by omega
                  clear HT HBc
                  go_wp2_with fail
                  go_meet
                  exact ⟨rfl, by rw [unhide HX]⟩
                · have hd : decide (200 < rf.length) = false := decide_eq_false hl
                  have HBd : Hid (badCase c = (rf.isEmpty == decide (EN = 0))) := hide (by rw [unhide HBc, hd, Bool.false_or])
                  clear HBc hd
                  cases rf with
                  | nil =>
                    by_cases hz : EN = 0
                    · have HX : Hid (badCase c = true) := hide (by rw [unhide HBd, hz]; rfl)
                      subst hz
                      clear HT HBd hl
                      go_wp2_with fail
                      go_meet
                      exact ⟨rfl, by rw [unhide HX]⟩
                    · have HX : Hid (badCase c = false) := hide (by rw [unhide HBd, decide_eq_false hz]; rfl)
                      have hz1 : (0 : Int) < (EN : Int) := by omega
                      have hz2 : decide ((0 : Int) < (EN : Int)) = true := decide_eq_true hz1
                      clear HT HBd hl hz
                      go_wp2_with fail
                      go_meet
                      exact ⟨rfl, by rw [unhide HX]; simp; omega⟩
                  | cons s r =>
                    have h3n : ¬ ((200 : Int) < (r.length : Int) + 1) := by
                      simp at hl
                      omega
                    have h3d : decide ((200 : Int) < (r.length : Int) + 1) = false := decide_eq_false h3n
                    by_cases hz : EN = 0
                    · have HX : Hid (badCase c = false) := hide (by rw [unhide HBd, hz]; rfl)
                      subst hz
                      clear HT HBd hl
                      go_wp2_with fail
                      go_meet
                      exact ⟨rfl, by rw [unhide HX]⟩
                    · have HX : Hid (badCase c = true) := hide (by rw [unhide HBd, decide_eq_false hz]; rfl)
                      have hz1 : (0 : Int) < (EN : Int) := by omega
                      have hz2 : decide ((0 : Int) < (EN : Int)) = true := decide_eq_true hz1
                      clear HT HBd hl hz
                      go_wp2_with fail
                      go_meet
                      exact ⟨rfl, by rw [unhide HX]; simp; omega⟩
              case rest =>
                obtain ⟨rfl, rfl⟩ := hcut
                rename World => w3
                clear c1 c2 HBc
                obtain ⟨T, hT⟩ : ∃ T, T = badCase c := ⟨_, rfl⟩
                have HTe := hide hT
                rw [← hT] at HT ⊢
                clear hT
                cases T with
                | true =>
                  have HX := hide (unhide HT rfl)
                  go_wp2_with fail
                  go_ret
                  exact ⟨by rw [unhide HX]; rfl, unhide HEw⟩
                | false =>
                  go_wp2_with fail
                  go_loopw [10, 11] (fun i _ W => ∃ (n : Nat), n ≤ WN ∧ i = .int .i64 (n : Int) ∧ Hid (∀ i, i < n → ∀ d : Cd, c.whn[i]? = some d → badCond d = false) ∧ Hid (Below w3.heap.size w3 W)) (fun i _ _ => WN - (intOf i).toNat)
                  case atStart => exact ⟨0, by omega, rfl, hide (fun i h => by omega), HFs⟩
                  case round =>
                    clear HFs c0 HEw
                    obtain ⟨n, hn, rfl, HM, HFs⟩ := hrel
                    rename World => wp
                    obtain ⟨c0, -, -⟩ := unhide HBx wp (unhide HFs)
                    have HEw := hide (unhide HE1 wp (unhide HF3 wp (unhide HFs)))
                    by_cases hnt : n < WN
                    · obtain ⟨d, hdx⟩ := (unhide HWh).lt hnt
                      have hdm := List.mem_of_getElem? hdx
                      obtain ⟨db, dof, rfl, _, k0, k1, ⟨x0, x1, x2, aA, cA, x3, hA⟩, y0, y1, yy2, aB, cB, y3, hB⟩ := (unhide HWh).at hdx
                      obtain ⟨MA, hMA⟩ : ∃ MA, MA = d.A.args.length := ⟨_, rfl⟩
                      obtain ⟨MB, hMB⟩ : ∃ MB, MB = d.B.args.length := ⟨_, rfl⟩
                      rw [← hMA] at x3
                      rw [← hMB] at y3
                      have hb0 := unhide H0 wp (unhide HF3 wp (unhide HFs))
                      have d0 := kept hb0 k0
                      have d1 := kept hb0 k1
                      have d2 := kept hb0 x0
                      have d3 : wp.cell? ⟨db, dof + n * 10 + 3, none⟩ = _ := kept hb0 x1
                      have d4 : wp.cell? ⟨db, dof + n * 10 + 4, none⟩ = _ := kept hb0 x2
                      have d5 : wp.cell? ⟨db, dof + n * 10 + 5, none⟩ = _ := kept hb0 x3
                      have d6 := kept hb0 y0
                      have d7 : wp.cell? ⟨db, dof + n * 10 + 7, none⟩ = _ := kept hb0 y1
                      have d8 : wp.cell? ⟨db, dof + n * 10 + 8, none⟩ = _ := kept hb0 yy2
                      have d9 : wp.cell? ⟨db, dof + n * 10 + 9, none⟩ = _ := kept hb0 y3
                      obtain ⟨Q, hQ⟩ : ∃ Q, Q = badCond d := ⟨_, rfl⟩
                      have HC : Hid (Calls Tryz.prog 25 #[.agg #[.int .i64 d.kind, .bool d.neg, .int .i64 d.A.kind, .int .i64 d.A.n, sv d.A.s, .slice aA MA cA, .int .i64 d.B.kind, .int .i64 d.B.n, sv d.B.s, .slice aB MB cB]] wp fun e w' => e = .returned (.bool (!Q)) ∧ Below wp.heap.size wp w') := hide (by rw [hQ, hMA, hMB]; exact rhasD_any d aA cA aB cB wp)
                      have hni : (n : Int) < (WN : Int) := by omega
                      have hn0 : ¬ (n : Int) < 0 := by omega
                      have HM2 : Hid (Q = false → ∀ i, i < n + 1 → ∀ d : Cd, c.whn[i]? = some d → badCond d = false) := hide (fun h => all_next (p := fun d : Cd => badCond d = false) hdx (by rw [← hQ]; exact h) (unhide HM))
                      have HTd : Hid (Q = true → R = 132) := hide (fun h => unhide HBad (fun g => by
                        have := (g.c x (unhide HXm) c (unhide HCm)).2 d hdm
                        rw [← hQ, h] at this
                        cases this))
                      clear hdx hdm k0 k1 x0 x1 x2 x3 y0 y1 yy2 y3 hA hB hMA hMB hb0 hQ
                      cases Q with
                      | true =>
                        have HX := hide (unhide HTd rfl)
                        go_wp2_with (go_at_call 25; refine (unhide HC).mono ?_; rintro e w5 ⟨rfl, b5⟩; have HE5 := hide ((unhide HEw).trans (b5.mono (unhide HEw).size)); clear b5)
                        go_ret
                        exact ⟨by rw [unhide HX]; rfl, unhide HE5⟩
                      | false =>
                        have HM3 := hide (unhide HM2 rfl)
                        go_wp2_with (go_at_call 25; refine (unhide HC).mono ?_; rintro e w5 ⟨rfl, b5⟩; have HF5 := hide ((unhide HFs).trans (b5.mono (unhide HFs).size)); clear b5)
                        go_roundw
                        case rel => exact ⟨n + 1, by omega, by go_num, HM3, HF5⟩
                        case measure => simp [intOf]; omega
                    · have hni : ¬ (n : Int) < (WN : Int) := by omega
                      have HG : Hid (goodC2 c) := hide ⟨(unhide HTe).symm, all_to (p := fun d : Cd => badCond d = false) (unhide HWN) (by omega) (unhide HM)⟩
                      have HJ2 : Hid (∀ i, i < j + 1 → ∀ c : Cs, x.cases[i]? = some c → goodC2 c) := hide (all_next (unhide HCe) (unhide HG) (unhide HJ))
                      have HFq := hide (unhide HF3 wp (unhide HFs))
                      go_wp2_with fail
                      go_roundw
                      case rel => exact ⟨j + 1, by omega, by go_num, HJ2, HFq⟩
                      case measure => simp [intOf]; omega
            · have hji : ¬ (j : Int) < (CN : Int) := by omega
              have HG : Hid (∀ c ∈ x.cases, goodC2 c) := hide (all_to (unhide HCN) (by omega) (unhide HJ))
              have HA2 : Hid (∀ i, i < k + 1 → ∀ x : Ha, hs[i]? = some x → ∀ c ∈ x.cases, goodC2 c) := hide (all_next (p := fun x : Ha => ∀ c ∈ x.cases, goodC2 c) (unhide HXe) (unhide HG) (unhide HA))
              go_wp2_with fail
              go_roundw
              case rel => exact ⟨k + 1, by omega, by go_num, HA2, HF⟩
              case measure => simp [intOf]; omega
        · have hki : ¬ (k : Int) < (nh : Int) := by omega
          have HX : Hid (R = 0) := hide (unhide HGood ⟨all_to (p := fun x : Ha => ∀ c ∈ x.cases, goodC2 c) (unhide HNh) (by omega) (unhide HA), unhide HGe⟩)
          have HEw := hide (unhide HE1 wr (unhide HF))
          go_wp2_with fail
          go_ret
          exact ⟨by rw [unhide HX]; rfl, unhide HEw⟩
end Go.Proofs.YtingpmgpjmlioaaGreatDoor
