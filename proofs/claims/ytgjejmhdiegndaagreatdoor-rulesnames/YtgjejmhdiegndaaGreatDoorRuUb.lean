/-
  DERIVED. The walks of tooGreat, and of ContainsFunc at four functions.
-/
import Derived.Test.YtgjejmhdiegndaaGreatDoorRuDa
namespace Go.Proofs.YtgjejmhdiegndaaGreatDoor
open Go.RowKit
set_option linter.unusedVariables false

theorem NRow.slof {w : World} {base : Nat} {v : Value} {l : List Nd} (h : NRow w base v l) (hat : ∀ x ∈ l, x.at w) : ∃ a c, v = .slice a l.length c ∧ SlOf 4 NdR w (.slice a l.length c) l := by
  obtain ⟨h1, h2⟩ := h
  rcases h2 with ⟨rfl, e⟩ | ⟨g, cap, cur, rfl, hb, hg, hn, hm, hs, ht⟩
  · have : l = [] := List.length_eq_zero_iff.1 e
    subst this
    exact ⟨none, 0, rfl, SlOf.nil w⟩
  · refine ⟨_, cap, rfl, some ⟨g, 0, none⟩, cap, rfl, by omega, by unfold maxLen at hm; omega, fun _ => ⟨g, 0, rfl, lt_of_block hg, fun i x hi => ?_⟩⟩
    obtain ⟨hil, hix⟩ := List.getElem?_eq_some_iff.1 hi
    have at' : ∀ j u, j < l.length * 4 → (ncs l)[j]? = some u → w.cell? ⟨g, 0 + j, none⟩ = some u := by
      intro j u hj hu
      have e : (cur.toList.take (l.length * 4))[j]? = (ncs l)[j]? := by rw [ht]
      rw [List.getElem?_take_of_lt hj, hu] at e
      simp only [World.cell?, hg, Nat.zero_add]
      simpa using e
    obtain ⟨g0, g1, g2, g3⟩ := ncs_get l i hil
    rw [hix] at g0 g1 g2 g3
    exact ⟨at' _ _ (by omega) g0, at' _ _ (by omega) g1, at' _ _ (by omega) g2, at' _ _ (by omega) g3, hat x (List.mem_of_getElem? hi)⟩

set_option maxHeartbeats 2000000 in
theorem tooGreat_any (d : Nd) (w : World) (hd : d.at w) : Calls Tryz.prog 63 #[.agg (ndv d)] w fun e w' => e = .returned (.bool (manyX d.x)) ∧ Below w.heap.size w w' := by
  have hb1 : Below w.heap.size w (w.alloc (.cells (ndv d) 32)) := (Below.refl _ _).alloc (Nat.le_refl _) _
  have HC := hide (nodes_any d _ (Nd.grown hd hb1))
  have HB := hide hb1
  have HM : Hid (manyX d.x = decide (64 < (nodesX d.x).length)) := hide rfl
  clear hb1 hd
  simp only [ndv] at HC ⊢
  go_enter Tryz.func63, Tryz.ntmps63
  go_wp2_with (go_at_call 78; refine (unhide HC).mono ?_; rintro e w3 ⟨v, l, rfl, hr, hat, hl, b3⟩; obtain ⟨a, c, rfl, -⟩ := hr.slof (fun x hx => Nd.grown (hat x hx) b3); have HB3 := hide ((unhide HB).trans (b3.mono (unhide HB).size)); have HLn : Hid (l.length = (nodesX d.x).length) := hide (by rw [← hl]; simp); clear hr hat hl b3)
  go_ret
  refine ⟨?_, unhide HB3⟩
  rw [unhide HM, ← unhide HLn]
  show Ending.returned (.bool (decide ((64 : Int) < (l.length : Int)))) = _
  rw [show decide ((64 : Int) < (l.length : Int)) = decide (64 < l.length) from decide_eq_decide.2 (by omega)]

/-- Where the first one stands of which p holds; below 0: nowhere. -/
def ixB {α : Type} (p : α → Bool) (l : List α) : Int := match l.findIdx? p with
  | some i => (i : Nat)
  | none => -1
theorem ixB_ge {α : Type} (p : α → Bool) (l : List α) : decide (0 ≤ ixB p l) = l.any p := by
  unfold ixB
  cases h : l.findIdx? p with
  | none =>
    rw [List.findIdx?_eq_none_iff] at h
    have : l.any p = false := by rw [List.any_eq_false]; intro x hx; simp [h x hx]
    rw [this]; rfl
  | some i =>
    rw [List.findIdx?_eq_some_iff_getElem] at h
    obtain ⟨hl, hp, _⟩ := h
    have : l.any p = true := by rw [List.any_eq_true]; exact ⟨_, List.getElem_mem hl, hp⟩
    rw [this]; simp
theorem ixB_at {α : Type} {p : α → Bool} {l : List α} {k : Nat} {x : α} (h : ∀ a ∈ l.take k, p a = false) (hk : l[k]? = some x) (hx : p x = true) : ixB p l = (k : Int) := by
  obtain ⟨hl, he⟩ := List.getElem?_eq_some_iff.1 hk
  have hi : l.findIdx? p = some k := by
    rw [List.findIdx?_eq_some_iff_getElem]
    refine ⟨hl, by rw [he]; exact hx, fun j hj => ?_⟩
    have := h (l[j]'(by omega)) (by
      rw [List.mem_iff_getElem?]
      exact ⟨j, by rw [List.getElem?_take_of_lt hj, List.getElem?_eq_getElem (by omega)]⟩)
    simpa using this
  unfold ixB; rw [hi]
theorem ixB_none {α : Type} {p : α → Bool} {l : List α} (h : ∀ a ∈ l, p a = false) : ixB p l = -1 := by
  have hi : l.findIdx? p = none := by
    rw [List.findIdx?_eq_none_iff]; exact h
  unfold ixB; rw [hi]
theorem take_no {α : Type} {p : α → Bool} {l : List α} {k : Nat} {x : α} (h : ∀ a ∈ l.take k, p a = false) (hk : l[k]? = some x) (hx : p x = false) : ∀ a ∈ l.take (k + 1), p a = false := by
  intro u hu
  rw [List.take_add_one, hk] at hu
  rcases List.mem_append.1 hu with hu | hu
  · exact h u hu
  · simp at hu; rw [hu]; exact hx

theorem umisnamedC5_any (x : AsV) (w : World) : Calls Tryz.prog 74 #[.agg x.v] w fun e w' => e = .returned (.bool (!nameB x.nm)) ∧ Below w.heap.size w w' := by
  have HB := hide ((Below.refl w.heap.size w).alloc (Nat.le_refl _) (.cells x.v 99))
  have HN : Hid (∀ W, Calls Tryz.prog 70 #[sv x.nm] W fun e w' => e = .returned (.bool (nameB x.nm)) ∧ W = w') := hide (fun W => Name_any x.nm W (by have := x.fit; omega))
  go_enter Tryz.func74, Tryz.ntmps74
  go_wp2_with (go_at_call 70; refine (unhide HN _).mono ?_; rintro e w3 ⟨rfl, rfl⟩)
  go_ret
  exact ⟨rfl, unhide HB⟩
theorem umisnamedC6_any (x : List UInt8) (hx : x.length ≤ 140737488355328) (w : World) : Calls Tryz.prog 76 #[sv x] w fun e w' => e = .returned (.bool (!nameB x)) ∧ Below w.heap.size w w' := by
  have HB := hide (Below.refl w.heap.size w)
  have HN : Hid (∀ W, Calls Tryz.prog 70 #[sv x] W fun e w' => e = .returned (.bool (nameB x)) ∧ W = w') := hide (fun W => Name_any x W (by omega))
  go_enter Tryz.func76, Tryz.ntmps76
  go_wp2_with (go_at_call 70; refine (unhide HN _).mono ?_; rintro e w3 ⟨rfl, rfl⟩)
  go_ret
  exact ⟨rfl, unhide HB⟩
theorem Nd.text {d : Nd} {w : World} (h : d.at w) : d.x.s.length ≤ 140737488355328 := by
  unfold Nd.at at h
  cases h; assumption
theorem umisnamedC7_any (x : Nd) (w : World) (hx : x.at w) : Calls Tryz.prog 79 #[.agg (ndv x)] w fun e w' => e = .returned (.bool (nmsX x.x && !nameB x.x.s)) ∧ Below w.heap.size w w' := by
  have hb1 : Below w.heap.size w (w.alloc (.cells (ndv x) 32)) := (Below.refl _ _).alloc (Nat.le_refl _) _
  have hx1 : XBox (w.alloc (.cells (ndv x) 32)) w.heap.size x.x x.a x.c := heap_alloc_new _ _
  have HN : Hid (∀ W, Calls Tryz.prog 70 #[sv x.x.s] W fun e w' => e = .returned (.bool (nameB x.x.s)) ∧ W = w') := hide (fun W => Name_any x.x.s W (by have := Nd.text hx; omega))
  have HC := hide (namesField_any x.x x.a x.c (w.alloc (.cells (ndv x) 32)))
  have HB := hide hb1
  have HX := hide hx1
  clear hb1 hx1 hx
  simp only [ndv] at HC ⊢
  cases hn : nmsX x.x with
  | false =>
    rw [hn] at HC
    clear hn
    go_enter Tryz.func79, Tryz.ntmps79
    go_wp2_with (go_at_call 80; refine (unhide HC).mono ?_; rintro e w3 ⟨rfl, b3⟩; have HB3 := hide ((unhide HB).trans (b3.mono (unhide HB).size)); clear b3)
    go_ret
    exact ⟨rfl, unhide HB3⟩
  | true =>
    rw [hn] at HC
    clear hn
    go_enter Tryz.func79, Tryz.ntmps79
    go_wp2_with (first | (go_at_call 70; refine (unhide HN _).mono ?_; rintro e w4 ⟨rfl, rfl⟩) | (go_at_call 80; refine (unhide HC).mono ?_; rintro e w3 ⟨rfl, b3⟩; have HB3 := hide ((unhide HB).trans (b3.mono (unhide HB).size)); obtain ⟨-, -, x2, -, -⟩ := ((unhide HX).below b3 (Nat.le_refl _)).cells; clear b3))
    go_ret
    exact ⟨rfl, unhide HB3⟩
theorem umisformedC1_go (k n : Int) (s : List UInt8) (a : Option Addr) (m c : Nat) (w : World) (hle : s.length ≤ 140737488355328) : Calls Tryz.prog 83 #[.agg #[.int .i64 k, .int .i64 n, sv s, .slice a m c]] w fun e w' => e = .returned (.bool (decide (k = 2) && decide (200 < s.length))) ∧ Below w.heap.size w w' := by
  have HB := hide ((Below.refl w.heap.size w).alloc (Nat.le_refl _) (.cells #[.int .i64 k, .int .i64 n, sv s, .slice a m c] 32))
  by_cases hk : k = 2
  · subst hk
    go_enter Tryz.func83, Tryz.ntmps83
    go_wp2_with fail
    go_ret
    refine ⟨?_, unhide HB⟩
    simp only [decide_true, Bool.true_and]
    show Ending.returned (.bool (decide ((200 : Int) < (s.length : Int)))) = _
    rw [show decide ((200 : Int) < (s.length : Int)) = decide (200 < s.length) from decide_eq_decide.2 (by omega)]
  · have hk' : (k == 2) = false := by simp [hk]
    have hk2 : decide (k = 2) = false := by simp [hk]
    rw [hk2]
    go_enter Tryz.func83, Tryz.ntmps83
    go_wp2_with fail
    go_ret
    exact ⟨rfl, unhide HB⟩
theorem umisformedC1_any (x : Nd) (w : World) (hx : x.at w) : Calls Tryz.prog 83 #[.agg (ndv x)] w fun e w' => e = .returned (.bool (decide (x.x.kind = 2) && decide (200 < x.x.s.length))) ∧ Below w.heap.size w w' :=
  umisformedC1_go _ _ _ _ _ _ w (Nd.text hx)

set_option maxRecDepth 20000 in
set_option maxHeartbeats 4000000 in
theorem indexAssign_umisnamedC5 (a : Option Addr) (c : Nat) (l : List AsV) (p : AsV → Bool) (w : World) (hl : SlOf 5 AsR w (.slice a l.length c) l) (hf : ∀ (W : World) (x : AsV), x ∈ l → Below w.heap.size w W → Calls Tryz.prog 74 #[.agg x.v] W fun e w' => e = .returned (.bool (p x)) ∧ Below W.heap.size W w') :
    Calls Tryz.prog 113 #[.slice a l.length c, .func (.func 74) #[] #[]] w fun e w' => e = .returned (.int .i64 (ixB p l)) ∧ Below w.heap.size w w' := by
  obtain ⟨-, hl1, hl2⟩ := hl.len
  obtain ⟨N, hN⟩ : ∃ N, N = l.length := ⟨_, rfl⟩
  have HN := hide hN
  have HV := hide hl
  have HF := hide hf
  rw [← hN] at hl1 HV ⊢
  obtain ⟨R, hR⟩ : ∃ R, R = ixB p l := ⟨_, rfl⟩
  rw [← hR]
  have HR := hide hR
  clear hl hN hf hR
  go_enter Tryz.func113, Tryz.ntmps113
  go_wp2_with fail
  go_loopw [5, 8] (fun _ i wr => ∃ (k : Nat), k ≤ N ∧ i = .int .i64 k ∧ Hid (∀ v ∈ l.take k, p v = false) ∧ Hid (Below w.heap.size w wr)) (fun _ i _ => N - (intOf i).toNat)
  case atStart => exact ⟨0, by omega, rfl, hide (fun u hu => by simp at hu), hide (Below.refl _ _)⟩
  case round =>
    obtain ⟨k, hk, rfl, HA, HB⟩ := hrel
    by_cases hlt : k < N
    · obtain ⟨x, huk⟩ : ∃ u, l[k]? = some u := ⟨_, List.getElem?_eq_getElem (by have := unhide HN; omega)⟩
      obtain ⟨b, off, hma, -, d0, d1, d2, d3, d4, -⟩ := ((unhide HV).grown (fun _ _ _ _ _ => AsR.grown) (unhide HB)).at huk
      replace d2 : wr.cell? ⟨b, off + k * 5 + 2, none⟩ = _ := d2
      replace d3 : wr.cell? ⟨b, off + k * 5 + 3, none⟩ = _ := d3
      replace d4 : wr.cell? ⟨b, off + k * 5 + 4, none⟩ = _ := d4
      rw [hma]
      have HC := hide (unhide HF wr x (List.mem_of_getElem? huk) (unhide HB))
      cases hx : p x with
      | true =>
        have HX := hide ((unhide HR).trans (ixB_at (unhide HA) huk hx))
        rw [hx] at HC
        clear hx huk
        go_wp2_with (go_at_call 74; refine (unhide HC).mono ?_; rintro e w3 ⟨rfl, b3⟩; have HB3 := hide ((unhide HB).trans (b3.mono (unhide HB).size)); clear b3)
        go_ret
        exact ⟨by rw [unhide HX]; rfl, unhide HB3⟩
      | false =>
        have HA2 := hide (take_no (unhide HA) huk hx)
        rw [hx] at HC
        clear hx huk
        go_wp2_with (go_at_call 74; refine (unhide HC).mono ?_; rintro e w3 ⟨rfl, b3⟩; have HB3 := hide ((unhide HB).trans (b3.mono (unhide HB).size)); clear b3)
        go_roundw
        case rel => exact ⟨k + 1, by omega, by go_num, HA2, HB3⟩
        case measure => simp [intOf]; omega
    · have HX := hide ((unhide HR).trans (ixB_none (p := p) (l := l) (fun u hu => unhide HA u (by rw [List.take_of_length_le (by have := unhide HN; omega)]; exact hu))))
      go_wp2_with fail
      go_ret
      exact ⟨by rw [unhide HX]; rfl, unhide HB⟩

set_option maxHeartbeats 2000000 in
theorem containsAssign_umisnamedC5 (a : Option Addr) (c : Nat) (l : List AsV) (p : AsV → Bool) (w : World) (hl : SlOf 5 AsR w (.slice a l.length c) l) (hf : ∀ (W : World) (x : AsV), x ∈ l → Below w.heap.size w W → Calls Tryz.prog 74 #[.agg x.v] W fun e w' => e = .returned (.bool (p x)) ∧ Below W.heap.size W w') :
    Calls Tryz.prog 73 #[.slice a l.length c, .func (.func 74) #[] #[]] w fun e w' => e = .returned (.bool (l.any p)) ∧ Below w.heap.size w w' := by
  have HC := hide (indexAssign_umisnamedC5 a c l p w hl hf)
  have HG := hide (ixB_ge p l)
  obtain ⟨K, hK⟩ : ∃ K, K = ixB p l := ⟨_, rfl⟩
  rw [← hK] at HC HG
  clear hl hf hK
  go_enter Tryz.func73, Tryz.ntmps73
  go_wp2_with (go_at_call 113; refine (unhide HC).mono ?_; rintro e w3 ⟨rfl, b3⟩; have HB3 := hide b3; clear b3)
  go_ret
  exact ⟨by rw [← unhide HG]; rfl, unhide HB3⟩

set_option maxRecDepth 20000 in
set_option maxHeartbeats 4000000 in
theorem indexString_umisnamedC6 (a : Option Addr) (c : Nat) (l : List (List UInt8)) (p : (List UInt8) → Bool) (w : World) (hl : SlOf 1 StAt w (.slice a l.length c) l) (hf : ∀ (W : World) (x : (List UInt8)), x ∈ l → Below w.heap.size w W → Calls Tryz.prog 76 #[sv x] W fun e w' => e = .returned (.bool (p x)) ∧ Below W.heap.size W w') :
    Calls Tryz.prog 114 #[.slice a l.length c, .func (.func 76) #[] #[]] w fun e w' => e = .returned (.int .i64 (ixB p l)) ∧ Below w.heap.size w w' := by
  obtain ⟨-, hl1, hl2⟩ := hl.len
  obtain ⟨N, hN⟩ : ∃ N, N = l.length := ⟨_, rfl⟩
  have HN := hide hN
  have HV := hide hl
  have HF := hide hf
  rw [← hN] at hl1 HV ⊢
  obtain ⟨R, hR⟩ : ∃ R, R = ixB p l := ⟨_, rfl⟩
  rw [← hR]
  have HR := hide hR
  clear hl hN hf hR
  go_enter Tryz.func114, Tryz.ntmps114
  go_wp2_with fail
  go_loopw [5, 8] (fun _ i wr => ∃ (k : Nat), k ≤ N ∧ i = .int .i64 k ∧ Hid (∀ v ∈ l.take k, p v = false) ∧ Hid (Below w.heap.size w wr)) (fun _ i _ => N - (intOf i).toNat)
  case atStart => exact ⟨0, by omega, rfl, hide (fun u hu => by simp at hu), hide (Below.refl _ _)⟩
  case round =>
    obtain ⟨k, hk, rfl, HA, HB⟩ := hrel
    by_cases hlt : k < N
    · obtain ⟨x, huk⟩ : ∃ u, l[k]? = some u := ⟨_, List.getElem?_eq_getElem (by have := unhide HN; omega)⟩
      obtain ⟨b, off, hma, -, d0⟩ := ((unhide HV).grown (fun _ _ _ _ _ => StAt.grown) (unhide HB)).at huk
      unfold StAt at d0
      rw [Nat.mul_one] at d0
      rw [hma]
      have HC := hide (unhide HF wr x (List.mem_of_getElem? huk) (unhide HB))
      cases hx : p x with
      | true =>
        have HX := hide ((unhide HR).trans (ixB_at (unhide HA) huk hx))
        rw [hx] at HC
        clear hx huk
        go_wp2_with (go_at_call 76; refine (unhide HC).mono ?_; rintro e w3 ⟨rfl, b3⟩; have HB3 := hide ((unhide HB).trans (b3.mono (unhide HB).size)); clear b3)
        go_ret
        exact ⟨by rw [unhide HX]; rfl, unhide HB3⟩
      | false =>
        have HA2 := hide (take_no (unhide HA) huk hx)
        rw [hx] at HC
        clear hx huk
        go_wp2_with (go_at_call 76; refine (unhide HC).mono ?_; rintro e w3 ⟨rfl, b3⟩; have HB3 := hide ((unhide HB).trans (b3.mono (unhide HB).size)); clear b3)
        go_roundw
        case rel => exact ⟨k + 1, by omega, by go_num, HA2, HB3⟩
        case measure => simp [intOf]; omega
    · have HX := hide ((unhide HR).trans (ixB_none (p := p) (l := l) (fun u hu => unhide HA u (by rw [List.take_of_length_le (by have := unhide HN; omega)]; exact hu))))
      go_wp2_with fail
      go_ret
      exact ⟨by rw [unhide HX]; rfl, unhide HB⟩

set_option maxHeartbeats 2000000 in
theorem containsString_umisnamedC6 (a : Option Addr) (c : Nat) (l : List (List UInt8)) (p : (List UInt8) → Bool) (w : World) (hl : SlOf 1 StAt w (.slice a l.length c) l) (hf : ∀ (W : World) (x : (List UInt8)), x ∈ l → Below w.heap.size w W → Calls Tryz.prog 76 #[sv x] W fun e w' => e = .returned (.bool (p x)) ∧ Below W.heap.size W w') :
    Calls Tryz.prog 75 #[.slice a l.length c, .func (.func 76) #[] #[]] w fun e w' => e = .returned (.bool (l.any p)) ∧ Below w.heap.size w w' := by
  have HC := hide (indexString_umisnamedC6 a c l p w hl hf)
  have HG := hide (ixB_ge p l)
  obtain ⟨K, hK⟩ : ∃ K, K = ixB p l := ⟨_, rfl⟩
  rw [← hK] at HC HG
  clear hl hf hK
  go_enter Tryz.func75, Tryz.ntmps75
  go_wp2_with (go_at_call 114; refine (unhide HC).mono ?_; rintro e w3 ⟨rfl, b3⟩; have HB3 := hide b3; clear b3)
  go_ret
  exact ⟨by rw [← unhide HG]; rfl, unhide HB3⟩

set_option maxRecDepth 20000 in
set_option maxHeartbeats 4000000 in
theorem indexExpr_umisnamedC7 (a : Option Addr) (c : Nat) (l : List Nd) (p : Nd → Bool) (w : World) (hl : SlOf 4 NdR w (.slice a l.length c) l) (hf : ∀ (W : World) (x : Nd), x ∈ l → Below w.heap.size w W → Calls Tryz.prog 79 #[.agg (ndv x)] W fun e w' => e = .returned (.bool (p x)) ∧ Below W.heap.size W w') :
    Calls Tryz.prog 115 #[.slice a l.length c, .func (.func 79) #[] #[]] w fun e w' => e = .returned (.int .i64 (ixB p l)) ∧ Below w.heap.size w w' := by
  obtain ⟨-, hl1, hl2⟩ := hl.len
  obtain ⟨N, hN⟩ : ∃ N, N = l.length := ⟨_, rfl⟩
  have HN := hide hN
  have HV := hide hl
  have HF := hide hf
  rw [← hN] at hl1 HV ⊢
  obtain ⟨R, hR⟩ : ∃ R, R = ixB p l := ⟨_, rfl⟩
  rw [← hR]
  have HR := hide hR
  clear hl hN hf hR
  go_enter Tryz.func115, Tryz.ntmps115
  go_wp2_with fail
  go_loopw [5, 8] (fun _ i wr => ∃ (k : Nat), k ≤ N ∧ i = .int .i64 k ∧ Hid (∀ v ∈ l.take k, p v = false) ∧ Hid (Below w.heap.size w wr)) (fun _ i _ => N - (intOf i).toNat)
  case atStart => exact ⟨0, by omega, rfl, hide (fun u hu => by simp at hu), hide (Below.refl _ _)⟩
  case round =>
    obtain ⟨k, hk, rfl, HA, HB⟩ := hrel
    by_cases hlt : k < N
    · obtain ⟨x, huk⟩ : ∃ u, l[k]? = some u := ⟨_, List.getElem?_eq_getElem (by have := unhide HN; omega)⟩
      obtain ⟨b, off, hma, -, d0, d1, d2, d3, -⟩ := ((unhide HV).grown (fun _ _ _ _ _ => NdR.grown) (unhide HB)).at huk
      rw [hma]
      have HC := hide (unhide HF wr x (List.mem_of_getElem? huk) (unhide HB))
      cases hx : p x with
      | true =>
        have HX := hide ((unhide HR).trans (ixB_at (unhide HA) huk hx))
        rw [hx] at HC
        clear hx huk
        go_wp2_with (go_at_call 79; refine (unhide HC).mono ?_; rintro e w3 ⟨rfl, b3⟩; have HB3 := hide ((unhide HB).trans (b3.mono (unhide HB).size)); clear b3)
        go_ret
        exact ⟨by rw [unhide HX]; rfl, unhide HB3⟩
      | false =>
        have HA2 := hide (take_no (unhide HA) huk hx)
        rw [hx] at HC
        clear hx huk
        go_wp2_with (go_at_call 79; refine (unhide HC).mono ?_; rintro e w3 ⟨rfl, b3⟩; have HB3 := hide ((unhide HB).trans (b3.mono (unhide HB).size)); clear b3)
        go_roundw
        case rel => exact ⟨k + 1, by omega, by go_num, HA2, HB3⟩
        case measure => simp [intOf]; omega
    · have HX := hide ((unhide HR).trans (ixB_none (p := p) (l := l) (fun u hu => unhide HA u (by rw [List.take_of_length_le (by have := unhide HN; omega)]; exact hu))))
      go_wp2_with fail
      go_ret
      exact ⟨by rw [unhide HX]; rfl, unhide HB⟩

set_option maxHeartbeats 2000000 in
theorem containsExpr_umisnamedC7 (a : Option Addr) (c : Nat) (l : List Nd) (p : Nd → Bool) (w : World) (hl : SlOf 4 NdR w (.slice a l.length c) l) (hf : ∀ (W : World) (x : Nd), x ∈ l → Below w.heap.size w W → Calls Tryz.prog 79 #[.agg (ndv x)] W fun e w' => e = .returned (.bool (p x)) ∧ Below W.heap.size W w') :
    Calls Tryz.prog 77 #[.slice a l.length c, .func (.func 79) #[] #[]] w fun e w' => e = .returned (.bool (l.any p)) ∧ Below w.heap.size w w' := by
  have HC := hide (indexExpr_umisnamedC7 a c l p w hl hf)
  have HG := hide (ixB_ge p l)
  obtain ⟨K, hK⟩ : ∃ K, K = ixB p l := ⟨_, rfl⟩
  rw [← hK] at HC HG
  clear hl hf hK
  go_enter Tryz.func77, Tryz.ntmps77
  go_wp2_with (go_at_call 115; refine (unhide HC).mono ?_; rintro e w3 ⟨rfl, b3⟩; have HB3 := hide b3; clear b3)
  go_ret
  exact ⟨by rw [← unhide HG]; rfl, unhide HB3⟩

set_option maxRecDepth 20000 in
set_option maxHeartbeats 4000000 in
theorem indexExpr_umisformedC1 (a : Option Addr) (c : Nat) (l : List Nd) (p : Nd → Bool) (w : World) (hl : SlOf 4 NdR w (.slice a l.length c) l) (hf : ∀ (W : World) (x : Nd), x ∈ l → Below w.heap.size w W → Calls Tryz.prog 83 #[.agg (ndv x)] W fun e w' => e = .returned (.bool (p x)) ∧ Below W.heap.size W w') :
    Calls Tryz.prog 115 #[.slice a l.length c, .func (.func 83) #[] #[]] w fun e w' => e = .returned (.int .i64 (ixB p l)) ∧ Below w.heap.size w w' := by
  obtain ⟨-, hl1, hl2⟩ := hl.len
  obtain ⟨N, hN⟩ : ∃ N, N = l.length := ⟨_, rfl⟩
  have HN := hide hN
  have HV := hide hl
  have HF := hide hf
  rw [← hN] at hl1 HV ⊢
  obtain ⟨R, hR⟩ : ∃ R, R = ixB p l := ⟨_, rfl⟩
  rw [← hR]
  have HR := hide hR
  clear hl hN hf hR
  go_enter Tryz.func115, Tryz.ntmps115
  go_wp2_with fail
  go_loopw [5, 8] (fun _ i wr => ∃ (k : Nat), k ≤ N ∧ i = .int .i64 k ∧ Hid (∀ v ∈ l.take k, p v = false) ∧ Hid (Below w.heap.size w wr)) (fun _ i _ => N - (intOf i).toNat)
  case atStart => exact ⟨0, by omega, rfl, hide (fun u hu => by simp at hu), hide (Below.refl _ _)⟩
  case round =>
    obtain ⟨k, hk, rfl, HA, HB⟩ := hrel
    by_cases hlt : k < N
    · obtain ⟨x, huk⟩ : ∃ u, l[k]? = some u := ⟨_, List.getElem?_eq_getElem (by have := unhide HN; omega)⟩
      obtain ⟨b, off, hma, -, d0, d1, d2, d3, -⟩ := ((unhide HV).grown (fun _ _ _ _ _ => NdR.grown) (unhide HB)).at huk
      rw [hma]
      have HC := hide (unhide HF wr x (List.mem_of_getElem? huk) (unhide HB))
      cases hx : p x with
      | true =>
        have HX := hide ((unhide HR).trans (ixB_at (unhide HA) huk hx))
        rw [hx] at HC
        clear hx huk
        go_wp2_with (go_at_call 83; refine (unhide HC).mono ?_; rintro e w3 ⟨rfl, b3⟩; have HB3 := hide ((unhide HB).trans (b3.mono (unhide HB).size)); clear b3)
        go_ret
        exact ⟨by rw [unhide HX]; rfl, unhide HB3⟩
      | false =>
        have HA2 := hide (take_no (unhide HA) huk hx)
        rw [hx] at HC
        clear hx huk
        go_wp2_with (go_at_call 83; refine (unhide HC).mono ?_; rintro e w3 ⟨rfl, b3⟩; have HB3 := hide ((unhide HB).trans (b3.mono (unhide HB).size)); clear b3)
        go_roundw
        case rel => exact ⟨k + 1, by omega, by go_num, HA2, HB3⟩
        case measure => simp [intOf]; omega
    · have HX := hide ((unhide HR).trans (ixB_none (p := p) (l := l) (fun u hu => unhide HA u (by rw [List.take_of_length_le (by have := unhide HN; omega)]; exact hu))))
      go_wp2_with fail
      go_ret
      exact ⟨by rw [unhide HX]; rfl, unhide HB⟩

set_option maxHeartbeats 2000000 in
theorem containsExpr_umisformedC1 (a : Option Addr) (c : Nat) (l : List Nd) (p : Nd → Bool) (w : World) (hl : SlOf 4 NdR w (.slice a l.length c) l) (hf : ∀ (W : World) (x : Nd), x ∈ l → Below w.heap.size w W → Calls Tryz.prog 83 #[.agg (ndv x)] W fun e w' => e = .returned (.bool (p x)) ∧ Below W.heap.size W w') :
    Calls Tryz.prog 77 #[.slice a l.length c, .func (.func 83) #[] #[]] w fun e w' => e = .returned (.bool (l.any p)) ∧ Below w.heap.size w w' := by
  have HC := hide (indexExpr_umisformedC1 a c l p w hl hf)
  have HG := hide (ixB_ge p l)
  obtain ⟨K, hK⟩ : ∃ K, K = ixB p l := ⟨_, rfl⟩
  rw [← hK] at HC HG
  clear hl hf hK
  go_enter Tryz.func77, Tryz.ntmps77
  go_wp2_with (go_at_call 115; refine (unhide HC).mono ?_; rintro e w3 ⟨rfl, b3⟩; have HB3 := hide b3; clear b3)
  go_ret
  exact ⟨by rw [← unhide HG]; rfl, unhide HB3⟩
end Go.Proofs.YtgjejmhdiegndaaGreatDoor
