/-
  DERIVED. The document's Same, of lists that are the same.
-/
import Derived.Test.YtingpmgpjmlioaaGreatDoorShc
import Derived.BigQuiet
import Derived.Test.YtingpmgpjmlioaaGreatDoorShza
namespace Go.Proofs.YtingpmgpjmlioaaGreatDoor
open Go.RowKit
set_option linter.unusedVariables false

theorem fdl_cells {w : World} {v : Value} {fs : List Fld} (h : FdL w v fs) : ∃ a c, v = .slice a fs.length c ∧ fs.length ≤ c ∧ c ≤ 9223372036854775807 ∧ ∀ k f, fs[k]? = some f → ∃ b off, a = some ⟨b, off, none⟩ ∧ b < w.heap.size ∧ w.cell? ⟨b, off + k * 4, none⟩ = some (sv f.name) ∧ w.cell? ⟨b, off + k * 4 + 1, none⟩ = some (.bool f.text) ∧ w.cell? ⟨b, off + k * 4 + 2, none⟩ = some (.int .i64 f.n) ∧ w.cell? ⟨b, off + k * 4 + 3, none⟩ = some (sv f.s) := by
  obtain ⟨ao, cap, rfl, h1, h2, h4⟩ := h
  refine ⟨ao, cap, rfl, h1, h2, fun k f hk => ?_⟩
  obtain ⟨hl, e⟩ := List.getElem?_eq_some_iff.1 hk
  obtain ⟨b, off, e2, hb, hc⟩ := h4 (by omega)
  have := hc k hl
  rw [e] at this
  exact ⟨b, off, e2, hb, this⟩

end Go.Proofs.YtingpmgpjmlioaaGreatDoor

namespace Go.Proofs.YtingpmgpjmlioaaGreatDoor
open Go.RowKit Go.Maps
set_option linter.unusedVariables false

/-- Where the first field of a name stands; if there is none: ahead of the first field whose name is above it. -/
def atF (r : List Fld) (nm : List UInt8) : Nat := match r.findIdx? (fun f => f.name == nm) with
  | some i => i
  | none => r.findIdx (fun f => decide (nm < f.name))
def hasF (r : List Fld) (nm : List UInt8) : Bool := r.any (fun f => f.name == nm)

/-- What is known behind k fields: none of them is called so; the first above is at u, or there is none, then u is the length. -/
structure PlSt (r : List Fld) (nm : List UInt8) (k u : Nat) : Prop where
  no : ∀ f ∈ r.take k, f.name ≠ nm
  up : u ≤ r.length
  below : ∀ i f, i < k → i < u → r[i]? = some f → ¬ nm < f.name
  at' : u < r.length → u < k ∧ ∃ f, r[u]? = some f ∧ nm < f.name

theorem PlSt.start (r : List Fld) (nm : List UInt8) : PlSt r nm 0 r.length :=
  ⟨fun f hf => by simp at hf, Nat.le_refl _, fun i f h => by omega, fun h => by omega⟩

theorem PlSt.next {r : List Fld} {nm : List UInt8} {k u : Nat} (h : PlSt r nm k u) {f : Fld} (hf : r[k]? = some f) (hne : f.name ≠ nm) (hk : k < r.length) : PlSt r nm (k + 1) (if nm < f.name then min u k else u) := by
  refine ⟨?_, ?_, ?_, ?_⟩
  · intro g hg
    rw [List.take_add_one, hf] at hg
    rcases List.mem_append.1 hg with hg | hg
    · exact h.no g hg
    · simp at hg; rw [hg]; exact hne
  · split
    · have := h.up; omega
    · exact h.up
  · intro i g hi hu hg
    by_cases e : i = k
    · subst e
      rw [hf] at hg
      cases hg
      split at hu
      · omega
      · rename_i hn; exact hn
    · refine h.below i g (by omega) ?_ hg
      split at hu <;> omega
  · intro hu
    split at hu
    · rename_i hl
      rw [if_pos hl]
      by_cases e : u < r.length
      · obtain ⟨h1, h2⟩ := h.at' e
        rw [Nat.min_eq_left (by omega)]
        exact ⟨by omega, h2⟩
      · rw [Nat.min_eq_right (by omega)]
        exact ⟨by omega, f, hf, hl⟩
    · rename_i hl
      rw [if_neg hl]
      obtain ⟨h1, h2⟩ := h.at' hu
      exact ⟨by omega, h2⟩

theorem findIdx_of {α : Type} {p : α → Bool} : ∀ {r : List α} {u : Nat}, u ≤ r.length → (∀ i x, i < u → r[i]? = some x → p x = false) → (u < r.length → ∃ x, r[u]? = some x ∧ p x = true) → r.findIdx p = u
  | [], u, hu, _, _ => by simp at hu ⊢; omega
  | a :: r, 0, _, _, h => by
    obtain ⟨x, hx, hp⟩ := h (by simp)
    simp at hx
    subst hx
    rw [List.findIdx_cons, hp]; rfl
  | a :: r, u + 1, hu, hb, h => by
    have ha := hb 0 a (by omega) rfl
    rw [List.findIdx_cons, ha]
    have := findIdx_of (p := p) (r := r) (u := u) (by simpa using hu) (fun i x hi hx => hb (i + 1) x (by omega) (by simpa using hx)) (fun hl => by
      obtain ⟨x, hx, hp⟩ := h (by simpa using hl)
      exact ⟨x, by simpa using hx, hp⟩)
    rw [this]; rfl

theorem PlSt.done {r : List Fld} {nm : List UInt8} {u : Nat} (h : PlSt r nm r.length u) : atF r nm = u ∧ hasF r nm = false := by
  have hno : ∀ f ∈ r, f.name ≠ nm := fun f hf => h.no f (by rw [List.take_of_length_le (Nat.le_refl _)]; exact hf)
  have h1 : r.findIdx? (fun f => f.name == nm) = none := by
    rw [List.findIdx?_eq_none_iff]; intro f hf; simpa using hno f hf
  refine ⟨?_, ?_⟩
  · unfold atF
    rw [h1]
    exact findIdx_of h.up (fun i x hi hx => by
      have := h.below i x (by have := h.up; omega) hi hx
      simpa using this) (fun hl => by
      obtain ⟨_, x, hx, hp⟩ := h.at' hl
      exact ⟨x, hx, by simpa using hp⟩)
  · unfold hasF
    rw [List.any_eq_false]; intro f hf; simpa using hno f hf

theorem PlSt.found {r : List Fld} {nm : List UInt8} {k u : Nat} (h : PlSt r nm k u) {f : Fld} (hf : r[k]? = some f) (he : f.name = nm) : atF r nm = k ∧ hasF r nm = true := by
  have hk := (List.getElem?_eq_some_iff.1 hf).1
  have h1 : r.findIdx? (fun f => f.name == nm) = some k := by
    rw [List.findIdx?_eq_some_iff_getElem]
    refine ⟨hk, ?_, ?_⟩
    · have : r[k] = f := (List.getElem?_eq_some_iff.1 hf).2
      rw [this]; simpa using he
    · intro j hj
      have hm : r[j] ∈ r.take k := by
        rw [List.mem_iff_getElem?]
        exact ⟨j, by rw [List.getElem?_take_of_lt hj, List.getElem?_eq_getElem (by omega)]⟩
      simpa using h.no _ hm
  refine ⟨by unfold atF; rw [h1], ?_⟩
  unfold hasF
  rw [List.any_eq_true]
  exact ⟨f, List.mem_of_getElem? hf, by simpa using he⟩

abbrev plV (r : List Fld) (nm : List UInt8) : Value := .tuple #[.int .i64 (atF r nm : Nat), .int .i64 ((atF r nm + (if hasF r nm then 1 else 0) : Nat) : Int)]

theorem str_gt (a p : List UInt8) : (!(Op.bytesLess a p || a == p)) = decide (p < a) := by
  rw [str_le]
  by_cases h : a ≤ p
  · have : ¬ p < a := fun hl => (List.not_le.2 hl) h
    simp [h, this]
  · simp [h, List.not_le.1 h]

set_option maxHeartbeats 4000000 in
theorem place_any (a : Option Addr) (n c : Nat) (fs : List Fld) (nm : List UInt8) (w : World) (hv : FdL w (.slice a n c) fs) :
    Calls Tryz.prog 74 #[.slice a n c, sv nm] w fun e w' => e = .returned (plV fs nm) ∧ Below w.heap.size w w' := by
  obtain ⟨ao, cap, e, g1, g2, g4⟩ := id hv
  cases e
  obtain ⟨N, hN⟩ : ∃ N, N = fs.length := ⟨_, rfl⟩
  have HN := hide hN
  have H4 := hide g4
  have HS : Hid (PlSt fs nm 0 N) := hide (by rw [hN]; exact PlSt.start fs nm)
  rw [← hN] at g1 ⊢
  clear g4 hN hv
  go_enter Tryz.func74, Tryz.ntmps74
  go_wp2_with fail
  go_loopw [6, 7, 8, 13] (fun u _ _ i wr => ∃ (k q : Nat), k ≤ N ∧ q ≤ N ∧ u = .int .i64 q ∧ i = .int .i64 k ∧ Hid (PlSt fs nm k q) ∧ Hid (Below w.heap.size w wr)) (fun _ _ _ i _ => N - (intOf i).toNat)
  case atStart => exact ⟨0, N, by omega, by omega, rfl, rfl, HS, hide (Below.refl _ _)⟩
  case round =>
    obtain ⟨k, q, hk, hq, rfl, rfl, HP, HB⟩ := hrel
    clear HS
    by_cases hlt : k < N
    · have hkl : k < fs.length := by have := unhide HN; omega
      obtain ⟨b, off, rfl, hb, hc⟩ := unhide H4 (by omega)
      obtain ⟨c0, c1, c2, c3⟩ := hc k hkl
      obtain ⟨f, hf⟩ : ∃ f, f = fs[k] := ⟨_, rfl⟩
      rw [← hf] at c0 c1 c2 c3
      have hfk : fs[k]? = some f := by rw [hf]; exact List.getElem?_eq_getElem hkl
      have d0 := ((unhide HB).cell (p := ⟨b, off + k * 4, none⟩) hb).trans c0
      have d1 := ((unhide HB).cell (p := ⟨b, off + k * 4 + 1, none⟩) hb).trans c1
      have d2 := ((unhide HB).cell (p := ⟨b, off + k * 4 + 2, none⟩) hb).trans c2
      have d3 := ((unhide HB).cell (p := ⟨b, off + k * 4 + 3, none⟩) hb).trans c3
      have hsz := (unhide HB).size
      have HBx := hide ((unhide HB).alloc hsz (.cells (fv f) 48))
      clear hf hc c0 c1 c2 c3
      obtain ⟨fn, ft, fi, fss⟩ := f
      simp only at d0 d1 d2 d3
      by_cases he : fn = nm
      · obtain ⟨e1, e2⟩ := (unhide HP).found hfk he
        have HR : Hid (plV fs nm = .tuple #[.int .i64 (k : Int), .int .i64 ((k : Int) + 1)]) := hide (by unfold plV; rw [e1, e2]; rfl)
        have hbq : (fn == nm) = true := beq_iff_eq.2 he
        clear he hfk e1 e2
        go_wp2_with fail
        go_ret2
        rw [unhide HR]
        exact ⟨rfl, unhide HBx⟩
      · have hnx := (unhide HP).next hfk he hkl
        have hbq : (fn == nm) = false := beq_eq_false_iff_ne.2 he
        by_cases hgt : nm < fn
        · rw [if_pos hgt] at hnx
          have HNx := hide hnx
          have hq1 : Op.bytesLess fn nm = false := by rw [Go.Proofs.bytesLess_eq]; exact decide_eq_false (fun hl => List.lt_irrefl _ (List.lt_trans hl hgt))
          obtain ⟨mn, hmn⟩ : ∃ mn, mn = min q k := ⟨_, rfl⟩
          have hmi : min (q : Int) (k : Int) = (mn : Int) := by rw [hmn]; omega
          rw [← hmn] at HNx
          have hml : mn ≤ N := by omega
          clear he hfk hgt hnx hmn
          go_wp2_with fail
          go_roundw
          case rel => exact ⟨k + 1, mn, by omega, hml, rfl, by go_num, HNx, HBx⟩
          case measure => simp [intOf]; omega
        · rw [if_neg hgt] at hnx
          have HNx := hide hnx
          have hq1 : Op.bytesLess fn nm = true := by rw [Go.Proofs.bytesLess_eq]; exact decide_eq_true (le_lt (List.not_lt.1 hgt) he)
          clear he hfk hgt hnx
          go_wp2_with fail
          go_roundw
          case rel => exact ⟨k + 1, q, by omega, hq, rfl, by go_num, HNx, HBx⟩
          case measure => simp [intOf]; omega
    · have hkN : k = fs.length := by have := unhide HN; omega
      obtain ⟨e1, e2⟩ := (show PlSt fs nm fs.length q by rw [← hkN]; exact unhide HP).done
      have HR : Hid (plV fs nm = .tuple #[.int .i64 (q : Int), .int .i64 (q : Int)]) := hide (by unfold plV; rw [e1, e2]; rfl)
      clear hkN e1 e2
      go_wp2_with fail
      go_ret2
      rw [unhide HR]
      exact ⟨rfl, unhide HB⟩

def getA (r : List Fld) (nm : List UInt8) : Fld := (r.find? (fun f => f.name == nm)).getD fld0

theorem at_get {r : List Fld} {nm : List UInt8} (h : hasF r nm = true) : atF r nm < r.length ∧ r[atF r nm]? = some (getA r nm) := by
  unfold hasF at h
  rw [List.any_eq_true] at h
  obtain ⟨f, hf, hp⟩ := h
  unfold atF getA
  have h1 : (r.find? (fun f => f.name == nm)).isSome := by
    rw [List.find?_isSome]; exact ⟨f, hf, hp⟩
  have h2 := List.findIdx?_isSome (xs := r) (p := fun f => f.name == nm)
  cases hi : r.findIdx? (fun f => f.name == nm) with
  | none =>
    rw [List.findIdx?_eq_none_iff] at hi
    exact absurd hp (by simpa using hi f hf)
  | some i =>
    obtain ⟨hl, hq, hb⟩ := List.findIdx?_eq_some_iff_getElem.1 hi
    refine ⟨hl, ?_⟩
    rw [List.getElem?_eq_getElem hl]
    have : r.find? (fun f => f.name == nm) = some r[i] := by
      rw [List.find?_eq_some_iff_getElem]
      exact ⟨hq, i, hl, rfl, fun j hj => by simpa using hb j hj⟩
    rw [this]; rfl
theorem get_none {r : List Fld} {nm : List UInt8} (h : hasF r nm = false) : getA r nm = fld0 := by
  unfold hasF at h
  rw [List.any_eq_false] at h
  unfold getA
  have : r.find? (fun f => f.name == nm) = none := by
    rw [List.find?_eq_none]; intro f hf; simpa using h f hf
  rw [this]; rfl

set_option maxHeartbeats 2000000 in
theorem Get_any (a : Option Addr) (n c : Nat) (fs : List Fld) (nm : List UInt8) (w : World) (hv : FdL w (.slice a n c) fs) :
    Calls Tryz.prog 78 #[.slice a n c, sv nm] w fun e w' => e = .returned (.tuple #[.agg (fv (getA fs nm)), .bool (hasF fs nm)]) ∧ Below w.heap.size w w' := by
  have HPl : Hid (∀ W, Below w.heap.size w W → Calls Tryz.prog 74 #[.slice a n c, sv nm] W fun e w' => e = .returned (plV fs nm) ∧ Below W.heap.size W w') := hide (fun W hW => place_any a n c fs nm W (hv.below hW (Nat.le_refl _)))
  obtain ⟨a', c', e, hac, hc63, hcells⟩ := fdl_cells hv
  cases e
  cases hh : hasF fs nm with
  | false =>
    have HG := hide (get_none hh)
    have HPV : Hid (plV fs nm = .tuple #[.int .i64 (atF fs nm : Nat), .int .i64 (atF fs nm : Nat)]) := hide (by unfold plV; rw [hh]; rfl)
    obtain ⟨q, hq⟩ : ∃ q, q = atF fs nm := ⟨_, rfl⟩
    rw [← hq] at HPV
    rw [unhide HPV] at HPl
    clear hv hcells hh hq
    go_enter Tryz.func78, Tryz.ntmps78
    go_upto_region 1 with fail
    have hb1 : Below w.heap.size w (w.alloc (.cells (fv fld0) 48)) := (Below.refl _ _).alloc (Nat.le_refl _) _
    have hf1 := FBox.new w fld0
    obtain ⟨w1, hw1⟩ : ∃ w1, w1 = w.alloc (.cells (fv fld0) 48) := ⟨_, rfl⟩
    rw [← hw1] at hb1 hf1
    rw [show w.alloc (.cells #[Value.string ⟨#[]⟩, .bool false, .int .i64 0, Value.string ⟨#[]⟩] 48) = w1 from hw1.symm]
    have HB1 := hide hb1
    have HF1 := hide hf1
    clear hw1 hb1 hf1
    go_wp2_with (go_at_call 74; refine (unhide HPl _ (unhide HB1)).mono ?_; rintro e w2 ⟨rfl, b2⟩; have HB2 := hide ((unhide HB1).trans (b2.mono (unhide HB1).size)); have HF2 := hide ((unhide HF1).below b2 (Nat.le_refl _)); obtain ⟨c0, c1, c2, c3, cf⟩ := (unhide HF2).cells; have HE := hide ((unhide HF2).put [] false 0 []); have BE := hide (below_put (unhide HB2) (Nat.le_refl _) [] false 0 []); clear b2)
    exact bodyPost_ret (results_ct rfl _ _ w.heap.size 48 (fv fld0) (0, 0) _ (.bool false) rfl rfl (unhide HE) Tryz.underlying48 rfl sizeField) rfl ⟨by rw [unhide HG], unhide BE⟩
  | true =>
    obtain ⟨hql, hqf⟩ := at_get hh
    have HPV : Hid (plV fs nm = .tuple #[.int .i64 (atF fs nm : Nat), .int .i64 ((atF fs nm : Nat) + 1 : Int)]) := hide (by unfold plV; rw [hh]; rfl)
    obtain ⟨q, hq⟩ : ∃ q, q = atF fs nm := ⟨_, rfl⟩
    rw [← hq] at HPV hql hqf
    rw [unhide HPV] at HPl
    obtain ⟨⟨gn, gt, gi, gs⟩, hg⟩ : ∃ g, g = getA fs nm := ⟨_, rfl⟩
    rw [← hg] at hqf ⊢
    obtain ⟨b, off, rfl, hb, x0, x1, x2, x3⟩ := hcells q _ hqf
    have HCell : Hid (∀ W, Below w.heap.size w W → W.cell? ⟨b, off + q * 4, none⟩ = some (sv gn) ∧ W.cell? ⟨b, off + q * 4 + 1, none⟩ = some (.bool gt) ∧ W.cell? ⟨b, off + q * 4 + 2, none⟩ = some (.int .i64 gi) ∧ W.cell? ⟨b, off + q * 4 + 3, none⟩ = some (sv gs)) := hide (fun W hW => ⟨(hW.cell (p := ⟨b, off + q * 4, none⟩) hb).trans x0, (hW.cell (p := ⟨b, off + q * 4 + 1, none⟩) hb).trans x1, (hW.cell (p := ⟨b, off + q * 4 + 2, none⟩) hb).trans x2, (hW.cell (p := ⟨b, off + q * 4 + 3, none⟩) hb).trans x3⟩)
    have hqi : ((q : Int) == (q : Int) + 1) = false := by simp; omega
    have hqN : (q : Int) < (fs.length : Int) := by omega
    clear hv hcells hh hq hqf hg x0 x1 x2 x3
    go_enter Tryz.func78, Tryz.ntmps78
    go_upto_region 1 with fail
    have hb1 : Below w.heap.size w (w.alloc (.cells (fv fld0) 48)) := (Below.refl _ _).alloc (Nat.le_refl _) _
    have hf1 := FBox.new w fld0
    obtain ⟨w1, hw1⟩ : ∃ w1, w1 = w.alloc (.cells (fv fld0) 48) := ⟨_, rfl⟩
    rw [← hw1] at hb1 hf1
    rw [show w.alloc (.cells #[Value.string ⟨#[]⟩, .bool false, .int .i64 0, Value.string ⟨#[]⟩] 48) = w1 from hw1.symm]
    have HB1 := hide hb1
    have HF1 := hide hf1
    clear hw1 hb1 hf1
    go_wp2_with (go_at_call 74; refine (unhide HPl _ (unhide HB1)).mono ?_; rintro e w2 ⟨rfl, b2⟩; have HB2 := hide ((unhide HB1).trans (b2.mono (unhide HB1).size)); have HF2 := hide ((unhide HF1).below b2 (Nat.le_refl _)); obtain ⟨c0, c1, c2, c3, cf⟩ := (unhide HF2).cells; obtain ⟨y0, y1, y2, y3⟩ := unhide HCell w2 (unhide HB2); have HE := hide ((unhide HF2).put gn gt gi gs); have BE := hide (below_put (unhide HB2) (Nat.le_refl _) gn gt gi gs); clear b2)
    exact bodyPost_ret (results_ct rfl _ _ w.heap.size 48 (fv ⟨gn, gt, gi, gs⟩) (0, 0) _ (.bool true) rfl rfl (unhide HE) Tryz.underlying48 rfl sizeField) rfl ⟨rfl, unhide BE⟩
end Go.Proofs.YtingpmgpjmlioaaGreatDoor
