/-
  DERIVED. The law's awake.
-/
import Derived.Test.YtkgepklmhdjjnaaGreatDoorM2
import Derived.Test.YtkgepklmhdjjnaaGreatDoorM1
import Derived.BigQuiet
import Derived.Shelf.Spec.SlicesGrow
import Derived.Ground.Names8Prog
import Derived.Test.YtkgepklmhdjjnaaGreatDoorProg
namespace Go.Proofs.YtkgepklmhdjjnaaGreatDoor
open Go.RowKit Go.Maps
set_option linter.unusedVariables false

theorem Read_any (t : List UInt8) (w : World) (ht : t.length ≤ 140737488355328) (hva : Vars w) : Calls Tryz.prog 10 #[sv t] w (RdPost w (readAll t)) := by
  cases h : readAll t with
  | error n => exact Read_bad t w ht hva n h
  | ok S => exact Read_ok t w ht hva S h

theorem itoa7 : Lib.itoa 7 = [55] := by
  unfold Lib.itoa
  rw [if_neg (by decide)]
  show Lib.decDigits 7 = [55]
  rw [Lib.decDigits, dif_pos (by decide)]
  decide
theorem num7 : readNum [55] = some 7 := by
  have : Lib.atoiAll [55] = .ok 7 := by decide
  unfold readNum
  rw [this]
  simp [itoa7]
theorem num07 : readNum [48, 55] = none := by
  have : Lib.atoiAll [48, 55] = .ok 7 := by decide
  unfold readNum
  rw [this]
  simp [itoa7]

abbrev fA : Fld := ⟨[97], false, 7, []⟩
abbrev fB : Fld := ⟨[98], true, 0, [65, 46]⟩

theorem part_b : readP [98, 61, 39, 37, 52, 49, 46] = .ok fB := by
  have h1 : cutA 61 [98, 61, 39, 37, 52, 49, 46] = ([98], some [39, 37, 52, 49, 46]) := by decide
  have h2 : nameB [98] = true := by decide
  have h3 : readV [39, 37, 52, 49, 46] = some ⟨[], true, 0, [65, 46]⟩ := by
    have : unesc [37, 52, 49, 46] = some [65, 46] := by simp [unesc, hexV, digitB, plainB, markB, smallB, capB]
    show (readTxt [37, 52, 49, 46]).map _ = _
    simp [readTxt, this]
  unfold readP
  rw [h1]
  simp only [h2, h3, if_true, namedF]
theorem part_a : readP [97, 61, 55] = .ok fA := by
  have h1 : cutA 61 [97, 61, 55] = ([97], some [55]) := by decide
  have h2 : nameB [97] = true := by decide
  have h3 : readV [55] = some ⟨[], false, 7, []⟩ := by
    show (readNum [55]).map _ = _
    rw [num7]; rfl
  unfold readP
  rw [h1]
  simp only [h2, h3, if_true, namedF]
theorem part_07 : readP [97, 61, 48, 55] = .error 122 := by
  have h1 : cutA 61 [97, 61, 48, 55] = ([97], some [48, 55]) := by decide
  have h2 : nameB [97] = true := by decide
  have h3 : readV [48, 55] = none := by
    show (readNum [48, 55]).map _ = _
    rw [num07]; rfl
  unfold readP
  rw [h1]
  simp only [h2, h3, if_true, namedF]

theorem all_ba : readAll [98, 61, 39, 37, 52, 49, 46, 38, 97, 61, 55] = .ok [fB, fA] := by
  have h1 : splitA 38 [98, 61, 39, 37, 52, 49, 46, 38, 97, 61, 55] = [[98, 61, 39, 37, 52, 49, 46], [97, 61, 55]] := by decide
  unfold readAll
  rw [if_neg (by decide), h1]
  simp [foldParts, readStep, part_b, part_a]
theorem all_07 : readAll [97, 61, 48, 55] = .error 122 := by
  have h1 : splitA 38 [97, 61, 48, 55] = [[97, 61, 48, 55]] := by decide
  unfold readAll
  rw [if_neg (by decide), h1]
  simp [foldParts, readStep, part_07]

theorem rec_ab : IsRec [fB, fA] [fA, fB] := by
  refine ⟨?_, fun f => by simp; constructor <;> rintro (h | h) <;> simp [h]⟩
  unfold Rising
  simp
  decide

theorem check_ab : checkF [fA, fB] = 0 := by decide
theorem write_ab : writeT [fA, fB] = [97, 61, 55, 38, 98, 61, 39, 65, 46] := by
  have h1 : fldT fA = [97, 61, 55] := by unfold fldT valT; simp [itoa7]
  have h2 : fldT fB = [98, 61, 39, 65, 46] := by decide
  unfold writeT
  simp only [List.map_cons, List.map_nil, h1, h2]
  decide

set_option maxHeartbeats 4000000 in
theorem awake_go (w : World) (hva : Vars w) : Calls Tryz.prog 9 #[] w fun e w' => e = .returned (.bool true) ∧ Below w.heap.size w w' := by
  have hr1 := Read_any [98, 61, 39, 37, 52, 49, 46, 38, 97, 61, 55] w (by decide) hva
  rw [all_ba] at hr1
  have HR1 := hide hr1
  have HR2 : Hid (∀ W, Below w.heap.size w W → Calls Tryz.prog 10 #[sv [97, 61, 48, 55]] W (RdPost W (.error 122))) := hide (fun W hW => by have := Read_any [97, 61, 48, 55] W (by decide) (hva.below hW (Nat.le_refl _)); rwa [all_07] at this)
  have HVa := hide hva
  clear hr1 hva
  go_enter Tryz.func9, Tryz.ntmps9
  go_upto_region 2 with (go_at_call 10; refine (unhide HR1).mono ?_; rintro e w1 ⟨v, R, rfl, own1, hrec, -, b1⟩; obtain rfl := IsRec.unique hrec rec_ab; have HO1 := hide own1.fdl; have HB1 := hide b1; clear own1 b1 hrec)
  obtain ⟨ao, cap, rfl, h1, h2, h4⟩ := id (unhide HO1)
  obtain ⟨b, off, rfl, hlt, hc⟩ := h4 (by decide)
  obtain ⟨a0, a1, a2, a3⟩ := hc 0 (by decide)
  obtain ⟨b0, b1, b2, b3⟩ := hc 1 (by decide)
  have HW := hide (Write_ok _ _ _ [fA, fB] w1 (unhide HO1) (by intro f hf; simp at hf; rcases hf with rfl | rfl <;> (refine ⟨by decide, by decide, by decide, by decide⟩)) check_ab ((unhide HVa).below (unhide HB1) (Nat.le_refl _)))
  rw [write_ab] at HW
  have HN : Hid (w1.cell? ⟨b, off + 2, none⟩ = some (.int .i64 7)) := hide a2
  have HS : Hid (w1.cell? ⟨b, off + 1 * 4 + 3, none⟩ = some (sv [65, 46])) := hide b3
  clear h4 hc a0 a1 a2 a3 b0 b1 b2 b3 HR1
  go_upto_region 4 with (first | (go_at_call 35; refine (unhide HW).mono ?_; rintro e w2 ⟨rfl, c2⟩; have HB2 := hide ((unhide HB1).trans (c2.mono (unhide HB1).size)); have n2 := cell_kept c2 (Nat.le_refl _) (unhide HN); have s2 := cell_kept c2 (Nat.le_refl _) (unhide HS); clear c2) | (go_at_call 10; refine (unhide HR2 _ (unhide HB2)).mono ?_; rintro e w3 ⟨rfl, c3⟩; have HB3 := hide ((unhide HB2).trans (c3.mono (unhide HB2).size)); have n3 := cell_kept c3 (Nat.le_refl _) n2; have s3 := cell_kept c3 (Nat.le_refl _) s2; clear c3))
  clear n2 s2
  go_wp2_with fail
  go_ret
  exact ⟨rfl, unhide HB3⟩
end Go.Proofs.YtkgepklmhdjjnaaGreatDoor

/-
  DERIVED. The document's Same, of lists that are the same.
-/
namespace Go.Proofs.YtkgepklmhdjjnaaGreatDoor
open Go.RowKit
set_option linter.unusedVariables false

theorem fdl_cells {w : World} {v : Value} {fs : List Fld} (h : FdL w v fs) : ∃ a c, v = .slice a fs.length c ∧ fs.length ≤ c ∧ c ≤ 9223372036854775807 ∧ ∀ k f, fs[k]? = some f → ∃ b off, a = some ⟨b, off, none⟩ ∧ b < w.heap.size ∧ w.cell? ⟨b, off + k * 4, none⟩ = some (sv f.name) ∧ w.cell? ⟨b, off + k * 4 + 1, none⟩ = some (.bool f.text) ∧ w.cell? ⟨b, off + k * 4 + 2, none⟩ = some (.int .i64 f.n) ∧ w.cell? ⟨b, off + k * 4 + 3, none⟩ = some (sv f.s) := by
  obtain ⟨ao, cap, rfl, h1, h2, h4⟩ := h
  refine ⟨ao, cap, rfl, h1, h2, fun k f hk => ?_⟩
  obtain ⟨hl, e⟩ := List.getElem?_eq_some_iff.1 hk
  obtain ⟨b, off, e2, hb, hc⟩ := h4 (by omega)
  have := hc k hl
  rw [e] at this
  exact ⟨b, off, e2, hb, this⟩

set_option maxHeartbeats 4000000 in
theorem Same_eq (u v : Value) (R : List Fld) (w : World) (hu : FdL w u R) (hv : FdL w v R) :
    Calls Tryz.prog 12 #[u, v] w fun e w' => e = .returned (.bool true) ∧ Below w.heap.size w w' := by
  obtain ⟨a, c, rfl, hac, hc63, ha⟩ := fdl_cells hu
  obtain ⟨b, d, rfl, hbd, hd63, hb⟩ := fdl_cells hv
  have HA := hide ha
  have HB := hide hb
  obtain ⟨N, hN⟩ : ∃ N, N = R.length := ⟨_, rfl⟩
  have HN := hide hN
  rw [← hN] at hac hbd ⊢
  clear ha hb hu hv hN
  go_enter Tryz.func12, Tryz.ntmps12
  go_wp2_with fail
  go_loopw [5] (fun i wr => ∃ (k : Nat), k ≤ N ∧ i = .int .i64 k ∧ Hid (∃ nq, wr = w.drewN nq)) (fun i _ => N - (intOf i).toNat)
  case atStart => exact ⟨0, by omega, rfl, hide ⟨0, rfl⟩⟩
  case round =>
    obtain ⟨k, hk, rfl, HW⟩ := hrel
    by_cases hlt : k < N
    · obtain ⟨⟨fn, ft, fi, fss⟩, hf⟩ : ∃ f, R[k]? = some f := ⟨_, List.getElem?_eq_getElem (by have := unhide HN; omega)⟩
      obtain ⟨b1, o1, rfl, _, x0, x1, x2, x3⟩ := unhide HA k _ hf
      obtain ⟨b2, o2, rfl, _, y0, y1, y2, y3⟩ := unhide HB k _ hf
      simp only at x0 x1 x2 x3 y0 y1 y2 y3
      have HX : Hid (∀ nq, (w.drewN nq).cell? ⟨b1, o1 + k * 4, none⟩ = some (sv fn) ∧ (w.drewN nq).cell? ⟨b1, o1 + k * 4 + 1, none⟩ = some (.bool ft) ∧ (w.drewN nq).cell? ⟨b1, o1 + k * 4 + 2, none⟩ = some (.int .i64 fi) ∧ (w.drewN nq).cell? ⟨b1, o1 + k * 4 + 3, none⟩ = some (sv fss)) := hide (fun nq => ⟨x0, x1, x2, x3⟩)
      have HY : Hid (∀ nq, (w.drewN nq).cell? ⟨b2, o2 + k * 4, none⟩ = some (sv fn) ∧ (w.drewN nq).cell? ⟨b2, o2 + k * 4 + 1, none⟩ = some (.bool ft) ∧ (w.drewN nq).cell? ⟨b2, o2 + k * 4 + 2, none⟩ = some (.int .i64 fi) ∧ (w.drewN nq).cell? ⟨b2, o2 + k * 4 + 3, none⟩ = some (sv fss)) := hide (fun nq => ⟨y0, y1, y2, y3⟩)
      clear x0 x1 x2 x3 y0 y1 y2 y3 hf
      obtain ⟨nq, hq⟩ := unhide HW
      have q0 : wr.cell? ⟨b1, o1 + k * 4, none⟩ = some (sv fn) ∧ wr.cell? ⟨b1, o1 + k * 4 + 1, none⟩ = some (.bool ft) ∧ wr.cell? ⟨b1, o1 + k * 4 + 2, none⟩ = some (.int .i64 fi) ∧ wr.cell? ⟨b1, o1 + k * 4 + 3, none⟩ = some (sv fss) := by rw [hq]; exact unhide HX nq
      have q1 : wr.cell? ⟨b2, o2 + k * 4, none⟩ = some (sv fn) ∧ wr.cell? ⟨b2, o2 + k * 4 + 1, none⟩ = some (.bool ft) ∧ wr.cell? ⟨b2, o2 + k * 4 + 2, none⟩ = some (.int .i64 fi) ∧ wr.cell? ⟨b2, o2 + k * 4 + 3, none⟩ = some (sv fss) := by rw [hq]; exact unhide HY nq
      obtain ⟨x0, x1, x2, x3⟩ := q0
      obtain ⟨y0, y1, y2, y3⟩ := q1
      have HW2 : Hid (∃ nq, wr.drew = w.drewN nq) := hide ⟨nq + 1, by rw [hq]; rfl⟩
      clear hq
      go_wp2_with fail
      go_region
      go_wp2
      go_roundw
      case rel => exact ⟨k + 1, by omega, by go_num, HW2⟩
      case measure => simp [intOf]; omega
    · go_wp2_with fail
      go_ret
      refine ⟨rfl, ?_⟩
      obtain ⟨nq, hq⟩ := unhide HW
      rw [hq]
      exact below_drewN (Below.refl _ _) nq
end Go.Proofs.YtkgepklmhdjjnaaGreatDoor

/-
  DERIVED. The walks of place and Get.
-/
namespace Go.Proofs.YtkgepklmhdjjnaaGreatDoor
open Go.RowKit Go.Maps
set_option linter.unusedVariables false

/-- Where the first field of a name stands; if there is none: ahead of the first field whose name is above it. -/
def atF (r : List Fld) (nm : List UInt8) : Nat := match r.findIdx? (fun f => f.name == nm) with
  | some i => i
  | none => r.findIdx (fun f => decide (nm < f.name))
def hasF (r : List Fld) (nm : List UInt8) : Bool := r.any (fun f => f.name == nm)

/-- What is known behind k fields: none of them is called so; the first above is at u, or there is none, then u is the length. -/
structure PlSt (r : List Fld) (nm : List UInt8) (k u : Nat) : Prop where
  no : ∀ f ∈ r.take k, f.name ≠ nm
  up : u ≤ r.length
  below : ∀ i f, i < k → i < u → r[i]? = some f → ¬ nm < f.name
  at' : u < r.length → u < k ∧ ∃ f, r[u]? = some f ∧ nm < f.name

theorem PlSt.start (r : List Fld) (nm : List UInt8) : PlSt r nm 0 r.length :=
  ⟨fun f hf => by simp at hf, Nat.le_refl _, fun i f h => by omega, fun h => by omega⟩

theorem PlSt.next {r : List Fld} {nm : List UInt8} {k u : Nat} (h : PlSt r nm k u) {f : Fld} (hf : r[k]? = some f) (hne : f.name ≠ nm) (hk : k < r.length) : PlSt r nm (k + 1) (if nm < f.name then min u k else u) := by
  refine ⟨?_, ?_, ?_, ?_⟩
  · intro g hg
    rw [List.take_add_one, hf] at hg
    rcases List.mem_append.1 hg with hg | hg
    · exact h.no g hg
    · simp at hg; rw [hg]; exact hne
  · split
    · have := h.up; omega
    · exact h.up
  · intro i g hi hu hg
    by_cases e : i = k
    · subst e
      rw [hf] at hg
      cases hg
      split at hu
      · omega
      · rename_i hn; exact hn
    · refine h.below i g (by omega) ?_ hg
      split at hu <;> omega
  · intro hu
    split at hu
    · rename_i hl
      rw [if_pos hl]
      by_cases e : u < r.length
      · obtain ⟨h1, h2⟩ := h.at' e
        rw [Nat.min_eq_left (by omega)]
        exact ⟨by omega, h2⟩
      · rw [Nat.min_eq_right (by omega)]
        exact ⟨by omega, f, hf, hl⟩
    · rename_i hl
      rw [if_neg hl]
      obtain ⟨h1, h2⟩ := h.at' hu
      exact ⟨by omega, h2⟩

theorem findIdx_of {α : Type} {p : α → Bool} : ∀ {r : List α} {u : Nat}, u ≤ r.length → (∀ i x, i < u → r[i]? = some x → p x = false) → (u < r.length → ∃ x, r[u]? = some x ∧ p x = true) → r.findIdx p = u
  | [], u, hu, _, _ => by simp at hu ⊢; omega
  | a :: r, 0, _, _, h => by
    obtain ⟨x, hx, hp⟩ := h (by simp)
    simp at hx
    subst hx
    rw [List.findIdx_cons, hp]; rfl
  | a :: r, u + 1, hu, hb, h => by
    have ha := hb 0 a (by omega) rfl
    rw [List.findIdx_cons, ha]
    have := findIdx_of (p := p) (r := r) (u := u) (by simpa using hu) (fun i x hi hx => hb (i + 1) x (by omega) (by simpa using hx)) (fun hl => by
      obtain ⟨x, hx, hp⟩ := h (by simpa using hl)
      exact ⟨x, by simpa using hx, hp⟩)
    rw [this]; rfl

theorem PlSt.done {r : List Fld} {nm : List UInt8} {u : Nat} (h : PlSt r nm r.length u) : atF r nm = u ∧ hasF r nm = false := by
  have hno : ∀ f ∈ r, f.name ≠ nm := fun f hf => h.no f (by rw [List.take_of_length_le (Nat.le_refl _)]; exact hf)
  have h1 : r.findIdx? (fun f => f.name == nm) = none := by
    rw [List.findIdx?_eq_none_iff]; intro f hf; simpa using hno f hf
  refine ⟨?_, ?_⟩
  · unfold atF
    rw [h1]
    exact findIdx_of h.up (fun i x hi hx => by
      have := h.below i x (by have := h.up; omega) hi hx
      simpa using this) (fun hl => by
      obtain ⟨_, x, hx, hp⟩ := h.at' hl
      exact ⟨x, hx, by simpa using hp⟩)
  · unfold hasF
    rw [List.any_eq_false]; intro f hf; simpa using hno f hf

theorem PlSt.found {r : List Fld} {nm : List UInt8} {k u : Nat} (h : PlSt r nm k u) {f : Fld} (hf : r[k]? = some f) (he : f.name = nm) : atF r nm = k ∧ hasF r nm = true := by
  have hk := (List.getElem?_eq_some_iff.1 hf).1
  have h1 : r.findIdx? (fun f => f.name == nm) = some k := by
    rw [List.findIdx?_eq_some_iff_getElem]
    refine ⟨hk, ?_, ?_⟩
    · have : r[k] = f := (List.getElem?_eq_some_iff.1 hf).2
      rw [this]; simpa using he
    · intro j hj
      have hm : r[j] ∈ r.take k := by
        rw [List.mem_iff_getElem?]
        exact ⟨j, by rw [List.getElem?_take_of_lt hj, List.getElem?_eq_getElem (by omega)]⟩
      simpa using h.no _ hm
  refine ⟨by unfold atF; rw [h1], ?_⟩
  unfold hasF
  rw [List.any_eq_true]
  exact ⟨f, List.mem_of_getElem? hf, by simpa using he⟩

abbrev plV (r : List Fld) (nm : List UInt8) : Value := .tuple #[.int .i64 (atF r nm : Nat), .int .i64 ((atF r nm + (if hasF r nm then 1 else 0) : Nat) : Int)]

theorem str_gt (a p : List UInt8) : (!(Op.bytesLess a p || a == p)) = decide (p < a) := by
  rw [str_le]
  by_cases h : a ≤ p
  · have : ¬ p < a := fun hl => (List.not_le.2 hl) h
    simp [h, this]
  · simp [h, List.not_le.1 h]

set_option maxHeartbeats 4000000 in
theorem place_any (a : Option Addr) (n c : Nat) (fs : List Fld) (nm : List UInt8) (w : World) (hv : FdL w (.slice a n c) fs) :
    Calls Tryz.prog 50 #[.slice a n c, sv nm] w fun e w' => e = .returned (plV fs nm) ∧ Below w.heap.size w w' := by
  obtain ⟨ao, cap, e, g1, g2, g4⟩ := id hv
  cases e
  obtain ⟨N, hN⟩ : ∃ N, N = fs.length := ⟨_, rfl⟩
  have HN := hide hN
  have H4 := hide g4
  have HS : Hid (PlSt fs nm 0 N) := hide (by rw [hN]; exact PlSt.start fs nm)
  rw [← hN] at g1 ⊢
  clear g4 hN hv
  go_enter Tryz.func50, Tryz.ntmps50
  go_wp2_with fail
  go_loopw [6, 7, 8, 13] (fun u _ _ i wr => ∃ (k q : Nat), k ≤ N ∧ q ≤ N ∧ u = .int .i64 q ∧ i = .int .i64 k ∧ Hid (PlSt fs nm k q) ∧ Hid (Below w.heap.size w wr)) (fun _ _ _ i _ => N - (intOf i).toNat)
  case atStart => exact ⟨0, N, by omega, by omega, rfl, rfl, HS, hide (Below.refl _ _)⟩
  case round =>
    obtain ⟨k, q, hk, hq, rfl, rfl, HP, HB⟩ := hrel
    clear HS
    by_cases hlt : k < N
    · have hkl : k < fs.length := by have := unhide HN; omega
      obtain ⟨b, off, rfl, hb, hc⟩ := unhide H4 (by omega)
      obtain ⟨c0, c1, c2, c3⟩ := hc k hkl
      obtain ⟨f, hf⟩ : ∃ f, f = fs[k] := ⟨_, rfl⟩
      rw [← hf] at c0 c1 c2 c3
      have hfk : fs[k]? = some f := by rw [hf]; exact List.getElem?_eq_getElem hkl
      have d0 := ((unhide HB).cell (p := ⟨b, off + k * 4, none⟩) hb).trans c0
      have d1 := ((unhide HB).cell (p := ⟨b, off + k * 4 + 1, none⟩) hb).trans c1
      have d2 := ((unhide HB).cell (p := ⟨b, off + k * 4 + 2, none⟩) hb).trans c2
      have d3 := ((unhide HB).cell (p := ⟨b, off + k * 4 + 3, none⟩) hb).trans c3
      have hsz := (unhide HB).size
      have HBx := hide ((unhide HB).alloc hsz (.cells (fv f) 33))
      clear hf hc c0 c1 c2 c3
      obtain ⟨fn, ft, fi, fss⟩ := f
      simp only at d0 d1 d2 d3
      by_cases he : fn = nm
      · obtain ⟨e1, e2⟩ := (unhide HP).found hfk he
        have HR : Hid (plV fs nm = .tuple #[.int .i64 (k : Int), .int .i64 ((k : Int) + 1)]) := hide (by unfold plV; rw [e1, e2]; rfl)
        have hbq : (fn == nm) = true := beq_iff_eq.2 he
        clear he hfk e1 e2
        go_wp2_with fail
        go_ret2
        rw [unhide HR]
        exact ⟨rfl, unhide HBx⟩
      · have hnx := (unhide HP).next hfk he hkl
        have hbq : (fn == nm) = false := beq_eq_false_iff_ne.2 he
        by_cases hgt : nm < fn
        · rw [if_pos hgt] at hnx
          have HNx := hide hnx
          have hq1 : Op.bytesLess fn nm = false := by rw [Go.Proofs.bytesLess_eq]; exact decide_eq_false (fun hl => List.lt_irrefl _ (List.lt_trans hl hgt))
          obtain ⟨mn, hmn⟩ : ∃ mn, mn = min q k := ⟨_, rfl⟩
          have hmi : min (q : Int) (k : Int) = (mn : Int) := by rw [hmn]; omega
          rw [← hmn] at HNx
          have hml : mn ≤ N := by omega
          clear he hfk hgt hnx hmn
          go_wp2_with fail
          go_roundw
          case rel => exact ⟨k + 1, mn, by omega, hml, rfl, by go_num, HNx, HBx⟩
          case measure => simp [intOf]; omega
        · rw [if_neg hgt] at hnx
          have HNx := hide hnx
          have hq1 : Op.bytesLess fn nm = true := by rw [Go.Proofs.bytesLess_eq]; exact decide_eq_true (le_lt (List.not_lt.1 hgt) he)
          clear he hfk hgt hnx
          go_wp2_with fail
          go_roundw
          case rel => exact ⟨k + 1, q, by omega, hq, rfl, by go_num, HNx, HBx⟩
          case measure => simp [intOf]; omega
    · have hkN : k = fs.length := by have := unhide HN; omega
      obtain ⟨e1, e2⟩ := (show PlSt fs nm fs.length q by rw [← hkN]; exact unhide HP).done
      have HR : Hid (plV fs nm = .tuple #[.int .i64 (q : Int), .int .i64 (q : Int)]) := hide (by unfold plV; rw [e1, e2]; rfl)
      clear hkN e1 e2
      go_wp2_with fail
      go_ret2
      rw [unhide HR]
      exact ⟨rfl, unhide HB⟩

def getA (r : List Fld) (nm : List UInt8) : Fld := (r.find? (fun f => f.name == nm)).getD fld0

theorem at_get {r : List Fld} {nm : List UInt8} (h : hasF r nm = true) : atF r nm < r.length ∧ r[atF r nm]? = some (getA r nm) := by
  unfold hasF at h
  rw [List.any_eq_true] at h
  obtain ⟨f, hf, hp⟩ := h
  unfold atF getA
  have h1 : (r.find? (fun f => f.name == nm)).isSome := by
    rw [List.find?_isSome]; exact ⟨f, hf, hp⟩
  have h2 := List.findIdx?_isSome (xs := r) (p := fun f => f.name == nm)
  cases hi : r.findIdx? (fun f => f.name == nm) with
  | none =>
    rw [List.findIdx?_eq_none_iff] at hi
    exact absurd hp (by simpa using hi f hf)
  | some i =>
    obtain ⟨hl, hq, hb⟩ := List.findIdx?_eq_some_iff_getElem.1 hi
    refine ⟨hl, ?_⟩
    rw [List.getElem?_eq_getElem hl]
    have : r.find? (fun f => f.name == nm) = some r[i] := by
      rw [List.find?_eq_some_iff_getElem]
      exact ⟨hq, i, hl, rfl, fun j hj => by simpa using hb j hj⟩
    rw [this]; rfl
theorem get_none {r : List Fld} {nm : List UInt8} (h : hasF r nm = false) : getA r nm = fld0 := by
  unfold hasF at h
  rw [List.any_eq_false] at h
  unfold getA
  have : r.find? (fun f => f.name == nm) = none := by
    rw [List.find?_eq_none]; intro f hf; simpa using h f hf
  rw [this]; rfl

set_option maxHeartbeats 2000000 in
theorem Get_any (a : Option Addr) (n c : Nat) (fs : List Fld) (nm : List UInt8) (w : World) (hv : FdL w (.slice a n c) fs) :
    Calls Tryz.prog 19 #[.slice a n c, sv nm] w fun e w' => e = .returned (.tuple #[.agg (fv (getA fs nm)), .bool (hasF fs nm)]) ∧ Below w.heap.size w w' := by
  have HPl : Hid (∀ W, Below w.heap.size w W → Calls Tryz.prog 50 #[.slice a n c, sv nm] W fun e w' => e = .returned (plV fs nm) ∧ Below W.heap.size W w') := hide (fun W hW => place_any a n c fs nm W (hv.below hW (Nat.le_refl _)))
  obtain ⟨a', c', e, hac, hc63, hcells⟩ := fdl_cells hv
  cases e
  cases hh : hasF fs nm with
  | false =>
    have HG := hide (get_none hh)
    have HPV : Hid (plV fs nm = .tuple #[.int .i64 (atF fs nm : Nat), .int .i64 (atF fs nm : Nat)]) := hide (by unfold plV; rw [hh]; rfl)
    obtain ⟨q, hq⟩ : ∃ q, q = atF fs nm := ⟨_, rfl⟩
    rw [← hq] at HPV
    rw [unhide HPV] at HPl
    clear hv hcells hh hq
    go_enter Tryz.func19, Tryz.ntmps19
    go_upto_region 1 with fail
    have hb1 : Below w.heap.size w (w.alloc (.cells (fv fld0) 33)) := (Below.refl _ _).alloc (Nat.le_refl _) _
    have hf1 := FBox.new w fld0
    obtain ⟨w1, hw1⟩ : ∃ w1, w1 = w.alloc (.cells (fv fld0) 33) := ⟨_, rfl⟩
    rw [← hw1] at hb1 hf1
    rw [show w.alloc (.cells #[Value.string ⟨#[]⟩, .bool false, .int .i64 0, Value.string ⟨#[]⟩] 33) = w1 from hw1.symm]
    have HB1 := hide hb1
    have HF1 := hide hf1
    clear hw1 hb1 hf1
    go_wp2_with (go_at_call 50; refine (unhide HPl _ (unhide HB1)).mono ?_; rintro e w2 ⟨rfl, b2⟩; have HB2 := hide ((unhide HB1).trans (b2.mono (unhide HB1).size)); have HF2 := hide ((unhide HF1).below b2 (Nat.le_refl _)); obtain ⟨c0, c1, c2, c3, cf⟩ := (unhide HF2).cells; have HE := hide ((unhide HF2).put [] false 0 []); have BE := hide (below_put (unhide HB2) (Nat.le_refl _) [] false 0 []); clear b2)
    exact bodyPost_ret (results_ct rfl _ _ w.heap.size 33 (fv fld0) (0, 0) _ (.bool false) rfl rfl (unhide HE) Tryz.underlying33 rfl sizeField) rfl ⟨by rw [unhide HG], unhide BE⟩
  | true =>
    obtain ⟨hql, hqf⟩ := at_get hh
    have HPV : Hid (plV fs nm = .tuple #[.int .i64 (atF fs nm : Nat), .int .i64 ((atF fs nm : Nat) + 1 : Int)]) := hide (by unfold plV; rw [hh]; rfl)
    obtain ⟨q, hq⟩ : ∃ q, q = atF fs nm := ⟨_, rfl⟩
    rw [← hq] at HPV hql hqf
    rw [unhide HPV] at HPl
    obtain ⟨⟨gn, gt, gi, gs⟩, hg⟩ : ∃ g, g = getA fs nm := ⟨_, rfl⟩
    rw [← hg] at hqf ⊢
    obtain ⟨b, off, rfl, hb, x0, x1, x2, x3⟩ := hcells q _ hqf
    have HCell : Hid (∀ W, Below w.heap.size w W → W.cell? ⟨b, off + q * 4, none⟩ = some (sv gn) ∧ W.cell? ⟨b, off + q * 4 + 1, none⟩ = some (.bool gt) ∧ W.cell? ⟨b, off + q * 4 + 2, none⟩ = some (.int .i64 gi) ∧ W.cell? ⟨b, off + q * 4 + 3, none⟩ = some (sv gs)) := hide (fun W hW => ⟨(hW.cell (p := ⟨b, off + q * 4, none⟩) hb).trans x0, (hW.cell (p := ⟨b, off + q * 4 + 1, none⟩) hb).trans x1, (hW.cell (p := ⟨b, off + q * 4 + 2, none⟩) hb).trans x2, (hW.cell (p := ⟨b, off + q * 4 + 3, none⟩) hb).trans x3⟩)
    have hqi : ((q : Int) == (q : Int) + 1) = false := by simp; omega
    have hqN : (q : Int) < (fs.length : Int) := by omega
    clear hv hcells hh hq hqf hg x0 x1 x2 x3
    go_enter Tryz.func19, Tryz.ntmps19
    go_upto_region 1 with fail
    have hb1 : Below w.heap.size w (w.alloc (.cells (fv fld0) 33)) := (Below.refl _ _).alloc (Nat.le_refl _) _
    have hf1 := FBox.new w fld0
    obtain ⟨w1, hw1⟩ : ∃ w1, w1 = w.alloc (.cells (fv fld0) 33) := ⟨_, rfl⟩
    rw [← hw1] at hb1 hf1
    rw [show w.alloc (.cells #[Value.string ⟨#[]⟩, .bool false, .int .i64 0, Value.string ⟨#[]⟩] 33) = w1 from hw1.symm]
    have HB1 := hide hb1
    have HF1 := hide hf1
    clear hw1 hb1 hf1
    go_wp2_with (go_at_call 50; refine (unhide HPl _ (unhide HB1)).mono ?_; rintro e w2 ⟨rfl, b2⟩; have HB2 := hide ((unhide HB1).trans (b2.mono (unhide HB1).size)); have HF2 := hide ((unhide HF1).below b2 (Nat.le_refl _)); obtain ⟨c0, c1, c2, c3, cf⟩ := (unhide HF2).cells; obtain ⟨y0, y1, y2, y3⟩ := unhide HCell w2 (unhide HB2); have HE := hide ((unhide HF2).put gn gt gi gs); have BE := hide (below_put (unhide HB2) (Nat.le_refl _) gn gt gi gs); clear b2)
    exact bodyPost_ret (results_ct rfl _ _ w.heap.size 33 (fv ⟨gn, gt, gi, gs⟩) (0, 0) _ (.bool true) rfl rfl (unhide HE) Tryz.underlying33 rfl sizeField) rfl ⟨rfl, unhide BE⟩
end Go.Proofs.YtkgepklmhdjjnaaGreatDoor

/-
  DERIVED. The numbers of this dump for the library's slices.Grow, written out by the guide's own tool.
-/
namespace Go.Proofs.YtkgepklmhdjjnaaGreatDoor
open Go.Shelf
def Tryz.growF_ren : Go.Shelf.Ren := ⟨fun | 4 => 91 | n => n, fun | 22 => 23 | 25 => 33 | 3 => 3 | 4 => 4 | 9 => 9 | 20 => 20 | 0 => 0 | n => n, fun | n => n⟩
theorem Tryz.growF : Go.Proofs.Lays8.n4 Tryz.prog Tryz.growF_ren := {
  mixed := by kernel_rfl
  f4 := ⟨Tryz.f91.name, by decide, Tryz.func91.trans (congrArg some (by kernel_rfl))⟩
  t0 := Tryz.underlying0
  a0 := Tryz.isAgg0
  z0 := Tryz.sizeOf0
  v0 := Tryz.zeroValue0
  t3 := Tryz.underlying3
  a3 := Tryz.isAgg3
  z3 := Tryz.sizeOf3
  v3 := Tryz.zeroValue3
  t4 := Tryz.underlying4
  a4 := Tryz.isAgg4
  z4 := Tryz.sizeOf4
  v4 := Tryz.zeroValue4
  t9 := Tryz.underlying9
  a9 := Tryz.isAgg9
  z9 := Tryz.sizeOf9
  v9 := Tryz.zeroValue9
  t20 := Tryz.underlying20
  a20 := Tryz.isAgg20
  z20 := Tryz.sizeOf20
  v20 := Tryz.zeroValue20
  t22 := Tryz.underlying23
  a22 := Tryz.isAgg23
  z22 := Tryz.sizeOf23
  v22 := Tryz.zeroValue23 }
end Go.Proofs.YtkgepklmhdjjnaaGreatDoor

/-
  DERIVED. slices.Grow and slices.Concat at []api.Field.
-/
namespace Go.Proofs.YtkgepklmhdjjnaaGreatDoor
open Go.RowKit Go.Maps
set_option linter.unusedVariables false

/-- A slice that reads as these fields; without memory it has no room. -/
def FdN (w : World) (a : Option Addr) (c : Nat) (fs : List Fld) : Prop := FdL w (.slice a fs.length c) fs ∧ (c ≠ 0 → ∃ b off, a = some ⟨b, off, none⟩)
theorem FdN.below {B : Nat} {w w' : World} {a : Option Addr} {c : Nat} {fs : List Fld} (h : FdN w a c fs) (hb : Below B w w') (hB : w.heap.size ≤ B) : FdN w' a c fs := ⟨h.1.below hb hB, h.2⟩

theorem fown_nil (w : World) (base : Nat) : FOwn w base (.slice none 0 0) [] := World.ownsRow_nil _ _ _ _

theorem FOwn.fdn {w : World} {base : Nat} {v : Value} {R : List Fld} (h : FOwn w base v R) : ∃ a c, v = .slice a R.length c ∧ FdN w a c R := by
  rcases h.2 with ⟨rfl, h0⟩ | ⟨g, cap, cur, rfl, hb, _⟩
  · refine ⟨none, 0, by rw [h0], ?_, fun h => absurd rfl h⟩
    have := h.fdl
    rw [h0]; exact this
  · exact ⟨some ⟨g, 0, none⟩, cap, rfl, h.fdl, fun _ => ⟨g, 0, rfl⟩⟩

/-- slices.Grow of no slice. -/
theorem Grow_go (n : Nat) (w : World) (hn : n * 48 ≤ 140737488355328) :
    Calls Tryz.prog 91 #[.slice none 0 0, .int .i64 (n : Int)] w fun e w' => ∃ v, e = .returned v ∧ FOwn w' w.heap.size v [] ∧ Below w.heap.size w w' := by
  by_cases h0 : n = 0
  · subst h0
    refine (Any8.slices_Grow_room Tryz.growF none 0 0 0 w (by omega) (by omega) (by omega) (by omega)).mono ?_
    rintro e w' ⟨rfl, rfl⟩
    exact ⟨_, rfl, fown_nil _ _, Below.refl _ _⟩
  · obtain ⟨i, hi, hh⟩ := Option.map_eq_some_iff.1 Tryz.infoField
    simp only [Prod.mk.injEq] at hh
    refine (Any8.slices_Grow_grow Tryz.growF i (.agg (fv fld0)) hi hh.1 (by rw [hh.2.1]; omega) none 0 0 n [] w (by omega) (by omega) (by rw [hh.2.2]; omega) (by omega) (by simp) (fun _ => rfl) (fun a e => by cases e)).mono ?_
    rintro e w' ⟨rfl, rfl⟩
    refine ⟨_, rfl, ?_, ((Below.refl _ _).drew).alloc (Nat.le_refl _) _⟩
    have hge := grownCap_ge w (0 + n) 0 33
    have hle := grownCap_le_maxLen w (0 + n) 0 33 (by unfold maxLen; omega)
    refine ⟨rfl, .inr ⟨w.heap.size, _, _, rfl, Nat.le_refl _, heap_alloc_new _ _, Nat.zero_le _, hle, ?_, by simp [fcs]⟩⟩
    simp only [Array.size_append, List.size_toArray, List.length_nil, size_zeroCells]
    have e4 : (Value.agg (fv fld0)).cells.size = 4 := rfl
    rw [e4]
    show 0 + (0 + n - 0) * 4 + (grownCap w (0 + n) 0 33 - (0 + n)) * 4 = grownCap w (0 + n) 0 33 * 4
    omega

theorem fcs_at {w : World} {b off : Nat} {m : List Fld} (hc : ∀ i, (h : i < m.length) → w.cell? ⟨b, off + i * 4, none⟩ = some (sv m[i].name) ∧ w.cell? ⟨b, off + i * 4 + 1, none⟩ = some (.bool m[i].text) ∧ w.cell? ⟨b, off + i * 4 + 2, none⟩ = some (.int .i64 m[i].n) ∧ w.cell? ⟨b, off + i * 4 + 3, none⟩ = some (sv m[i].s)) : ∀ j u, (fcs m)[j]? = some u → w.cell? ((⟨b, off, none⟩ : Addr).add j) = some u := by
  intro j u hj
  rw [addr_add]
  have hl := (List.getElem?_eq_some_iff.1 hj).1
  rw [fcs_len] at hl
  have hi : j / 4 < m.length := by omega
  obtain ⟨g0, g1, g2, g3⟩ := fcs_get m (j / 4) hi
  obtain ⟨c0, c1, c2, c3⟩ := hc (j / 4) hi
  have hr : j % 4 = 0 ∨ j % 4 = 1 ∨ j % 4 = 2 ∨ j % 4 = 3 := by omega
  rcases hr with hr | hr | hr | hr
  · have e : j = j / 4 * 4 := by omega
    rw [e, g0] at hj; rw [e, c0, ← hj]
  · have e : j = j / 4 * 4 + 1 := by omega
    rw [e, g1] at hj; rw [e, ← Nat.add_assoc, c1, ← hj]
  · have e : j = j / 4 * 4 + 2 := by omega
    rw [e, g2] at hj; rw [e, ← Nat.add_assoc, c2, ← hj]
  · have e : j = j / 4 * 4 + 3 := by omega
    rw [e, g3] at hj; rw [e, ← Nat.add_assoc, c3, ← hj]

/-- append(v, y...) -/
theorem wpList_append_flds {w : World} {ops : Array Oper} {rest : List Oper} {o : Oper} {a : Act} {Q : Exit → Act → World → Prop} (hgd : o.guard = none) (s x : Operand)
    (ho : o.op = .call { callee := .builtin .append, args := #[s, x], argTypes := #[23, 23] })
    (base : Nat) (v : Value) (R : List Fld) (hs : a.eval s = v) (hown : FOwn w base v R) (ya : Option Addr) (yc : Nat) (m : List Fld) (hx : a.eval x = .slice ya m.length yc) (hy : FdN w ya yc m) (hlen : (R.length + m.length) * 48 ≤ 140737488355328) (hbase : base ≤ w.heap.size)
    (h : ∀ v' w', FOwn w' base v' (R ++ m) → Below base w w' → wpList Tryz.prog ops Q rest (a.put o.dst v') w') : wpList Tryz.prog ops Q (o :: rest) a w := by
  obtain ⟨i0, hi, hh⟩ := Option.map_eq_some_iff.1 Tryz.infoField
  simp only [Prod.mk.injEq] at hh
  obtain ⟨hf, hnil⟩ := hy
  obtain ⟨ao, cap, e, h1, h2, h4⟩ := hf
  cases e
  cases ya with
  | none =>
    obtain rfl : yc = 0 := by
      by_cases hz : yc = 0
      · exact hz
      · obtain ⟨_, _, e⟩ := hnil hz; cases e
    have hm : m = [] := List.eq_nil_of_length_eq_zero (by omega)
    subst hm
    refine wpList_append_own_none hgd s x 23 ho base 33 i0 4 Tryz.underlying23 hi v R.length (fcs R) hs hown hx ?_
    exact h v w (by simpa using hown) (Below.refl _ _)
  | some ad =>
    refine wpList_append_own w hgd s x 23 ho base 33 i0 (.agg (fv fld0)) 4 48 Tryz.underlying23 hi hh.1 hh.2.1 hh.2.2 rfl (by decide) v R.length (fcs R) hs hown ad m.length yc (fcs m) hx (by rw [fcs_len]) (fun j u hj => by
      have hl := (List.getElem?_eq_some_iff.1 hj).1
      rw [fcs_len] at hl
      obtain ⟨b, off, e, _, hc⟩ := h4 (by omega)
      cases e
      exact fcs_at hc j u hj) (fcs_one m) (by unfold maxLen; omega) (by omega) hbase ?_
    intro v' w' ho' hgr _
    refine h v' w' (by unfold FOwn; rw [fcs_append, List.length_append]; exact ho') ((Below.refl _ _).grown hgr hbase ?_)
    intro k hk
    rcases hown.2 with ⟨rfl, _⟩ | ⟨g, cap', cur, rfl, hb, _⟩
    · cases hk
    · simp only [Value.ownBlock, Option.some.injEq] at hk; omega

/-- A part that is put behind others: its address, its room, its fields. -/
abbrev Prt := Option Addr × Nat × List Fld
def flatP (ps : List Prt) : List Fld := ps.flatMap (fun p => p.2.2)
def sumP (ps : List Prt) : Nat := (ps.map (fun p => p.2.2.length)).sum
theorem sumP_snoc (ps : List Prt) (p : Prt) : sumP (ps ++ [p]) = sumP ps + p.2.2.length := by simp [sumP]
theorem sumP_flat (ps : List Prt) : (flatP ps).length = sumP ps := by simp [flatP, sumP, List.length_flatMap]
theorem sumP_take (ps : List Prt) (k : Nat) : sumP (ps.take k) ≤ sumP ps := by
  have := List.take_append_drop k ps
  rw [← this]
  simp only [sumP, List.map_append, List.sum_append]
  simp

set_option maxHeartbeats 4000000 in
theorem Concat_go (g N : Nat) (ps : List Prt) (w : World) (hN : N = ps.length) (hNl : N ≤ 1000) (hb : g < w.heap.size) (hrow : ∀ i p, ps[i]? = some p → w.cell? ⟨g, i, none⟩ = some (.slice p.1 p.2.2.length p.2.1) ∧ FdN w p.1 p.2.1 p.2.2) (hsum : sumP ps * 48 ≤ 140737488355328) :
    Calls Tryz.prog 51 #[.slice (some ⟨g, 0, none⟩) N N] w fun e w' => ∃ v, e = .returned v ∧ FOwn w' w.heap.size v (flatP ps) ∧ Below w.heap.size w w' := by
  have HN := hide hN
  have HRow := hide hrow
  obtain ⟨T, hT⟩ : ∃ T, T = sumP ps := ⟨_, rfl⟩
  have HT := hide hT
  have HTk : Hid (∀ k, sumP (ps.take k) ≤ T) := hide (fun k => by rw [hT]; exact sumP_take ps k)
  have HG := hide (Grow_go T w (by omega))
  rw [← hT] at hsum
  clear hrow hN hT
  go_enter Tryz.func51, Tryz.ntmps51
  go_wp2_with fail
  go_loopw [3, 5, 11] (fun z _ i wr => ∃ (k q : Nat), k ≤ N ∧ q ≤ T ∧ z = .int .i64 q ∧ i = .int .i64 k ∧ Hid (q = sumP (ps.take k)) ∧ Hid (wr = w)) (fun _ _ i _ => N - (intOf i).toNat)
  case atStart => exact ⟨0, 0, by omega, by omega, rfl, rfl, hide rfl, hide rfl⟩
  case round =>
    obtain ⟨k, q, hk, hqT, rfl, rfl, HQ, HW⟩ := hrel
    by_cases hlt : k < N
    · obtain ⟨⟨pa, pc, pl⟩, hp⟩ : ∃ p, ps[k]? = some p := ⟨_, List.getElem?_eq_getElem (by have := unhide HN; omega)⟩
      have hcell : wr.cell? ⟨g, k, none⟩ = some (.slice pa pl.length pc) := by rw [unhide HW]; exact (unhide HRow k _ hp).1
      have HQ2 : Hid (q + pl.length = sumP (ps.take (k + 1))) := hide (by rw [List.take_add_one, hp]; show _ = sumP (ps.take k ++ [_]); rw [sumP_snoc, ← unhide HQ])
      have hq2 : q + pl.length ≤ T := by rw [unhide HQ2]; exact unhide HTk _
      have hwr : IntKind.i64.wrap ((q : Int) + (pl.length : Int)) = ((q + pl.length : Nat) : Int) := by rw [IntKind.wrap_i64]; omega
      obtain ⟨q2, hq2e⟩ : ∃ q2, q2 = q + pl.length := ⟨_, rfl⟩
      rw [← hq2e] at HQ2 hq2 hwr
      have hn0 : ¬ (q2 : Int) < 0 := by omega
      clear hp hq2e
      go_wp2_with fail
      go_roundw
      case rel => exact ⟨k + 1, q2, by omega, hq2, by first | rfl | (simp; omega), by go_num, HQ2, HW⟩
      case measure => simp [intOf]; omega
    · have hqe : q = T := by rw [unhide HQ, List.take_of_length_le (by have := unhide HN; omega)]; exact (unhide HT).symm
      rw [unhide HW, hqe]
      clear HW HQ hqT hqe
      rename World => W0
      go_wp2_with (go_at_call 91; refine (unhide HG).mono ?_; rintro e w2 ⟨v, rfl, own2, b2⟩; have HO2 : Hid (FOwn w2 w.heap.size v (flatP (ps.take 0))) := hide own2; have HB2 := hide b2; clear own2 b2)
      go_loopw [6, 8, 27] (fun u _ i wr => ∃ (k : Nat), k ≤ N ∧ i = .int .i64 k ∧ Hid (FOwn wr w.heap.size u (flatP (ps.take k))) ∧ Hid (Below w.heap.size w wr)) (fun _ _ i _ => N - (intOf i).toNat)
      case atStart => exact ⟨0, by omega, rfl, HO2, HB2⟩
      case round =>
        obtain ⟨k, hk, rfl, HO, HB⟩ := hrel
        clear HO2 HB2
        by_cases hlt2 : k < N
        · obtain ⟨⟨pa, pc, pl⟩, hp⟩ : ∃ p, ps[k]? = some p := ⟨_, List.getElem?_eq_getElem (by have := unhide HN; omega)⟩
          have hcell : wr.cell? ⟨g, k, none⟩ = some (.slice pa pl.length pc) := ((unhide HB).cell (p := ⟨g, k, none⟩) hb).trans (unhide HRow k _ hp).1
          have HFd := hide ((unhide HRow k _ hp).2.below (unhide HB) (Nat.le_refl _))
          simp only at HFd
          have HX : Hid (flatP (ps.take (k + 1)) = flatP (ps.take k) ++ pl) := hide (by rw [List.take_add_one, hp]; simp [flatP])
          have hln : ((flatP (ps.take k)).length + pl.length) * 48 ≤ 140737488355328 := by
            have h1 := unhide HTk (k + 1)
            rw [← sumP_flat, unhide HX, List.length_append] at h1
            omega
          have hsz := (unhide HB).size
          clear hp
          go_wp2_with (at_builtin; refine wpList_append_flds rfl (.tmp 31) (.tmp 32) rfl w.heap.size _ (flatP (ps.take k)) rfl (unhide HO) pa pc pl rfl (unhide HFd) hln hsz ?_; intro v' w5 own5 b5; have HO5 := hide own5; have HB5 := hide ((unhide HB).trans b5); clear own5 b5)
          go_roundw
          case rel => exact ⟨k + 1, by omega, by go_num, (by rw [unhide HX]; exact HO5), HB5⟩
          case measure => simp [intOf]; omega
        · have HF : Hid (ps.take k = ps) := hide (List.take_of_length_le (by have := unhide HN; omega))
          rw [unhide HF] at HO
          go_wp2_with fail
          go_ret
          exact ⟨_, rfl, unhide HO, unhide HB⟩
end Go.Proofs.YtkgepklmhdjjnaaGreatDoor

/-
  DERIVED. The walks of Set and Drop.
-/
namespace Go.Proofs.YtkgepklmhdjjnaaGreatDoor
open Go.RowKit Go.Maps
set_option linter.unusedVariables false

/-- What stands behind the field of a name. -/
def behF (r : List Fld) (nm : List UInt8) : Nat := atF r nm + (if hasF r nm then 1 else 0)
def setF (r : List Fld) (f : Fld) : List Fld := r.take (atF r f.name) ++ [f] ++ r.drop (behF r f.name)
def dropF (r : List Fld) (nm : List UInt8) : List Fld := r.take (atF r nm) ++ r.drop (behF r nm)

theorem atF_le (r : List Fld) (nm : List UInt8) : atF r nm ≤ behF r nm ∧ behF r nm ≤ r.length := by
  unfold behF
  cases h : hasF r nm with
  | true => have := (at_get h).1; simp; omega
  | false =>
    refine ⟨by simp, ?_⟩
    have h1 : r.findIdx? (fun f => f.name == nm) = none := by
      unfold hasF at h
      rw [List.any_eq_false] at h
      rw [List.findIdx?_eq_none_iff]; intro f hf; simpa using h f hf
    unfold atF
    rw [h1]
    simp
    exact List.findIdx_le_length

theorem plV_eq (r : List Fld) (nm : List UInt8) : plV r nm = .tuple #[.int .i64 (atF r nm : Nat), .int .i64 (behF r nm : Nat)] := rfl

/-- The first fields of a slice. -/
theorem FdN.take {w : World} {a : Option Addr} {c : Nat} {fs : List Fld} (h : FdN w a c fs) (q : Nat) (hq : q ≤ fs.length) : FdN w a c (fs.take q) := by
  obtain ⟨⟨ao, cap, e, h1, h2, h4⟩, hn⟩ := h
  cases e
  have hl : (fs.take q).length = q := by simp; omega
  refine ⟨⟨a, c, by rw [hl], by rw [hl]; omega, h2, fun hz => ?_⟩, hn⟩
  rw [hl] at hz
  obtain ⟨b, off, e, hlt, hc⟩ := h4 (by omega)
  refine ⟨b, off, e, hlt, fun i hi => ?_⟩
  rw [hl] at hi
  have := hc i (by omega)
  simpa using this
/-- The other ones. -/
theorem FdN.drop {w : World} {b off : Nat} {c : Nat} {fs : List Fld} (h : FdN w (some ⟨b, off, none⟩) c fs) (q : Nat) (hq : q ≤ fs.length) : FdN w (some ⟨b, off + q * 4, none⟩) (c - q) (fs.drop q) := by
  obtain ⟨⟨ao, cap, e, h1, h2, h4⟩, hn⟩ := h
  cases e
  have hl : (fs.drop q).length = fs.length - q := by simp
  refine ⟨⟨_, _, by rw [hl], by rw [hl]; omega, by omega, fun hz => ?_⟩, fun _ => ⟨_, _, rfl⟩⟩
  rw [hl] at hz
  obtain ⟨b', off', e, hlt, hc⟩ := h4 (by omega)
  cases e
  refine ⟨b, off + q * 4, rfl, hlt, fun i hi => ?_⟩
  rw [hl] at hi
  have := hc (q + i) (by omega)
  have e0 : off + q * 4 + i * 4 = off + (q + i) * 4 := by omega
  rw [e0]
  simpa using this
theorem FdN.empty {w : World} {a : Option Addr} {c : Nat} (hn : c ≠ 0 → ∃ b off, a = some ⟨b, off, none⟩) (hc : c ≤ 9223372036854775807) : FdN w a c [] :=
  ⟨⟨a, c, rfl, by simp, hc, fun h => by simp at h⟩, hn⟩

theorem cell_row3 (w : World) (x y z : Value) (t : TypeId) (i : Nat) : (w.alloc (.cells #[x, y, z] t)).cell? ⟨w.heap.size, i, none⟩ = #[x, y, z][i]? := by
  rw [cell_of_row _ _ _ _ _ _ (heap_alloc_new _ _)]

/-- Three parts in a row of their own, the one in the middle a field just made. -/
theorem concat3 (w2 : World) (a1 : Option Addr) (n1 c1 : Nat) (L1 : List Fld) (f : Fld) (a3 : Option Addr) (n3 c3 : Nat) (L3 : List Fld) (e1 : n1 = L1.length) (e3 : n3 = L3.length) (h1 : FdN w2 a1 c1 L1) (h3 : FdN w2 a3 c3 L3) (hs : (L1.length + 1 + L3.length) * 48 ≤ 140737488355328) :
    Calls Tryz.prog 51 #[.slice (some ⟨w2.heap.size + 1, 0, none⟩) 3 3] ((w2.alloc (.cells (fv f) 33)).alloc (.cells #[.slice a1 n1 c1, .slice (some ⟨w2.heap.size, 0, none⟩) 1 1, .slice a3 n3 c3] 23)).drew fun e w' => ∃ v, e = .returned v ∧ FOwn w' w2.heap.size v (L1 ++ [f] ++ L3) ∧ Below w2.heap.size w2 w' := by
  obtain ⟨W1, hW1⟩ : ∃ W1, W1 = w2.alloc (.cells (fv f) 33) := ⟨_, rfl⟩
  have b1 : Below w2.heap.size w2 W1 := by rw [hW1]; exact (Below.refl _ _).alloc (Nat.le_refl _) _
  have fb : FBox W1 w2.heap.size f := by rw [hW1]; exact FBox.new w2 f
  have hz1 : W1.heap.size = w2.heap.size + 1 := by rw [hW1]; simp
  rw [← hW1, ← hz1]
  obtain ⟨W2, hW2⟩ : ∃ W2, W2 = (W1.alloc (.cells #[.slice a1 n1 c1, .slice (some ⟨w2.heap.size, 0, none⟩) 1 1, .slice a3 n3 c3] 23)).drew := ⟨_, rfl⟩
  have b2 : Below W1.heap.size W1 W2 := by rw [hW2]; exact ((Below.refl _ _).alloc (Nat.le_refl _) _).drew
  have hrow : W2.heap[W1.heap.size]? = some (.cells #[.slice a1 n1 c1, .slice (some ⟨w2.heap.size, 0, none⟩) 1 1, .slice a3 n3 c3] 23 (0, 0)) := by rw [hW2]; exact heap_alloc_new _ _
  rw [← hW2]
  have b02 : Below w2.heap.size w2 W2 := b1.trans (b2.mono b1.size)
  have fm : FdN W2 (some ⟨w2.heap.size, 0, none⟩) 1 [f] := by
    have fb2 := fb.below b2 (Nat.le_refl _)
    obtain ⟨x0, x1, x2, x3, _⟩ := fb2.cells
    refine ⟨⟨_, _, rfl, by simp, by omega, fun _ => ⟨w2.heap.size, 0, rfl, fb2.lt, fun i hi => ?_⟩⟩, fun _ => ⟨_, _, rfl⟩⟩
    have : i = 0 := by simp at hi; omega
    subst this
    exact ⟨by simpa using x0, by simpa using x1, by simpa using x2, by simpa using x3⟩
  have hr : ∀ i, W2.cell? ⟨W1.heap.size, i, none⟩ = #[Value.slice a1 n1 c1, .slice (some ⟨w2.heap.size, 0, none⟩) 1 1, .slice a3 n3 c3][i]? := fun i => cell_of_row _ _ _ _ _ _ hrow
  refine (Concat_go W1.heap.size 3 [(a1, c1, L1), (some ⟨w2.heap.size, 0, none⟩, 1, [f]), (a3, c3, L3)] W2 rfl (by omega) (lt_of_block hrow) ?_ (by simpa [sumP, Nat.add_assoc] using hs)).mono ?_
  · intro i p hp
    rw [hr i]
    rcases i with _ | _ | _ | i
    · simp at hp; subst hp; exact ⟨by simp [e1], h1.below b02 (Nat.le_refl _)⟩
    · simp at hp; subst hp; exact ⟨by simp, fm⟩
    · simp at hp; subst hp; exact ⟨by simp [e3], h3.below b02 (Nat.le_refl _)⟩
    · simp at hp
  · rintro e w' ⟨v, rfl, own, hb⟩
    refine ⟨v, rfl, (by have := own.mono b02.size; simpa [flatP] using this), b02.trans (hb.mono b02.size)⟩
/-- Two parts. -/
theorem concat2 (w2 : World) (a1 : Option Addr) (n1 c1 : Nat) (L1 : List Fld) (a3 : Option Addr) (n3 c3 : Nat) (L3 : List Fld) (e1 : n1 = L1.length) (e3 : n3 = L3.length) (h1 : FdN w2 a1 c1 L1) (h3 : FdN w2 a3 c3 L3) (hs : (L1.length + L3.length) * 48 ≤ 140737488355328) :
    Calls Tryz.prog 51 #[.slice (some ⟨w2.heap.size, 0, none⟩) 2 2] (w2.alloc (.cells #[.slice a1 n1 c1, .slice a3 n3 c3] 23)).drew fun e w' => ∃ v, e = .returned v ∧ FOwn w' w2.heap.size v (L1 ++ L3) ∧ Below w2.heap.size w2 w' := by
  obtain ⟨W2, hW2⟩ : ∃ W2, W2 = (w2.alloc (.cells #[.slice a1 n1 c1, .slice a3 n3 c3] 23)).drew := ⟨_, rfl⟩
  have b02 : Below w2.heap.size w2 W2 := by rw [hW2]; exact ((Below.refl _ _).alloc (Nat.le_refl _) _).drew
  have hrow : W2.heap[w2.heap.size]? = some (.cells #[.slice a1 n1 c1, .slice a3 n3 c3] 23 (0, 0)) := by rw [hW2]; exact heap_alloc_new _ _
  rw [← hW2]
  have hr : ∀ i, W2.cell? ⟨w2.heap.size, i, none⟩ = #[Value.slice a1 n1 c1, .slice a3 n3 c3][i]? := fun i => cell_of_row _ _ _ _ _ _ hrow
  refine (Concat_go w2.heap.size 2 [(a1, c1, L1), (a3, c3, L3)] W2 rfl (by omega) (lt_of_block hrow) ?_ (by simpa [sumP] using hs)).mono ?_
  · intro i p hp
    rw [hr i]
    rcases i with _ | _ | i
    · simp at hp; subst hp; exact ⟨by simp [e1], h1.below b02 (Nat.le_refl _)⟩
    · simp at hp; subst hp; exact ⟨by simp [e3], h3.below b02 (Nat.le_refl _)⟩
    · simp at hp
  · rintro e w' ⟨v, rfl, own, hb⟩
    refine ⟨v, rfl, (by have := own.mono b02.size; simpa [flatP] using this), b02.trans (hb.mono b02.size)⟩

set_option maxHeartbeats 4000000 in
theorem Set_mid (b off : Nat) (c : Nat) (fs : List Fld) (f : Fld) (w : World) (hv : FdN w (some ⟨b, off, none⟩) c fs) (hlen : (fs.length + 1) * 48 ≤ 140737488355328) (hcp : c ≠ behF fs f.name) :
    Calls Tryz.prog 21 #[.slice (some ⟨b, off, none⟩) fs.length c, .agg (fv f)] w fun e w' => ∃ v, e = .returned v ∧ FOwn w' w.heap.size v (setF fs f) ∧ Below w.heap.size w w' := by
  obtain ⟨fn, ft, fi, fss⟩ := f
  simp only at hcp
  obtain ⟨hq1, hq2⟩ := atF_le fs fn
  have HPl : Hid (∀ W, Below w.heap.size w W → Calls Tryz.prog 50 #[.slice (some ⟨b, off, none⟩) fs.length c, sv fn] W fun e w' => e = .returned (.tuple #[.int .i64 (atF fs fn : Nat), .int .i64 (behF fs fn : Nat)]) ∧ Below W.heap.size W w') := hide (fun W hW => place_any _ _ _ fs fn W (hv.1.below hW (Nat.le_refl _)))
  have HSet : Hid (setF fs ⟨fn, ft, fi, fss⟩ = fs.take (atF fs fn) ++ [⟨fn, ft, fi, fss⟩] ++ fs.drop (behF fs fn)) := hide rfl
  obtain ⟨q, hq⟩ : ∃ q, q = atF fs fn := ⟨_, rfl⟩
  obtain ⟨p, hp⟩ : ∃ p, p = behF fs fn := ⟨_, rfl⟩
  rw [← hq, ← hp] at HPl HSet hq1
  rw [← hp] at hq2 hcp
  have hc : fs.length ≤ c ∧ c ≤ 9223372036854775807 := by obtain ⟨_, _, e, h1, h2, _⟩ := hv.1; cases e; exact ⟨h1, h2⟩
  have HV := hide hv
  clear hq hp hv
  have i1 : (0 : Int) ≤ (q : Int) := by omega
  have i2 : (q : Int) ≤ (c : Int) := by omega
  have i3 : (p : Int) ≤ (fs.length : Int) := by omega
  have i4 : (0 : Int) ≤ (p : Int) := by omega
  have i5 : (fs.length : Int) ≤ (c : Int) := by omega
  have HCat : Hid (∀ W, FdN W (some ⟨b, off, none⟩) c fs → Calls Tryz.prog 51 #[.slice (some ⟨W.heap.size + 1, 0, none⟩) 3 3] ((W.alloc (.cells (fv ⟨fn, ft, fi, fss⟩) 33)).alloc (.cells #[.slice (some ⟨b, off, none⟩) q c, .slice (some ⟨W.heap.size, 0, none⟩) 1 1, .slice (some ⟨b, off + p * 4, none⟩) (fs.length - p) (c - p)] 23)).drew fun e w' => ∃ v, e = .returned v ∧ FOwn w' W.heap.size v (setF fs ⟨fn, ft, fi, fss⟩) ∧ Below W.heap.size W w') := hide (fun W hW => by
    rw [unhide HSet]
    exact concat3 W _ q c (fs.take q) ⟨fn, ft, fi, fss⟩ _ (fs.length - p) (c - p) (fs.drop p) (by simp; omega) (by simp) (hW.take q (by omega)) (hW.drop p hq2) (by simp; omega))
  go_enter Tryz.func21, Tryz.ntmps21
  go_upto_region 1 with fail
  have hb1 : Below w.heap.size w (w.alloc (.cells (fv ⟨fn, ft, fi, fss⟩) 33)) := (Below.refl _ _).alloc (Nat.le_refl _) _
  have hf1 := FBox.new w ⟨fn, ft, fi, fss⟩
  obtain ⟨w1, hw1⟩ : ∃ w1, w1 = w.alloc (.cells (fv ⟨fn, ft, fi, fss⟩) 33) := ⟨_, rfl⟩
  rw [← hw1] at hb1 hf1 ⊢
  have HB1 := hide hb1
  have HF1 := hide hf1
  obtain ⟨x0, x1, x2, x3, xf⟩ := hf1.cells
  simp only at x0 x1 x2 x3
  obtain ⟨B, hB⟩ : ∃ B, B = w.heap.size := ⟨_, rfl⟩
  rw [← hB] at x0 x1 x2 x3 xf HF1 ⊢
  clear hw1 hb1 hf1 HSet
  have HBB := hide hB
  clear hB
  go_upto_region 2 with (go_at_call 50; refine (unhide HPl _ (unhide HB1)).mono ?_; rintro e w2 ⟨rfl, b2⟩; have HB2 := hide ((unhide HB1).trans (b2.mono (unhide HB1).size)); have HF2 := hide ((unhide HF1).below b2 (Nat.le_refl _)); have HV2 := hide ((unhide HV).below (unhide HB2) (Nat.le_refl _)); clear b2)
  clear x0 x1 x2 x3 xf
  obtain ⟨x0, x1, x2, x3, xf⟩ := (unhide HF2).cells
  simp only at x0 x1 x2 x3
  go_region_law (first | (go_simp; go_at_call 51; refine (unhide HCat _ (unhide HV2)).mono ?_; rintro e w3 ⟨v, rfl, own3, b3⟩; have HO3 := hide own3; have HB3 := hide ((unhide HB2).trans (b3.mono (unhide HB2).size)); clear own3 b3))
  all_goals
    go_wp2
    go_ret
    exact ⟨v, rfl, (unhide HO3).mono (unhide HB2).size, unhide HB3⟩

set_option maxHeartbeats 4000000 in
theorem Set_end (x : Addr) (c : Nat) (fs : List Fld) (f : Fld) (w : World) (hv : FdN w (some x) c fs) (hlen : (fs.length + 1) * 48 ≤ 140737488355328) (hcp : c = behF fs f.name) :
    Calls Tryz.prog 21 #[.slice (some x) fs.length c, .agg (fv f)] w fun e w' => ∃ v, e = .returned v ∧ FOwn w' w.heap.size v (setF fs f) ∧ Below w.heap.size w w' := by
  obtain ⟨fn, ft, fi, fss⟩ := f
  simp only at hcp
  obtain ⟨hq1, hq2⟩ := atF_le fs fn
  have HPl : Hid (∀ W, Below w.heap.size w W → Calls Tryz.prog 50 #[.slice (some x) fs.length c, sv fn] W fun e w' => e = .returned (.tuple #[.int .i64 (atF fs fn : Nat), .int .i64 (behF fs fn : Nat)]) ∧ Below W.heap.size W w') := hide (fun W hW => place_any _ _ _ fs fn W (hv.1.below hW (Nat.le_refl _)))
  have HSet : Hid (setF fs ⟨fn, ft, fi, fss⟩ = fs.take (atF fs fn) ++ [⟨fn, ft, fi, fss⟩] ++ fs.drop (behF fs fn)) := hide rfl
  obtain ⟨q, hq⟩ : ∃ q, q = atF fs fn := ⟨_, rfl⟩
  obtain ⟨p, hp⟩ : ∃ p, p = behF fs fn := ⟨_, rfl⟩
  rw [← hq, ← hp] at HPl HSet hq1
  rw [← hp] at hq2 hcp
  have hc : fs.length ≤ c ∧ c ≤ 9223372036854775807 := by obtain ⟨_, _, e, h1, h2, _⟩ := hv.1; cases e; exact ⟨h1, h2⟩
  have HV := hide hv
  clear hq hp hv
  subst hcp
  have i1 : (0 : Int) ≤ (q : Int) := by omega
  have i2 : (q : Int) ≤ (c : Int) := by omega
  have i3 : (c : Int) ≤ (fs.length : Int) := by omega
  have i4 : (0 : Int) ≤ (c : Int) := by omega
  have i5 : (fs.length : Int) ≤ (c : Int) := by omega
  have HCat : Hid (∀ W, FdN W (some x) c fs → Calls Tryz.prog 51 #[.slice (some ⟨W.heap.size + 1, 0, none⟩) 3 3] ((W.alloc (.cells (fv ⟨fn, ft, fi, fss⟩) 33)).alloc (.cells #[.slice (some x) q c, .slice (some ⟨W.heap.size, 0, none⟩) 1 1, .slice (some x) 0 0] 23)).drew fun e w' => ∃ v, e = .returned v ∧ FOwn w' W.heap.size v (setF fs ⟨fn, ft, fi, fss⟩) ∧ Below W.heap.size W w') := hide (fun W hW => by
    rw [unhide HSet]
    exact concat3 W _ q c (fs.take q) ⟨fn, ft, fi, fss⟩ _ 0 0 (fs.drop c) (by simp; omega) (by simp; omega) (hW.take q (by omega)) (by rw [List.drop_of_length_le (by omega)]; exact FdN.empty (fun h => absurd (by omega) h) (by omega)) (by simp; omega))
  go_enter Tryz.func21, Tryz.ntmps21
  go_upto_region 1 with fail
  have hb1 : Below w.heap.size w (w.alloc (.cells (fv ⟨fn, ft, fi, fss⟩) 33)) := (Below.refl _ _).alloc (Nat.le_refl _) _
  have hf1 := FBox.new w ⟨fn, ft, fi, fss⟩
  obtain ⟨w1, hw1⟩ : ∃ w1, w1 = w.alloc (.cells (fv ⟨fn, ft, fi, fss⟩) 33) := ⟨_, rfl⟩
  rw [← hw1] at hb1 hf1 ⊢
  have HB1 := hide hb1
  have HF1 := hide hf1
  obtain ⟨x0, x1, x2, x3, xf⟩ := hf1.cells
  simp only at x0 x1 x2 x3
  obtain ⟨B, hB⟩ : ∃ B, B = w.heap.size := ⟨_, rfl⟩
  rw [← hB] at x0 x1 x2 x3 xf HF1 ⊢
  clear hw1 hb1 hf1 HSet
  have HBB := hide hB
  clear hB
  go_upto_region 2 with (go_at_call 50; refine (unhide HPl _ (unhide HB1)).mono ?_; rintro e w2 ⟨rfl, b2⟩; have HB2 := hide ((unhide HB1).trans (b2.mono (unhide HB1).size)); have HF2 := hide ((unhide HF1).below b2 (Nat.le_refl _)); have HV2 := hide ((unhide HV).below (unhide HB2) (Nat.le_refl _)); clear b2)
  clear x0 x1 x2 x3 xf
  obtain ⟨x0, x1, x2, x3, xf⟩ := (unhide HF2).cells
  simp only at x0 x1 x2 x3
  go_region_law (first | (go_simp; go_at_call 51; refine (unhide HCat _ (unhide HV2)).mono ?_; rintro e w3 ⟨v, rfl, own3, b3⟩; have HO3 := hide own3; have HB3 := hide ((unhide HB2).trans (b3.mono (unhide HB2).size)); clear own3 b3))
  all_goals
    go_wp2
    go_ret
    exact ⟨v, rfl, (unhide HO3).mono (unhide HB2).size, unhide HB3⟩

set_option maxHeartbeats 4000000 in
theorem Set_nil  (c : Nat) (fs : List Fld) (f : Fld) (w : World) (hv : FdN w none c fs) (hlen : (fs.length + 1) * 48 ≤ 140737488355328) (hcp : c = behF fs f.name) :
    Calls Tryz.prog 21 #[.slice none fs.length c, .agg (fv f)] w fun e w' => ∃ v, e = .returned v ∧ FOwn w' w.heap.size v (setF fs f) ∧ Below w.heap.size w w' := by
  obtain ⟨fn, ft, fi, fss⟩ := f
  simp only at hcp
  obtain ⟨hq1, hq2⟩ := atF_le fs fn
  have HPl : Hid (∀ W, Below w.heap.size w W → Calls Tryz.prog 50 #[.slice none fs.length c, sv fn] W fun e w' => e = .returned (.tuple #[.int .i64 (atF fs fn : Nat), .int .i64 (behF fs fn : Nat)]) ∧ Below W.heap.size W w') := hide (fun W hW => place_any _ _ _ fs fn W (hv.1.below hW (Nat.le_refl _)))
  have HSet : Hid (setF fs ⟨fn, ft, fi, fss⟩ = fs.take (atF fs fn) ++ [⟨fn, ft, fi, fss⟩] ++ fs.drop (behF fs fn)) := hide rfl
  obtain ⟨q, hq⟩ : ∃ q, q = atF fs fn := ⟨_, rfl⟩
  obtain ⟨p, hp⟩ : ∃ p, p = behF fs fn := ⟨_, rfl⟩
  rw [← hq, ← hp] at HPl HSet hq1
  rw [← hp] at hq2 hcp
  have hc : fs.length ≤ c ∧ c ≤ 9223372036854775807 := by obtain ⟨_, _, e, h1, h2, _⟩ := hv.1; cases e; exact ⟨h1, h2⟩
  have HV := hide hv
  clear hq hp hv
  subst hcp
  have i1 : (0 : Int) ≤ (q : Int) := by omega
  have i2 : (q : Int) ≤ (c : Int) := by omega
  have i3 : (c : Int) ≤ (fs.length : Int) := by omega
  have i4 : (0 : Int) ≤ (c : Int) := by omega
  have i5 : (fs.length : Int) ≤ (c : Int) := by omega
  have HCat : Hid (∀ W, FdN W none c fs → Calls Tryz.prog 51 #[.slice (some ⟨W.heap.size + 1, 0, none⟩) 3 3] ((W.alloc (.cells (fv ⟨fn, ft, fi, fss⟩) 33)).alloc (.cells #[.slice none q c, .slice (some ⟨W.heap.size, 0, none⟩) 1 1, .slice none 0 0] 23)).drew fun e w' => ∃ v, e = .returned v ∧ FOwn w' W.heap.size v (setF fs ⟨fn, ft, fi, fss⟩) ∧ Below W.heap.size W w') := hide (fun W hW => by
    rw [unhide HSet]
    exact concat3 W _ q c (fs.take q) ⟨fn, ft, fi, fss⟩ _ 0 0 (fs.drop c) (by simp; omega) (by simp; omega) (hW.take q (by omega)) (by rw [List.drop_of_length_le (by omega)]; exact FdN.empty (fun h => absurd (by omega) h) (by omega)) (by simp; omega))
  go_enter Tryz.func21, Tryz.ntmps21
  go_upto_region 1 with fail
  have hb1 : Below w.heap.size w (w.alloc (.cells (fv ⟨fn, ft, fi, fss⟩) 33)) := (Below.refl _ _).alloc (Nat.le_refl _) _
  have hf1 := FBox.new w ⟨fn, ft, fi, fss⟩
  obtain ⟨w1, hw1⟩ : ∃ w1, w1 = w.alloc (.cells (fv ⟨fn, ft, fi, fss⟩) 33) := ⟨_, rfl⟩
  rw [← hw1] at hb1 hf1 ⊢
  have HB1 := hide hb1
  have HF1 := hide hf1
  obtain ⟨x0, x1, x2, x3, xf⟩ := hf1.cells
  simp only at x0 x1 x2 x3
  obtain ⟨B, hB⟩ : ∃ B, B = w.heap.size := ⟨_, rfl⟩
  rw [← hB] at x0 x1 x2 x3 xf HF1 ⊢
  clear hw1 hb1 hf1 HSet
  have HBB := hide hB
  clear hB
  go_upto_region 2 with (go_at_call 50; refine (unhide HPl _ (unhide HB1)).mono ?_; rintro e w2 ⟨rfl, b2⟩; have HB2 := hide ((unhide HB1).trans (b2.mono (unhide HB1).size)); have HF2 := hide ((unhide HF1).below b2 (Nat.le_refl _)); have HV2 := hide ((unhide HV).below (unhide HB2) (Nat.le_refl _)); clear b2)
  clear x0 x1 x2 x3 xf
  obtain ⟨x0, x1, x2, x3, xf⟩ := (unhide HF2).cells
  simp only at x0 x1 x2 x3
  go_region_law (first | (go_simp; go_at_call 51; refine (unhide HCat _ (unhide HV2)).mono ?_; rintro e w3 ⟨v, rfl, own3, b3⟩; have HO3 := hide own3; have HB3 := hide ((unhide HB2).trans (b3.mono (unhide HB2).size)); clear own3 b3))
  all_goals
    go_wp2
    go_ret
    exact ⟨v, rfl, (unhide HO3).mono (unhide HB2).size, unhide HB3⟩

set_option maxHeartbeats 4000000 in
theorem Drop_mid (b off : Nat) (c : Nat) (fs : List Fld) (nm : List UInt8) (w : World) (hv : FdN w (some ⟨b, off, none⟩) c fs) (hlen : fs.length * 48 ≤ 140737488355328) (hcp : c ≠ behF fs nm) :
    Calls Tryz.prog 22 #[.slice (some ⟨b, off, none⟩) fs.length c, sv nm] w fun e w' => ∃ v, e = .returned v ∧ FOwn w' w.heap.size v (dropF fs nm) ∧ Below w.heap.size w w' := by
  obtain ⟨hq1, hq2⟩ := atF_le fs nm
  have HPl : Hid (∀ W, Below w.heap.size w W → Calls Tryz.prog 50 #[.slice (some ⟨b, off, none⟩) fs.length c, sv nm] W fun e w' => e = .returned (.tuple #[.int .i64 (atF fs nm : Nat), .int .i64 (behF fs nm : Nat)]) ∧ Below W.heap.size W w') := hide (fun W hW => place_any _ _ _ fs nm W (hv.1.below hW (Nat.le_refl _)))
  have HSet : Hid (dropF fs nm = fs.take (atF fs nm) ++ fs.drop (behF fs nm)) := hide rfl
  obtain ⟨q, hq⟩ : ∃ q, q = atF fs nm := ⟨_, rfl⟩
  obtain ⟨p, hp⟩ : ∃ p, p = behF fs nm := ⟨_, rfl⟩
  rw [← hq, ← hp] at HPl HSet hq1
  rw [← hp] at hq2 hcp
  have hc : fs.length ≤ c ∧ c ≤ 9223372036854775807 := by obtain ⟨_, _, e, h1, h2, _⟩ := hv.1; cases e; exact ⟨h1, h2⟩
  have HV := hide hv
  clear hq hp hv
  have i1 : (0 : Int) ≤ (q : Int) := by omega
  have i2 : (q : Int) ≤ (c : Int) := by omega
  have i3 : (p : Int) ≤ (fs.length : Int) := by omega
  have i4 : (0 : Int) ≤ (p : Int) := by omega
  have i5 : (fs.length : Int) ≤ (c : Int) := by omega
  have HCat : Hid (∀ W, FdN W (some ⟨b, off, none⟩) c fs → Calls Tryz.prog 51 #[.slice (some ⟨W.heap.size, 0, none⟩) 2 2] (W.alloc (.cells #[.slice (some ⟨b, off, none⟩) q c, .slice (some ⟨b, off + p * 4, none⟩) (fs.length - p) (c - p)] 23)).drew fun e w' => ∃ v, e = .returned v ∧ FOwn w' W.heap.size v (dropF fs nm) ∧ Below W.heap.size W w') := hide (fun W hW => by
    rw [unhide HSet]
    exact concat2 W _ q c (fs.take q) _ (fs.length - p) (c - p) (fs.drop p) (by simp; omega) (by simp) (hW.take q (by omega)) (hW.drop p hq2) (by simp; omega))
  go_enter Tryz.func22, Tryz.ntmps22
  clear HSet
  go_upto_region 2 with (go_at_call 50; refine (unhide HPl _ (Below.refl _ _)).mono ?_; rintro e w2 ⟨rfl, b2⟩; have HB2 := hide b2; have HV2 := hide ((unhide HV).below (unhide HB2) (Nat.le_refl _)); clear b2)
  go_region_law (first | (go_simp; go_at_call 51; refine (unhide HCat _ (unhide HV2)).mono ?_; rintro e w3 ⟨v, rfl, own3, b3⟩; have HO3 := hide own3; have HB3 := hide ((unhide HB2).trans (b3.mono (unhide HB2).size)); clear own3 b3))
  all_goals
    go_wp2
    go_ret
    exact ⟨v, rfl, (unhide HO3).mono (unhide HB2).size, unhide HB3⟩

set_option maxHeartbeats 4000000 in
theorem Drop_end (x : Addr) (c : Nat) (fs : List Fld) (nm : List UInt8) (w : World) (hv : FdN w (some x) c fs) (hlen : fs.length * 48 ≤ 140737488355328) (hcp : c = behF fs nm) :
    Calls Tryz.prog 22 #[.slice (some x) fs.length c, sv nm] w fun e w' => ∃ v, e = .returned v ∧ FOwn w' w.heap.size v (dropF fs nm) ∧ Below w.heap.size w w' := by
  obtain ⟨hq1, hq2⟩ := atF_le fs nm
  have HPl : Hid (∀ W, Below w.heap.size w W → Calls Tryz.prog 50 #[.slice (some x) fs.length c, sv nm] W fun e w' => e = .returned (.tuple #[.int .i64 (atF fs nm : Nat), .int .i64 (behF fs nm : Nat)]) ∧ Below W.heap.size W w') := hide (fun W hW => place_any _ _ _ fs nm W (hv.1.below hW (Nat.le_refl _)))
  have HSet : Hid (dropF fs nm = fs.take (atF fs nm) ++ fs.drop (behF fs nm)) := hide rfl
  obtain ⟨q, hq⟩ : ∃ q, q = atF fs nm := ⟨_, rfl⟩
  obtain ⟨p, hp⟩ : ∃ p, p = behF fs nm := ⟨_, rfl⟩
  rw [← hq, ← hp] at HPl HSet hq1
  rw [← hp] at hq2 hcp
  have hc : fs.length ≤ c ∧ c ≤ 9223372036854775807 := by obtain ⟨_, _, e, h1, h2, _⟩ := hv.1; cases e; exact ⟨h1, h2⟩
  have HV := hide hv
  clear hq hp hv
  subst hcp
  have i1 : (0 : Int) ≤ (q : Int) := by omega
  have i2 : (q : Int) ≤ (c : Int) := by omega
  have i3 : (c : Int) ≤ (fs.length : Int) := by omega
  have i4 : (0 : Int) ≤ (c : Int) := by omega
  have i5 : (fs.length : Int) ≤ (c : Int) := by omega
  have HCat : Hid (∀ W, FdN W (some x) c fs → Calls Tryz.prog 51 #[.slice (some ⟨W.heap.size, 0, none⟩) 2 2] (W.alloc (.cells #[.slice (some x) q c, .slice (some x) 0 0] 23)).drew fun e w' => ∃ v, e = .returned v ∧ FOwn w' W.heap.size v (dropF fs nm) ∧ Below W.heap.size W w') := hide (fun W hW => by
    rw [unhide HSet]
    exact concat2 W _ q c (fs.take q) _ 0 0 (fs.drop c) (by simp; omega) (by simp; omega) (hW.take q (by omega)) (by rw [List.drop_of_length_le (by omega)]; exact FdN.empty (fun h => absurd (by omega) h) (by omega)) (by simp; omega))
  go_enter Tryz.func22, Tryz.ntmps22
  clear HSet
  go_upto_region 2 with (go_at_call 50; refine (unhide HPl _ (Below.refl _ _)).mono ?_; rintro e w2 ⟨rfl, b2⟩; have HB2 := hide b2; have HV2 := hide ((unhide HV).below (unhide HB2) (Nat.le_refl _)); clear b2)
  go_region_law (first | (go_simp; go_at_call 51; refine (unhide HCat _ (unhide HV2)).mono ?_; rintro e w3 ⟨v, rfl, own3, b3⟩; have HO3 := hide own3; have HB3 := hide ((unhide HB2).trans (b3.mono (unhide HB2).size)); clear own3 b3))
  all_goals
    go_wp2
    go_ret
    exact ⟨v, rfl, (unhide HO3).mono (unhide HB2).size, unhide HB3⟩

set_option maxHeartbeats 4000000 in
theorem Drop_nil  (c : Nat) (fs : List Fld) (nm : List UInt8) (w : World) (hv : FdN w none c fs) (hlen : fs.length * 48 ≤ 140737488355328) (hcp : c = behF fs nm) :
    Calls Tryz.prog 22 #[.slice none fs.length c, sv nm] w fun e w' => ∃ v, e = .returned v ∧ FOwn w' w.heap.size v (dropF fs nm) ∧ Below w.heap.size w w' := by
  obtain ⟨hq1, hq2⟩ := atF_le fs nm
  have HPl : Hid (∀ W, Below w.heap.size w W → Calls Tryz.prog 50 #[.slice none fs.length c, sv nm] W fun e w' => e = .returned (.tuple #[.int .i64 (atF fs nm : Nat), .int .i64 (behF fs nm : Nat)]) ∧ Below W.heap.size W w') := hide (fun W hW => place_any _ _ _ fs nm W (hv.1.below hW (Nat.le_refl _)))
  have HSet : Hid (dropF fs nm = fs.take (atF fs nm) ++ fs.drop (behF fs nm)) := hide rfl
  obtain ⟨q, hq⟩ : ∃ q, q = atF fs nm := ⟨_, rfl⟩
  obtain ⟨p, hp⟩ : ∃ p, p = behF fs nm := ⟨_, rfl⟩
  rw [← hq, ← hp] at HPl HSet hq1
  rw [← hp] at hq2 hcp
  have hc : fs.length ≤ c ∧ c ≤ 9223372036854775807 := by obtain ⟨_, _, e, h1, h2, _⟩ := hv.1; cases e; exact ⟨h1, h2⟩
  have HV := hide hv
  clear hq hp hv
  subst hcp
  have i1 : (0 : Int) ≤ (q : Int) := by omega
  have i2 : (q : Int) ≤ (c : Int) := by omega
  have i3 : (c : Int) ≤ (fs.length : Int) := by omega
  have i4 : (0 : Int) ≤ (c : Int) := by omega
  have i5 : (fs.length : Int) ≤ (c : Int) := by omega
  have HCat : Hid (∀ W, FdN W none c fs → Calls Tryz.prog 51 #[.slice (some ⟨W.heap.size, 0, none⟩) 2 2] (W.alloc (.cells #[.slice none q c, .slice none 0 0] 23)).drew fun e w' => ∃ v, e = .returned v ∧ FOwn w' W.heap.size v (dropF fs nm) ∧ Below W.heap.size W w') := hide (fun W hW => by
    rw [unhide HSet]
    exact concat2 W _ q c (fs.take q) _ 0 0 (fs.drop c) (by simp; omega) (by simp; omega) (hW.take q (by omega)) (by rw [List.drop_of_length_le (by omega)]; exact FdN.empty (fun h => absurd (by omega) h) (by omega)) (by simp; omega))
  go_enter Tryz.func22, Tryz.ntmps22
  clear HSet
  go_upto_region 2 with (go_at_call 50; refine (unhide HPl _ (Below.refl _ _)).mono ?_; rintro e w2 ⟨rfl, b2⟩; have HB2 := hide b2; have HV2 := hide ((unhide HV).below (unhide HB2) (Nat.le_refl _)); clear b2)
  go_region_law (first | (go_simp; go_at_call 51; refine (unhide HCat _ (unhide HV2)).mono ?_; rintro e w3 ⟨v, rfl, own3, b3⟩; have HO3 := hide own3; have HB3 := hide ((unhide HB2).trans (b3.mono (unhide HB2).size)); clear own3 b3))
  all_goals
    go_wp2
    go_ret
    exact ⟨v, rfl, (unhide HO3).mono (unhide HB2).size, unhide HB3⟩

/-- Set of any list. -/
theorem Set_any (a : Option Addr) (c : Nat) (fs : List Fld) (f : Fld) (w : World) (hv : FdN w a c fs) (hlen : (fs.length + 1) * 48 ≤ 140737488355328) :
    Calls Tryz.prog 21 #[.slice a fs.length c, .agg (fv f)] w fun e w' => ∃ v, e = .returned v ∧ FOwn w' w.heap.size v (setF fs f) ∧ Below w.heap.size w w' := by
  by_cases hcp : c = behF fs f.name
  · cases a with
    | none => exact Set_nil c fs f w hv hlen hcp
    | some x => exact Set_end x c fs f w hv hlen hcp
  · have hc : fs.length ≤ c := by obtain ⟨_, _, e, h1, h2, _⟩ := hv.1; cases e; exact h1
    have := (atF_le fs f.name).2
    obtain ⟨b, off, rfl⟩ := hv.2 (by omega)
    exact Set_mid b off c fs f w hv hlen hcp
/-- Drop of any list. -/
theorem Drop_any (a : Option Addr) (c : Nat) (fs : List Fld) (nm : List UInt8) (w : World) (hv : FdN w a c fs) (hlen : fs.length * 48 ≤ 140737488355328) :
    Calls Tryz.prog 22 #[.slice a fs.length c, sv nm] w fun e w' => ∃ v, e = .returned v ∧ FOwn w' w.heap.size v (dropF fs nm) ∧ Below w.heap.size w w' := by
  by_cases hcp : c = behF fs nm
  · cases a with
    | none => exact Drop_nil c fs nm w hv hlen hcp
    | some x => exact Drop_end x c fs nm w hv hlen hcp
  · have hc : fs.length ≤ c := by obtain ⟨_, _, e, h1, h2, _⟩ := hv.1; cases e; exact h1
    have := (atF_le fs nm).2
    obtain ⟨b, off, rfl⟩ := hv.2 (by omega)
    exact Drop_mid b off c fs nm w hv hlen hcp
end Go.Proofs.YtkgepklmhdjjnaaGreatDoor

/-
  DERIVED. The document's find and Get.
-/
namespace Go.Proofs.YtkgepklmhdjjnaaGreatDoor
open Go.RowKit
set_option linter.unusedVariables false

theorem found_no {r : List Fld} {nm : List UInt8} {k : Nat} (h : ∀ f ∈ r.take k, f.name ≠ nm) {f : Fld} (hf : r[k]? = some f) (he : f.name = nm) : atF r nm = k ∧ hasF r nm = true := by
  have hk := (List.getElem?_eq_some_iff.1 hf).1
  have h1 : r.findIdx? (fun f => f.name == nm) = some k := by
    rw [List.findIdx?_eq_some_iff_getElem]
    refine ⟨hk, ?_, ?_⟩
    · have : r[k] = f := (List.getElem?_eq_some_iff.1 hf).2
      rw [this]; simpa using he
    · intro j hj
      have hm : r[j] ∈ r.take k := by
        rw [List.mem_iff_getElem?]
        exact ⟨j, by rw [List.getElem?_take_of_lt hj, List.getElem?_eq_getElem (by omega)]⟩
      simpa using h _ hm
  refine ⟨by unfold atF; rw [h1], ?_⟩
  unfold hasF
  rw [List.any_eq_true]
  exact ⟨f, List.mem_of_getElem? hf, by simpa using he⟩
theorem has_none {r : List Fld} {nm : List UInt8} (h : ∀ f ∈ r, f.name ≠ nm) : hasF r nm = false := by
  unfold hasF
  rw [List.any_eq_false]; intro f hf; simpa using h f hf

/-- What find answers. -/
def findA (r : List Fld) (nm : List UInt8) : Int := if hasF r nm then (atF r nm : Int) else -1

set_option maxHeartbeats 4000000 in
theorem rfind_any (a : Option Addr) (n c : Nat) (fs : List Fld) (nm : List UInt8) (w : World) (hv : FdL w (.slice a n c) fs) :
    Calls Tryz.prog 43 #[.slice a n c, sv nm] w fun e w' => e = .returned (.int .i64 (findA fs nm)) ∧ w = w' := by
  obtain ⟨a', c', e, hac, hc63, hcells⟩ := fdl_cells hv
  cases e
  obtain ⟨N, hN⟩ : ∃ N, N = fs.length := ⟨_, rfl⟩
  have HN := hide hN
  have HCe := hide hcells
  rw [← hN] at hac ⊢
  clear hN hv hcells
  go_enter Tryz.func43, Tryz.ntmps43
  go_wp2_with fail
  go_loopw [5] (fun i wr => ∃ (k : Nat), k ≤ N ∧ i = .int .i64 k ∧ Hid (∀ f ∈ fs.take k, f.name ≠ nm) ∧ Hid (wr = w)) (fun i _ => N - (intOf i).toNat)
  case atStart => exact ⟨0, by omega, rfl, hide (fun f hf => by simp at hf), hide rfl⟩
  case round =>
    obtain ⟨k, hk, rfl, HNo, HW⟩ := hrel
    by_cases hlt : k < N
    · obtain ⟨⟨fn, ft, fi, fss⟩, hf⟩ : ∃ f, fs[k]? = some f := ⟨_, List.getElem?_eq_getElem (by have := unhide HN; omega)⟩
      obtain ⟨b, off, rfl, _, x0, _, _, _⟩ := unhide HCe k _ hf
      simp only at x0
      have y0 : wr.cell? ⟨b, off + k * 4, none⟩ = some (sv fn) := by rw [unhide HW]; exact x0
      clear x0
      by_cases he : fn = nm
      · obtain ⟨e1, e2⟩ := found_no (unhide HNo) hf he
        have HR : Hid (findA fs nm = (k : Int)) := hide (by unfold findA; rw [e2, e1]; rfl)
        have hbq : (fn == nm) = true := beq_iff_eq.2 he
        clear he hf e1 e2
        go_wp2_with fail
        go_ret
        rw [unhide HR]
        exact ⟨rfl, (unhide HW).symm⟩
      · have hbq : (fn == nm) = false := beq_eq_false_iff_ne.2 he
        have HNo2 : Hid (∀ f ∈ fs.take (k + 1), f.name ≠ nm) := hide (fun g hg => by
          rw [List.take_add_one, hf] at hg
          rcases List.mem_append.1 hg with hg | hg
          · exact unhide HNo g hg
          · simp at hg; rw [hg]; exact he)
        clear he hf
        go_wp2_with fail
        go_roundw
        case rel => exact ⟨k + 1, by omega, by go_num, HNo2, HW⟩
        case measure => simp [intOf]; omega
    · have HR : Hid (findA fs nm = -1) := hide (by
        unfold findA
        rw [has_none (fun f hf => unhide HNo f (by rw [List.take_of_length_le (by have := unhide HN; omega)]; exact hf))]
        rfl)
      go_wp2_with fail
      go_ret
      rw [unhide HR]
      exact ⟨rfl, (unhide HW).symm⟩

set_option maxHeartbeats 2000000 in
theorem rGet_any (a : Option Addr) (n c : Nat) (fs : List Fld) (nm : List UInt8) (w : World) (hv : FdL w (.slice a n c) fs) :
    Calls Tryz.prog 20 #[.slice a n c, sv nm] w fun e w' => e = .returned (.tuple #[.agg (fv (getA fs nm)), .bool (hasF fs nm)]) ∧ Below w.heap.size w w' := by
  have HPl : Hid (∀ W, Below w.heap.size w W → Calls Tryz.prog 43 #[.slice a n c, sv nm] W fun e w' => e = .returned (.int .i64 (findA fs nm)) ∧ W = w') := hide (fun W hW => rfind_any a n c fs nm W (hv.below hW (Nat.le_refl _)))
  obtain ⟨a', c', e, hac, hc63, hcells⟩ := fdl_cells hv
  cases e
  cases hh : hasF fs nm with
  | false =>
    have HG := hide (get_none hh)
    have hfa : findA fs nm = -1 := by unfold findA; rw [hh]; rfl
    rw [hfa] at HPl
    clear hv hcells hh hfa
    go_enter Tryz.func20, Tryz.ntmps20
    go_upto_region 1 with fail
    have hb1 : Below w.heap.size w (w.alloc (.cells (fv fld0) 33)) := (Below.refl _ _).alloc (Nat.le_refl _) _
    have hf1 := FBox.new w fld0
    obtain ⟨w1, hw1⟩ : ∃ w1, w1 = w.alloc (.cells (fv fld0) 33) := ⟨_, rfl⟩
    rw [← hw1] at hb1 hf1
    rw [show w.alloc (.cells #[Value.string ⟨#[]⟩, .bool false, .int .i64 0, Value.string ⟨#[]⟩] 33) = w1 from hw1.symm]
    have HB1 := hide hb1
    have HF1 := hide hf1
    clear hw1 hb1 hf1
    obtain ⟨c0, c1, c2, c3, cf⟩ := (unhide HF1).cells
    have HE := hide ((unhide HF1).put [] false 0 [])
    have BE := hide (below_put (unhide HB1) (Nat.le_refl _) [] false 0 [])
    go_wp2_with (go_at_call 43; refine (unhide HPl _ (unhide HB1)).mono ?_; rintro e w2 ⟨rfl, rfl⟩)
    exact bodyPost_ret (results_ct rfl _ _ w.heap.size 33 (fv fld0) (0, 0) _ (.bool false) rfl rfl (unhide HE) Tryz.underlying33 rfl sizeField) rfl ⟨by rw [unhide HG], unhide BE⟩
  | true =>
    obtain ⟨hql, hqf⟩ := at_get hh
    have hfa : findA fs nm = (atF fs nm : Int) := by unfold findA; rw [hh]; rfl
    rw [hfa] at HPl
    obtain ⟨q, hq⟩ : ∃ q, q = atF fs nm := ⟨_, rfl⟩
    rw [← hq] at HPl hql hqf
    obtain ⟨⟨gn, gt, gi, gs⟩, hg⟩ : ∃ g, g = getA fs nm := ⟨_, rfl⟩
    rw [← hg] at hqf ⊢
    obtain ⟨b, off, rfl, hb, x0, x1, x2, x3⟩ := hcells q _ hqf
    have HCell : Hid (∀ W, Below w.heap.size w W → W.cell? ⟨b, off + q * 4, none⟩ = some (sv gn) ∧ W.cell? ⟨b, off + q * 4 + 1, none⟩ = some (.bool gt) ∧ W.cell? ⟨b, off + q * 4 + 2, none⟩ = some (.int .i64 gi) ∧ W.cell? ⟨b, off + q * 4 + 3, none⟩ = some (sv gs)) := hide (fun W hW => ⟨(hW.cell (p := ⟨b, off + q * 4, none⟩) hb).trans x0, (hW.cell (p := ⟨b, off + q * 4 + 1, none⟩) hb).trans x1, (hW.cell (p := ⟨b, off + q * 4 + 2, none⟩) hb).trans x2, (hW.cell (p := ⟨b, off + q * 4 + 3, none⟩) hb).trans x3⟩)
    have hqi : ¬ (q : Int) < 0 := by omega
    have hqN : (q : Int) < (fs.length : Int) := by omega
    clear hv hcells hh hq hqf hg x0 x1 x2 x3 hfa
    go_enter Tryz.func20, Tryz.ntmps20
    go_upto_region 1 with fail
    have hb1 : Below w.heap.size w (w.alloc (.cells (fv fld0) 33)) := (Below.refl _ _).alloc (Nat.le_refl _) _
    have hf1 := FBox.new w fld0
    obtain ⟨w1, hw1⟩ : ∃ w1, w1 = w.alloc (.cells (fv fld0) 33) := ⟨_, rfl⟩
    rw [← hw1] at hb1 hf1
    rw [show w.alloc (.cells #[Value.string ⟨#[]⟩, .bool false, .int .i64 0, Value.string ⟨#[]⟩] 33) = w1 from hw1.symm]
    have HB1 := hide hb1
    have HF1 := hide hf1
    clear hw1 hb1 hf1
    obtain ⟨c0, c1, c2, c3, cf⟩ := (unhide HF1).cells
    obtain ⟨y0, y1, y2, y3⟩ := unhide HCell w1 (unhide HB1)
    have HE := hide ((unhide HF1).put gn gt gi gs)
    have BE := hide (below_put (unhide HB1) (Nat.le_refl _) gn gt gi gs)
    go_wp2_with (go_at_call 43; refine (unhide HPl _ (unhide HB1)).mono ?_; rintro e w2 ⟨rfl, rfl⟩)
    exact bodyPost_ret (results_ct rfl _ _ w.heap.size 33 (fv ⟨gn, gt, gi, gs⟩) (0, 0) _ (.bool true) rfl rfl (unhide HE) Tryz.underlying33 rfl sizeField) rfl ⟨rfl, unhide BE⟩
end Go.Proofs.YtkgepklmhdjjnaaGreatDoor

/-
  DERIVED. The document's Drop and Set.
-/
namespace Go.Proofs.YtkgepklmhdjjnaaGreatDoor
open Go.RowKit
set_option linter.unusedVariables false

/-- A new slice of no field. -/
theorem fown_empty (w : World) : FOwn (w.alloc (.cells #[] 33)) w.heap.size (.slice (some ⟨w.heap.size, 0, none⟩) 0 0) [] :=
  ⟨rfl, .inr ⟨w.heap.size, 0, #[], rfl, Nat.le_refl _, heap_alloc_new _ _, Nat.le_refl _, by unfold maxLen; omega, rfl, rfl⟩⟩

/-- append(v, y...), as a step of a region that draws. -/
theorem step_append_flds {ops : Array Oper} {o : Oper} {a : Act} {w : World} {K : Act → World → Prop} {Q : Exit → Act → World → Prop} {E : Prop}
    (hg : o.guard = none) (s x : Operand) (ho : o.op = .call { callee := .builtin .append, args := #[s, x], argTypes := #[23, 23] })
    (base : Nat) (v : Value) (R : List Fld) (hs : a.eval s = v) (hown : FOwn w base v R) (ya : Option Addr) (n yc : Nat) (m : List Fld) (hn : n = m.length) (hx : a.eval x = .slice ya n yc) (hy : FdN w ya yc m) (hlen : (R.length + m.length) * 48 ≤ 140737488355328) (hbase : base ≤ w.heap.size)
    (hK : ∀ v' w', FOwn w' base v' (R ++ m) → Below base w w' → K (a.put o.dst v') w') :
    if Region.wanted o (yielded ops a.tmps) = true then Oper.wp Tryz.prog o a w K Q else E := by
  subst hn
  have hw : Region.wanted o (yielded ops a.tmps) = true := by simp [Region.wanted, hg]
  rw [if_pos hw]
  obtain ⟨i0, hi, hh⟩ := Option.map_eq_some_iff.1 Tryz.infoField
  simp only [Prod.mk.injEq] at hh
  obtain ⟨hf, hnil⟩ := hy
  obtain ⟨ao, cap, e, h1, h2, h4⟩ := hf
  cases e
  cases ya with
  | none =>
    obtain rfl : yc = 0 := by
      by_cases hz : yc = 0
      · exact hz
      · obtain ⟨_, _, e⟩ := hnil hz; cases e
    have hm : m = [] := List.eq_nil_of_length_eq_zero (by omega)
    subst hm
    have hrun := run_append_owned_none (P := Tryz.prog) (w := w) base 23 o.type 33 i0 4 Tryz.underlying23 hi v R.length (fcs R) hown
    unfold Oper.wp
    simp [execOp, ho, resolve, invoke, builtin, hs, hx, hrun, Result.andThen]
    exact hK v w (by simpa using hown) (Below.refl _ _)
  | some ad =>
    obtain ⟨v', w', hrun, r1, r2, _⟩ := run_append_own (P := Tryz.prog) w base 23 o.type 33 i0 (.agg (fv fld0)) 4 48 Tryz.underlying23 hi hh.1 hh.2.1 hh.2.2 rfl (by decide) v R.length (fcs R) hown ad m.length yc (fcs m) (by rw [fcs_len]) (fun j u hj => by
      have hl := (List.getElem?_eq_some_iff.1 hj).1
      rw [fcs_len] at hl
      obtain ⟨b, off, e, _, hc⟩ := h4 (by omega)
      cases e
      exact fcs_at hc j u hj) (fcs_one m) (by unfold maxLen; omega) (by omega) hbase
    unfold Oper.wp
    simp [execOp, ho, resolve, invoke, builtin, hs, hx, hrun, Result.andThen]
    refine hK v' w' (by unfold FOwn; rw [fcs_append, List.length_append]; exact r1) ((Below.refl _ _).grown r2 hbase ?_)
    intro k hk
    rcases hown.2 with ⟨rfl, _⟩ | ⟨g, cap', cur, rfl, hb, _⟩
    · cases hk
    · simp only [Value.ownBlock, Option.some.injEq] at hk; omega

theorem fcs_set : ∀ (R : List Fld) (q : Nat) (f : Fld), q < R.length → ((((fcs R).set (q * 4) (sv f.name)).set (q * 4 + 1) (.bool f.text)).set (q * 4 + 2) (.int .i64 f.n)).set (q * 4 + 3) (sv f.s) = fcs (R.set q f)
  | [], q, f, h => by simp at h
  | a :: r, 0, f, _ => by simp [fcs_cons]
  | a :: r, q + 1, f, h => by
    have ih := fcs_set r q f (by simpa using h)
    have e0 : (q + 1) * 4 = q * 4 + 1 + 1 + 1 + 1 := by omega
    have e1 : (q + 1) * 4 + 1 = (q * 4 + 1) + 1 + 1 + 1 + 1 := by omega
    have e2 : (q + 1) * 4 + 2 = (q * 4 + 2) + 1 + 1 + 1 + 1 := by omega
    have e3 : (q + 1) * 4 + 3 = (q * 4 + 3) + 1 + 1 + 1 + 1 := by omega
    rw [e1, e2, e3, e0, fcs_cons]
    simp only [List.set_cons_succ]
    rw [ih]
    rfl

/-- A row of fields of one's own that has memory. -/
def FRow (w : World) (base g n cap : Nat) (R : List Fld) : Prop := n = R.length ∧ FOwn w base (.slice (some ⟨g, 0, none⟩) n cap) R

/-- A field is written over. -/
theorem FOwn.put {w : World} {base g cap : Nat} {R : List Fld} (h : FOwn w base (.slice (some ⟨g, 0, none⟩) R.length cap) R) (q : Nat) (hq : q < R.length) (f : Fld) :
    FOwn ((((w.setCell ⟨g, q * 4, none⟩ (sv f.name)).setCell ⟨g, q * 4 + 1, none⟩ (.bool f.text)).setCell ⟨g, q * 4 + 2, none⟩ (.int .i64 f.n)).setCell ⟨g, q * 4 + 3, none⟩ (sv f.s)) base (.slice (some ⟨g, 0, none⟩) R.length cap) (R.set q f) := by
  obtain ⟨h1, h2⟩ := h
  rcases h2 with ⟨e, _⟩ | ⟨g', cap', cur, e, hb, hg, hn, hm, hs, ht⟩
  · cases e
  · cases e
    refine ⟨by rw [fcs_len, List.length_set], .inr ⟨g, cap, _, by rw [List.length_set], hb, heap_setCell_same _ g _ _ _ _ (heap_setCell_same _ g _ _ _ _ (heap_setCell_same _ g _ _ _ _ (heap_setCell_same w g _ _ _ _ hg))), by rw [List.length_set]; exact hn, hm, ?_, ?_⟩⟩
    · simpa using hs
    · rw [List.length_set, ← fcs_set R q f hq, ← ht]
      simp only [Array.toList_setIfInBounds, List.take_set]
theorem FOwn.slots {w : World} {base g n cap : Nat} {R : List Fld} (h : FOwn w base (.slice (some ⟨g, 0, none⟩) n cap) R) (q : Nat) (hq : q < R.length) : (w.cell? ⟨g, q * 4, none⟩ = some (sv R[q].name) ∧ w.cell? ⟨g, q * 4 + 1, none⟩ = some (.bool R[q].text) ∧ w.cell? ⟨g, q * 4 + 2, none⟩ = some (.int .i64 R[q].n) ∧ w.cell? ⟨g, q * 4 + 3, none⟩ = some (sv R[q].s)) ∧ ∀ i, w.frozen? ⟨g, i, none⟩ = false := by
  obtain ⟨ao, c', e, _, _, h4⟩ := h.fdl
  cases e
  obtain ⟨b, off, e, _, hc⟩ := h4 (by omega)
  cases e
  refine ⟨by have := hc q hq; simpa using this, fun i => ?_⟩
  rcases h.2 with ⟨e, _⟩ | ⟨g', cap', cur, e, hb, hg, _⟩
  · cases e
  · cases e; simp [World.frozen?, hg]
theorem below_fput {B : Nat} {a w : World} (h : Below B a w) {g : Nat} (hg : B ≤ g) (q : Nat) (f : Fld) : Below B a ((((w.setCell ⟨g, q * 4, none⟩ (sv f.name)).setCell ⟨g, q * 4 + 1, none⟩ (.bool f.text)).setCell ⟨g, q * 4 + 2, none⟩ (.int .i64 f.n)).setCell ⟨g, q * 4 + 3, none⟩ (sv f.s)) :=
  (((h.setCell (p := ⟨g, q * 4, none⟩) hg _).setCell (p := ⟨g, q * 4 + 1, none⟩) hg _).setCell (p := ⟨g, q * 4 + 2, none⟩) hg _).setCell (p := ⟨g, q * 4 + 3, none⟩) hg _
end Go.Proofs.YtkgepklmhdjjnaaGreatDoor

/-
  DERIVED. The document's Drop and Set.
-/
namespace Go.Proofs.YtkgepklmhdjjnaaGreatDoor
open Go.RowKit
set_option linter.unusedVariables false

theorem drop_same {r : List Fld} {nm : List UInt8} (h : hasF r nm = false) : dropF r nm = r := by
  unfold dropF behF
  rw [h]
  simp
theorem fdn_len {w : World} {a : Option Addr} {c : Nat} {fs : List Fld} (h : FdN w a c fs) : fs.length ≤ c ∧ c ≤ 9223372036854775807 := by obtain ⟨_, _, e, h1, h2, _⟩ := h.1; cases e; exact ⟨h1, h2⟩

set_option maxHeartbeats 4000000 in
theorem rDrop_any (a : Option Addr) (c : Nat) (fs : List Fld) (nm : List UInt8) (w : World) (hv : FdN w a c fs) (hlen : fs.length * 48 ≤ 140737488355328) :
    Calls Tryz.prog 24 #[.slice a fs.length c, sv nm] w fun e w' => ∃ v, e = .returned v ∧ FOwn w' w.heap.size v (dropF fs nm) ∧ Below w.heap.size w w' := by
  have HPl := hide (rfind_any a fs.length c fs nm w hv.1)
  have hcl := fdn_len hv
  have hb0 : Below w.heap.size w (w.alloc (.cells #[] 33)) := (Below.refl _ _).alloc (Nat.le_refl _) _
  have HB0 := hide hb0
  have HV0 := hide (hv.below hb0 (Nat.le_refl _))
  have HO0 := hide (fown_empty w)
  cases hh : hasF fs nm with
  | false =>
    have hfa : findA fs nm = -1 := by unfold findA; rw [hh]; rfl
    have HD := hide (drop_same hh)
    rw [hfa] at HPl
    clear hv hh hfa hb0
    go_enter Tryz.func24, Tryz.ntmps24
    go_wp2_with (first | (go_at_call 43; refine (unhide HPl).mono ?_; rintro e w2 ⟨rfl, rfl⟩) | (at_builtin; refine wpList_append_flds rfl (.tmp 11) (.tmp 12) rfl w.heap.size _ [] rfl (unhide HO0) a c fs rfl (unhide HV0) (by simp; omega) (unhide HB0).size ?_; intro v' w5 own5 b5; have HO5 := hide own5; have HB5 := hide ((unhide HB0).trans b5); clear own5 b5))
    go_ret
    exact ⟨_, rfl, by rw [unhide HD]; simpa using unhide HO5, unhide HB5⟩
  | true =>
    obtain ⟨hql, _⟩ := at_get hh
    have hfa : findA fs nm = (atF fs nm : Int) := by unfold findA; rw [hh]; rfl
    have hbe : behF fs nm = atF fs nm + 1 := by unfold behF; rw [hh]; rfl
    have HD : Hid (dropF fs nm = fs.take (atF fs nm) ++ fs.drop (behF fs nm)) := hide rfl
    rw [hfa] at HPl
    obtain ⟨q, hq⟩ : ∃ q, q = atF fs nm := ⟨_, rfl⟩
    obtain ⟨p, hp⟩ : ∃ p, p = behF fs nm := ⟨_, rfl⟩
    rw [← hq] at HPl hql hbe
    rw [← hp] at hbe
    rw [← hq, ← hp] at HD
    obtain ⟨b, off, rfl⟩ := hv.2 (by omega)
    have hwp : IntKind.i64.wrap ((q : Int) + 1) = (p : Int) := by rw [IntKind.wrap_i64]; omega
    have hpl : p ≤ fs.length := by omega
    have hqp : q ≤ p := by omega
    have hq0 : ¬ (q : Int) < 0 := by omega
    have i1 : (0 : Int) ≤ (q : Int) := by omega
    have i2 : (q : Int) ≤ (c : Int) := by omega
    have i3 : (p : Int) ≤ (fs.length : Int) := by omega
    have i4 : (0 : Int) ≤ (p : Int) := by omega
    have i5 : (fs.length : Int) ≤ (c : Int) := by omega
    have HT := hide ((unhide HV0).take q (by omega))
    have HTl : Hid ((fs.take q).length = q) := hide (by simp; omega)
    by_cases hcp : c = p
    · have HE : Hid (fs.drop p = []) := hide (List.drop_of_length_le (by omega))
      have HR : Hid (∀ W, Below w.heap.size w W → FdN W (some ⟨b, off, none⟩) 0 (fs.drop p)) := hide (fun W hW => by rw [unhide HE]; exact FdN.empty (fun h => absurd rfl h) (by omega))
      have HDl : Hid ((fs.drop p).length = 0) := hide (by rw [unhide HE]; rfl)
      subst hcp
      clear hv hh hfa hb0 hbe hq hp
      go_enter Tryz.func24, Tryz.ntmps24
      go_upto_region 4 with (go_at_call 43; refine (unhide HPl).mono ?_; rintro e w2 ⟨rfl, rfl⟩)
      go_region_law (first | (refine step_append_flds rfl (.tmp 14) (.tmp 17) rfl w.heap.size _ [] rfl ?own (some ⟨b, off, none⟩) q c (fs.take q) (unhide HTl).symm rfl ?fd ?hl ?hb ?_; (case own => exact (unhide HO0).below ((Below.refl _ _).drew) (Nat.le_refl _)); (case fd => exact (unhide HT).below ((Below.refl _ _).drew) (Nat.le_refl _)); (case hl => simp; omega); (case hb => simp); intro v4 w4 own4 b4; have HO4 : Hid (FOwn w4 w.heap.size v4 (fs.take q)) := hide (by simpa using own4); have HB4 := hide (((unhide HB0).drew).trans b4); clear own4 b4) | (refine step_append_flds rfl (.tmp 18) (.tmp 22) rfl w.heap.size _ (fs.take q) rfl ?own2 (some ⟨b, off, none⟩) 0 0 (fs.drop c) (unhide HDl).symm rfl ?fd2 ?hl2 ?hb2 ?_; (case own2 => exact unhide HO4); (case fd2 => exact unhide HR _ (unhide HB4)); (case hl2 => simp; omega); (case hb2 => exact (unhide HB4).size); intro v5 w5 own5 b5; have HO5 := hide own5; have HB5 := hide ((unhide HB4).trans b5); clear own5 b5))
      all_goals
        go_wp2
        go_ret
        exact ⟨_, rfl, by rw [unhide HD]; exact unhide HO5, unhide HB5⟩
    · have HR := hide (fun W (hW : Below w.heap.size w W) => ((hv.below hW (Nat.le_refl _)).drop p hpl))
      have HDl : Hid ((fs.drop p).length = fs.length - p) := hide (by simp)
      clear hv hh hfa hb0 hbe hq hp
      go_enter Tryz.func24, Tryz.ntmps24
      go_upto_region 4 with (go_at_call 43; refine (unhide HPl).mono ?_; rintro e w2 ⟨rfl, rfl⟩)
      go_region_law (first | (refine step_append_flds rfl (.tmp 14) (.tmp 17) rfl w.heap.size _ [] rfl ?own (some ⟨b, off, none⟩) q c (fs.take q) (unhide HTl).symm rfl ?fd ?hl ?hb ?_; (case own => exact (unhide HO0).below ((Below.refl _ _).drew) (Nat.le_refl _)); (case fd => exact (unhide HT).below ((Below.refl _ _).drew) (Nat.le_refl _)); (case hl => simp; omega); (case hb => simp); intro v4 w4 own4 b4; have HO4 : Hid (FOwn w4 w.heap.size v4 (fs.take q)) := hide (by simpa using own4); have HB4 := hide (((unhide HB0).drew).trans b4); clear own4 b4) | (refine step_append_flds rfl (.tmp 18) (.tmp 22) rfl w.heap.size _ (fs.take q) rfl ?own2 (some ⟨b, off + p * 4, none⟩) (fs.length - p) (c - p) (fs.drop p) (unhide HDl).symm rfl ?fd2 ?hl2 ?hb2 ?_; (case own2 => exact unhide HO4); (case fd2 => exact unhide HR _ (unhide HB4)); (case hl2 => simp; omega); (case hb2 => exact (unhide HB4).size); intro v5 w5 own5 b5; have HO5 := hide own5; have HB5 := hide ((unhide HB4).trans b5); clear own5 b5))
      all_goals
        go_wp2
        go_ret
        exact ⟨_, rfl, by rw [unhide HD]; exact unhide HO5, unhide HB5⟩

theorem set_has {r : List Fld} {f : Fld} (h : hasF r f.name = true) : setF r f = r.set (atF r f.name) f := by
  unfold setF behF
  rw [h]
  have := (at_get h).1
  simp only [if_true]
  rw [List.set_eq_take_append_cons_drop, if_pos this]
  simp

theorem at_none {r : List Fld} {nm : List UInt8} {k : Nat} (hh : hasF r nm = false) (hk : k ≤ r.length) (hb : ∀ f ∈ r.take k, ¬ nm < f.name) (ha : ∀ f, r[k]? = some f → nm < f.name) : atF r nm = k := by
  have h1 : r.findIdx? (fun f => f.name == nm) = none := by
    unfold hasF at hh
    rw [List.any_eq_false] at hh
    rw [List.findIdx?_eq_none_iff]; intro f hf; simpa using hh f hf
  unfold atF
  rw [h1]
  refine findIdx_of hk (fun i x hi hx => ?_) (fun hl => ?_)
  · have : x ∈ r.take k := List.mem_iff_getElem?.2 ⟨i, by rw [List.getElem?_take_of_lt hi]; exact hx⟩
    simpa using hb x this
  · exact ⟨r[k], List.getElem?_eq_getElem hl, by simpa using ha _ (List.getElem?_eq_getElem hl)⟩

theorem one_fdn (W : World) (f : Fld) : FdN (W.alloc (.cells (fv f) 33)) (some ⟨W.heap.size, 0, none⟩) 1 [f] := by
  have fb := FBox.new W f
  obtain ⟨x0, x1, x2, x3, _⟩ := fb.cells
  refine ⟨⟨_, _, rfl, by simp, by omega, fun _ => ⟨W.heap.size, 0, rfl, fb.lt, fun i hi => ?_⟩⟩, fun _ => ⟨_, _, rfl⟩⟩
  have : i = 0 := by simp at hi; omega
  subst this
  simp only [Nat.zero_mul, Nat.add_zero, Nat.zero_add, List.getElem_cons_zero]
  exact ⟨x0, x1, x2, x3⟩

set_option maxHeartbeats 4000000 in
theorem rSet_has (a : Option Addr) (c : Nat) (fs : List Fld) (f : Fld) (w : World) (hv : FdN w a c fs) (hlen : (fs.length + 1) * 48 ≤ 140737488355328) (hh : hasF fs f.name = true) :
    Calls Tryz.prog 23 #[.slice a fs.length c, .agg (fv f)] w fun e w' => ∃ v, e = .returned v ∧ FOwn w' w.heap.size v (setF fs f) ∧ Below w.heap.size w w' := by
  have HSet := hide (set_has hh)
  obtain ⟨fn, ft, fi, fss⟩ := f
  simp only at hh HSet
  have hcl := fdn_len hv
  obtain ⟨hql, _⟩ := at_get hh
  have hfa : findA fs fn = (atF fs fn : Int) := by unfold findA; rw [hh]; rfl
  have HPl : Hid (∀ W, Below w.heap.size w W → Calls Tryz.prog 43 #[.slice a fs.length c, sv fn] W fun e w' => e = .returned (.int .i64 (findA fs fn)) ∧ W = w') := hide (fun W hW => rfind_any a fs.length c fs fn W (hv.1.below hW (Nat.le_refl _)))
  rw [hfa] at HPl
  obtain ⟨q, hq⟩ : ∃ q, q = atF fs fn := ⟨_, rfl⟩
  rw [← hq] at HPl hql HSet
  have hb1 : Below w.heap.size w (w.alloc (.cells (fv ⟨fn, ft, fi, fss⟩) 33)) := (Below.refl _ _).alloc (Nat.le_refl _) _
  have hf1 := FBox.new w ⟨fn, ft, fi, fss⟩
  obtain ⟨w1, hw1⟩ : ∃ w1, w1 = w.alloc (.cells (fv ⟨fn, ft, fi, fss⟩) 33) := ⟨_, rfl⟩
  have HW1 := hide hw1
  rw [← hw1] at hb1 hf1
  have HBW := hide hb1
  have HB0 := hide ((Below.refl w1.heap.size w1).alloc (Nat.le_refl _) (.cells #[] 33))
  have HV0 := hide ((hv.below hb1 (Nat.le_refl _)).below (unhide HB0) (Nat.le_refl _))
  have HO0 := hide (fown_empty w1)
  have HBox := hide hf1
  have hq0 : (0 : Int) ≤ (q : Int) := by omega
  have hqn : ¬ (q : Int) < 0 := by omega
  obtain ⟨x0, x1, x2, x3, xf⟩ := hf1.cells
  simp only at x0 x1 x2 x3
  clear hv hh hfa hq hw1 hb1 hf1
  go_enter Tryz.func23, Tryz.ntmps23
  go_upto_region 1 with fail
  rw [← unhide HW1]
  obtain ⟨B, hB⟩ : ∃ B, B = w.heap.size := ⟨_, rfl⟩
  rw [← hB] at x0 x1 x2 x3 xf HBox ⊢
  have HBB := hide hB
  clear hB HW1
  go_upto_region 4 with (first | (go_at_call 43; refine (unhide HPl _ (unhide HBW)).mono ?_; rintro e w2 ⟨rfl, rfl⟩) | (at_builtin; refine wpList_append_flds rfl (.tmp 14) (.tmp 15) rfl w1.heap.size _ [] rfl (unhide HO0) a c fs rfl (unhide HV0) (by simp; omega) (unhide HB0).size ?_; intro v' w5 own5 b5; have HO5 : Hid (FOwn w5 w1.heap.size v' fs) := hide (by simpa using own5); have HB5 := hide ((unhide HB0).trans b5); clear own5 b5))
  have hown := unhide HO5
  rcases hown.2 with ⟨_, h0⟩ | ⟨g, cap, cur, rfl, hgb, hg, hn, hm, hs, hta⟩
  · omega
  · obtain ⟨⟨y0, y1, y2, y3⟩, yf⟩ := hown.slots q hql
    have HP := hide (hown.put q hql ⟨fn, ft, fi, fss⟩)
    have HBP := hide (below_fput (unhide HB5) hgb q ⟨fn, ft, fi, fss⟩)
    clear x0 x1 x2 x3 xf
    obtain ⟨x0, x1, x2, x3, xf⟩ := ((unhide HBox).below (unhide HB5) (Nat.le_refl _)).cells
    simp only at x0 x1 x2 x3
    have hqN : (q : Int) < (fs.length : Int) := by omega
    have hBg : B ≠ g := by have := (unhide HBox).lt; omega
    clear hg hn hm hs hta hown
    go_wp2_with fail
    go_ret
    exact ⟨_, rfl, (by rw [unhide HSet]; exact (unhide HP).mono (unhide HBW).size), (unhide HBW).trans ((unhide HBP).mono (unhide HBW).size)⟩
end Go.Proofs.YtkgepklmhdjjnaaGreatDoor

/-
  DERIVED. The document's Set where there is no such field.
-/
namespace Go.Proofs.YtkgepklmhdjjnaaGreatDoor
open Go.RowKit
set_option linter.unusedVariables false

theorem FBox.fdn {W : World} {q : Nat} {f : Fld} (h : FBox W q f) : FdN W (some ⟨q, 0, none⟩) 1 [f] := by
  obtain ⟨x0, x1, x2, x3, _⟩ := h.cells
  refine ⟨⟨_, _, rfl, by simp, by omega, fun _ => ⟨q, 0, rfl, h.lt, fun i hi => ?_⟩⟩, fun _ => ⟨_, _, rfl⟩⟩
  have : i = 0 := by simp at hi; omega
  subst this
  simp only [Nat.zero_mul, Nat.add_zero, Nat.zero_add, List.getElem_cons_zero]
  exact ⟨x0, x1, x2, x3⟩

/-- append(v, y...) to a new slice of no field, as a step of a region that draws: every box but the slice's own stays. -/
theorem step_append_first {ops : Array Oper} {o : Oper} {a : Act} {w : World} {K : Act → World → Prop} {Q : Exit → Act → World → Prop} {E : Prop}
    (hg : o.guard = none) (s x : Operand) (ho : o.op = .call { callee := .builtin .append, args := #[s, x], argTypes := #[23, 23] })
    (base : Nat) (g : Nat) (hs : a.eval s = .slice (some ⟨g, 0, none⟩) 0 0) (hgb : base ≤ g) (hown : w.heap[g]? = some (.cells #[] 33)) (ya : Option Addr) (n yc : Nat) (m : List Fld) (hn : n = m.length) (hx : a.eval x = .slice ya n yc) (hy : FdN w ya yc m) (hlen : m.length * 48 ≤ 140737488355328) (hbase : base ≤ w.heap.size)
    (hK : ∀ v' w', FOwn w' base v' m → Below base w w' → (∀ q f, FBox w q f → FBox w' q f) → K (a.put o.dst v') w') :
    if Region.wanted o (yielded ops a.tmps) = true then Oper.wp Tryz.prog o a w K Q else E := by
  have hown : FOwn w base (.slice (some ⟨g, 0, none⟩) 0 0) [] := ⟨rfl, .inr ⟨g, 0, #[], rfl, hgb, hown, Nat.le_refl _, by unfold maxLen; omega, rfl, rfl⟩⟩
  have hgg := hown
  subst hn
  have hw : Region.wanted o (yielded ops a.tmps) = true := by simp [Region.wanted, hg]
  rw [if_pos hw]
  obtain ⟨i0, hi, hh⟩ := Option.map_eq_some_iff.1 Tryz.infoField
  simp only [Prod.mk.injEq] at hh
  obtain ⟨hf, hnil⟩ := hy
  obtain ⟨ao, cap, e, h1, h2, h4⟩ := hf
  cases e
  cases ya with
  | none =>
    obtain rfl : yc = 0 := by
      by_cases hz : yc = 0
      · exact hz
      · obtain ⟨_, _, e⟩ := hnil hz; cases e
    have hm : m = [] := List.eq_nil_of_length_eq_zero (by omega)
    subst hm
    have hrun := run_append_owned_none (P := Tryz.prog) (w := w) base 23 o.type 33 i0 4 Tryz.underlying23 hi _ 0 (fcs []) hown
    unfold Oper.wp
    simp [execOp, ho, resolve, invoke, builtin, hs, hx, hrun, Result.andThen]
    exact hK _ w hown (Below.refl _ _) (fun _ _ h => h)
  | some ad =>
    obtain ⟨v', w', hrun, r1, r2, _⟩ := run_append_own (P := Tryz.prog) w base 23 o.type 33 i0 (.agg (fv fld0)) 4 48 Tryz.underlying23 hi hh.1 hh.2.1 hh.2.2 rfl (by decide) _ 0 (fcs []) hown ad m.length yc (fcs m) (by rw [fcs_len]) (fun j u hj => by
      have hl := (List.getElem?_eq_some_iff.1 hj).1
      rw [fcs_len] at hl
      obtain ⟨b, off, e, _, hc⟩ := h4 (by omega)
      cases e
      exact fcs_at hc j u hj) (fcs_one m) (by unfold maxLen; omega) (by omega) hbase
    unfold Oper.wp
    simp [execOp, ho, resolve, invoke, builtin, hs, hx, hrun, Result.andThen]
    refine hK v' w' (by unfold FOwn; have e : (fcs [] ++ fcs m) = fcs m := rfl; rw [e, Nat.zero_add] at r1; exact r1) ((Below.refl _ _).grown r2 hbase ?_) ?_
    · intro k hk
      simp only [Value.ownBlock, Option.some.injEq] at hk; omega
    · intro q f hq
      refine hq.same (r2.block q hq.lt ?_)
      simp only [Value.ownBlock]
      intro e
      cases e
      obtain ⟨_, h2⟩ := hgg
      rcases h2 with ⟨e, _⟩ | ⟨g', cap', cur, e, hb, hg', hn, hm, hs', ht⟩
      · cases e
      · cases e
        unfold FBox at hq
        rw [hq] at hg'
        cases hg'
        simp at hs'

theorem push2_last (h : Array Obj) (x y : Obj) (n : Nat) (hn : n = h.size + 1) : ((h.push x).push y)[n]? = some y := by
  subst hn
  rw [show h.size + 1 = (h.push x).size by simp, Array.getElem?_push_size]
theorem push2_first (h : Array Obj) (x y : Obj) : ((h.push x).push y)[h.size]? = some x := by
  simp [Array.getElem?_push]

macro "below_go" t:term : tactic => `(tactic| repeat (first | exact $t | refine Below.drew ?_ | refine Below.alloc ?_ (by first | omega | (simp; omega) | simp) _))

set_option maxHeartbeats 8000000 in
theorem rSet_none (a : Option Addr) (c : Nat) (fs : List Fld) (f : Fld) (w : World) (hv : FdN w a c fs) (hlen : (fs.length + 1) * 48 ≤ 140737488355328) (hh : hasF fs f.name = false) :
    Calls Tryz.prog 23 #[.slice a fs.length c, .agg (fv f)] w fun e w' => ∃ v, e = .returned v ∧ FOwn w' w.heap.size v (setF fs f) ∧ Below w.heap.size w w' := by
  have HHas := hide hh
  obtain ⟨fn, ft, fi, fss⟩ := f
  simp only at hh HHas
  have hcl := fdn_len hv
  have HPl : Hid (∀ W, Below w.heap.size w W → Calls Tryz.prog 43 #[.slice a fs.length c, sv fn] W fun e w' => e = .returned (.int .i64 (findA fs fn)) ∧ W = w') := hide (fun W hW => rfind_any a fs.length c fs fn W (hv.1.below hW (Nat.le_refl _)))
  rw [show findA fs fn = -1 by unfold findA; rw [hh]; rfl] at HPl
  have HSetG : Hid (∀ k, atF fs fn = k → setF fs ⟨fn, ft, fi, fss⟩ = fs.take k ++ [⟨fn, ft, fi, fss⟩] ++ fs.drop k) := hide (fun k hk => by unfold setF behF; simp only [hh, hk]; simp)
  have hb1 : Below w.heap.size w (w.alloc (.cells (fv ⟨fn, ft, fi, fss⟩) 33)) := (Below.refl _ _).alloc (Nat.le_refl _) _
  have hf1 := FBox.new w ⟨fn, ft, fi, fss⟩
  obtain ⟨w1, hw1⟩ : ∃ w1, w1 = w.alloc (.cells (fv ⟨fn, ft, fi, fss⟩) 33) := ⟨_, rfl⟩
  have HW1 := hide hw1
  rw [← hw1] at hb1 hf1
  have HBW := hide hb1
  have HBox1 := hide hf1
  have HV := hide hv
  obtain ⟨x0, x1, x2, x3, xf⟩ := hf1.cells
  simp only at x0 x1 x2 x3
  obtain ⟨N, hN⟩ : ∃ N, N = fs.length := ⟨_, rfl⟩
  have HN := hide hN
  clear hv hh hw1 hb1 hf1
  go_enter Tryz.func23, Tryz.ntmps23
  go_upto_region 1 with fail
  rw [← unhide HW1]
  obtain ⟨B, hB⟩ : ∃ B, B = w.heap.size := ⟨_, rfl⟩
  rw [← hB] at x0 x1 x2 x3 xf HBox1 ⊢
  clear hB HW1
  rw [← hN] at HPl hcl ⊢
  clear hN
  go_wp2_with (go_at_call 43; refine (unhide HPl _ (unhide HBW)).mono ?_; rintro e w2 ⟨rfl, rfl⟩)
  clear x0 x1 x2 x3 xf
  go_loopw [7] (fun i wr => ∃ (k : Nat), k ≤ N ∧ i = .int .i64 k ∧ Hid (∀ f ∈ fs.take k, ¬ fn < f.name) ∧ Hid (∃ nq, wr = w1.drewN nq)) (fun i _ => N - (intOf i).toNat)
  case atStart => exact ⟨0, by omega, rfl, hide (fun f hf => by simp at hf), hide ⟨0, rfl⟩⟩
  case round =>
    obtain ⟨k, hk, rfl, HNo, HW⟩ := hrel
    have HBr0 : Hid (∀ m, Below w.heap.size w (wr.drewN m)) := hide (fun m => by obtain ⟨nq, e⟩ := unhide HW; rw [e]; exact below_drewN (below_drewN (unhide HBW) nq) m)
    have HBoxr : Hid (∀ m, FBox (wr.drewN m) B ⟨fn, ft, fi, fss⟩) := hide (fun m => by obtain ⟨nq, e⟩ := unhide HW; rw [e]; exact (unhide HBox1).below (below_drewN (below_drewN (Below.refl _ _) nq) m) (Nat.le_refl _))
    have HVr : Hid (∀ m, FdN (wr.drewN m) a c fs) := hide (fun m => (unhide HV).below (unhide HBr0 m) (Nat.le_refl _))
    have HWm : Hid (∀ m, ∃ nq, wr.drewN m = w1.drewN nq) := hide (fun m => by obtain ⟨nq, e⟩ := unhide HW; exact ⟨nq + m, by rw [e]; exact World.drewN_drewN _ _ _⟩)
    have z0 : ∀ m, (wr.drewN m).cell? ⟨B, 0, none⟩ = some (sv fn) := fun m => (unhide HBoxr m).cells.1
    by_cases hlt : k < N
    · have hkl : k < fs.length := by have := unhide HN; omega
      obtain ⟨b, off, rfl⟩ := (unhide HV).2 (by omega)
      obtain ⟨⟨gn, gt, gi, gs⟩, hg⟩ : ∃ g, fs[k]? = some g := ⟨_, List.getElem?_eq_getElem hkl⟩
      have r0 : ∀ m, (wr.drewN m).cell? ⟨b, off + k * 4, none⟩ = some (sv gn) := fun m => by
        obtain ⟨a', c', e, _, _, hcells⟩ := fdl_cells (unhide HVr m).1
        cases e
        obtain ⟨b', off', e, _, q0, _⟩ := hcells k _ hg
        cases e
        exact q0
      have hlt1 : decide ((k : Int) < (N : Int)) = true := decide_eq_true (by omega)
      have hlt2 : decide (k < N) = true := decide_eq_true hlt
      by_cases hle : gn ≤ fn
      · have hq : (Op.bytesLess gn fn || gn == fn) = true := by rw [str_le]; exact decide_eq_true hle
        have HNo2 : Hid (∀ f ∈ fs.take (k + 1), ¬ fn < f.name) := hide (fun x hx => by
          rw [List.take_add_one, hg] at hx
          rcases List.mem_append.1 hx with hx | hx
          · exact unhide HNo x hx
          · simp at hx; rw [hx]; exact fun hl => (List.not_le.2 hl) hle)
        clear hg hle
        go_upto_region 7 with fail
        go_quiet (fail)
        go_wp2
        go_roundw
        case rel => exact ⟨k + 1, by omega, by go_num, HNo2, hide (unhide HWm _)⟩
        case measure => simp [intOf]; omega
      · have hq : (Op.bytesLess gn fn || gn == fn) = false := by rw [str_le]; exact decide_eq_false hle
        have hat : atF fs fn = k := at_none (unhide HHas) (by omega) (unhide HNo) (fun x hx => by rw [hg] at hx; cases hx; exact List.not_le.1 hle)
        have HSet := hide (unhide HSetG k hat)
        clear hg hle hat
        go_upto_region 7 with fail
        go_quiet (fail)
        go_upto_region 9 with fail
        have HBq := hide (unhide HBr0 nq)
        have HBoxq := hide (unhide HBoxr nq)
        have HVq := hide (unhide HVr nq)
        have HTl : Hid ((fs.take k).length = k) := hide (by simp; omega)
        have HDl : Hid ((fs.drop k).length = N - k) := hide (by simp; have := unhide HN; omega)
        obtain ⟨x0, x1, x2, x3, xf⟩ := (unhide HBoxq).cells
        simp only at x0 x1 x2 x3
        have i1 : (0 : Int) ≤ (k : Int) := by omega
        have i2 : (k : Int) ≤ (c : Int) := by omega
        have i3 : (k : Int) ≤ (N : Int) := by omega
        have i5 : (N : Int) ≤ (c : Int) := by omega
        have hck : ¬ c = k := by omega
        have HDr : Hid (∀ W, Below w.heap.size w W → FdN W (some ⟨b, off + k * 4, none⟩) (c - k) (fs.drop k)) := hide (fun W hW => ((unhide HV).below hW (Nat.le_refl _)).drop k (by have := unhide HN; omega))
        obtain ⟨W0, hW0⟩ : ∃ W0, W0 = wr.drewN nq := ⟨_, rfl⟩
        rw [← hW0] at HBq HBoxq HVq x0 x1 x2 x3 xf ⊢
        have hB0 : B < W0.heap.size := (unhide HBoxq).lt
        have hB1 : ¬ B = W0.heap.size := by omega
        clear hW0 HBr0 HBoxr HVr HWm z0 r0 hq hlt1 hlt2
        go_region_law (first | (refine step_append_first rfl (.tmp 38) (.tmp 41) rfl w.heap.size _ rfl ?hgb ?own (some ⟨b, off, none⟩) k c (fs.take k) (unhide HTl).symm rfl ?fd ?hl ?hb ?_; (case hgb => have := (unhide HBq).size; omega); (case own => first | exact heap_alloc_new _ _ | exact push2_first _ _ _ | exact push2_last _ _ _ _ rfl); (case fd => exact ((unhide HVq).take k (by have := unhide HN; omega)).below (B := W0.heap.size) (by below_go (Below.refl _ _)) (Nat.le_refl _)); (case hl => rw [unhide HTl]; have := unhide HN; omega); (case hb => have := (unhide HBq).size; first | omega | (simp; omega)); intro v4 w4 own4 b4 fb4; have HO4 := hide own4; have HB4 : Hid (Below w.heap.size w w4) := hide (Below.trans (by have hsq := (unhide HBq).size; below_go (unhide HBq)) b4); have HF4 := hide fb4; (have y4 := (fb4 B ⟨fn, ft, fi, fss⟩ ((unhide HBoxq).below (B := W0.heap.size) (by below_go (Below.refl _ _)) (Nat.le_refl _))).cells); clear own4 b4 fb4; obtain ⟨y0, y1, y2, y3, y4⟩ := y4; simp only at y0 y1 y2 y3) | (refine step_append_flds rfl (.tmp 42) (.tmp 44) rfl w.heap.size _ (fs.take k) rfl ?own2 _ 1 1 [⟨fn, ft, fi, fss⟩] rfl rfl ?fd2 ?hl2 ?hb2 ?_; (case own2 => first | exact unhide HO4 | exact (unhide HO4).below ((Below.refl _ _).alloc (Nat.le_refl _) _) (Nat.le_refl _)); (case fd2 => refine FBox.fdn ?_; first | exact FBox.new _ ⟨fn, ft, fi, fss⟩ | exact unhide HF4 _ ⟨fn, ft, fi, fss⟩ (push2_last _ _ _ _ rfl) | exact unhide HF4 _ ⟨fn, ft, fi, fss⟩ (push2_first _ _ _)); (case hl2 => rw [unhide HTl]; simp only [List.length_singleton]; have := unhide HN; omega); (case hb2 => first | exact (unhide HB4).size | (have := (unhide HB4).size; simp; omega)); intro v5 w5 own5 b5; have HO5 := hide own5; have HB5 : Hid (Below w.heap.size w w5) := hide (Below.trans (by first | exact unhide HB4 | exact (unhide HB4).alloc ((unhide HB4).size) _) b5); clear own5 b5) | (refine step_append_flds rfl (.tmp 45) (.tmp 48) rfl w.heap.size _ _ rfl (unhide HO5) (some ⟨b, off + k * 4, none⟩) (N - k) (c - k) (fs.drop k) (unhide HDl).symm rfl ?fd3 ?hl3 ?hb3 ?_; (case fd3 => exact unhide HDr _ (unhide HB5)); (case hl3 => simp only [List.length_append, unhide HTl, unhide HDl, List.length_singleton]; have := unhide HN; omega); (case hb3 => exact (unhide HB5).size); intro v6 w6 own6 b6; have HO6 := hide own6; have HB6 := hide ((unhide HB5).trans b6); clear own6 b6))
        all_goals
          go_wp2
          go_ret
          exact ⟨_, rfl, by rw [unhide HSet]; exact unhide HO6, unhide HB6⟩
    · obtain rfl : k = N := by omega
      have hlt1 : decide ((k : Int) < (k : Int)) = false := decide_eq_false (by omega)
      have hlt2 : decide (k < k) = false := decide_eq_false (by omega)
      have hat : atF fs fn = k := at_none (unhide HHas) (by have := unhide HN; omega) (unhide HNo) (fun x hx => by rw [List.getElem?_eq_none (by have := unhide HN; omega)] at hx; cases hx)
      have HSet := hide (unhide HSetG k hat)
      have HE : Hid (fs.drop k = []) := hide (List.drop_of_length_le (by have := unhide HN; omega))
      clear hat
      by_cases hck : k = c
      · subst hck
        cases a with
        | none =>
          obtain rfl : k = 0 := by
            by_cases hz : k = 0
            · exact hz
            · obtain ⟨_, _, e⟩ := (unhide HV).2 hz; cases e
          go_upto_region 7 with fail
          go_quiet (fail)
          go_upto_region 9 with fail
          have HBq := hide (unhide HBr0 nq)
          have HBoxq := hide (unhide HBoxr nq)
          have HVq := hide (unhide HVr nq)
          have HTl : Hid ((fs.take 0).length = 0) := hide (by simp <;> omega)
          have HDl : Hid ((fs.drop 0).length = 0) := hide (by rw [unhide HE]; rfl)
          obtain ⟨x0, x1, x2, x3, xf⟩ := (unhide HBoxq).cells
          simp only at x0 x1 x2 x3
          have HDr : Hid (∀ W, Below w.heap.size w W → FdN W none 0 (fs.drop 0)) := hide (fun W hW => by rw [unhide HE]; exact FdN.empty (fun h => absurd rfl h) (by omega))
          obtain ⟨W0, hW0⟩ : ∃ W0, W0 = wr.drewN nq := ⟨_, rfl⟩
          rw [← hW0] at HBq HBoxq HVq x0 x1 x2 x3 xf ⊢
          have hB0 : B < W0.heap.size := (unhide HBoxq).lt
          have hB1 : ¬ B = W0.heap.size := by omega
          clear hW0 HBr0 HBoxr HVr HWm z0 hlt1 hlt2
          go_region_law (first | (refine step_append_first rfl (.tmp 38) (.tmp 41) rfl w.heap.size _ rfl ?hgb ?own none 0 0 (fs.take 0) (unhide HTl).symm rfl ?fd ?hl ?hb ?_; (case hgb => have := (unhide HBq).size; omega); (case own => first | exact heap_alloc_new _ _ | exact push2_first _ _ _ | exact push2_last _ _ _ _ rfl); (case fd => exact ((unhide HVq).take 0 (by have := unhide HN; omega)).below (B := W0.heap.size) (by below_go (Below.refl _ _)) (Nat.le_refl _)); (case hl => rw [unhide HTl]; have := unhide HN; omega); (case hb => have := (unhide HBq).size; first | omega | (simp; omega)); intro v4 w4 own4 b4 fb4; have HO4 := hide own4; have HB4 : Hid (Below w.heap.size w w4) := hide (Below.trans (by have hsq := (unhide HBq).size; below_go (unhide HBq)) b4); have HF4 := hide fb4; (have y4 := (fb4 B ⟨fn, ft, fi, fss⟩ ((unhide HBoxq).below (B := W0.heap.size) (by below_go (Below.refl _ _)) (Nat.le_refl _))).cells); clear own4 b4 fb4; obtain ⟨y0, y1, y2, y3, y4⟩ := y4; simp only at y0 y1 y2 y3) | (refine step_append_flds rfl (.tmp 42) (.tmp 44) rfl w.heap.size _ (fs.take 0) rfl ?own2 _ 1 1 [⟨fn, ft, fi, fss⟩] rfl rfl ?fd2 ?hl2 ?hb2 ?_; (case own2 => first | exact unhide HO4 | exact (unhide HO4).below ((Below.refl _ _).alloc (Nat.le_refl _) _) (Nat.le_refl _)); (case fd2 => refine FBox.fdn ?_; first | exact FBox.new _ ⟨fn, ft, fi, fss⟩ | exact unhide HF4 _ ⟨fn, ft, fi, fss⟩ (push2_last _ _ _ _ rfl) | exact unhide HF4 _ ⟨fn, ft, fi, fss⟩ (push2_first _ _ _)); (case hl2 => rw [unhide HTl]; simp only [List.length_singleton]; have := unhide HN; omega); (case hb2 => first | exact (unhide HB4).size | (have := (unhide HB4).size; simp; omega)); intro v5 w5 own5 b5; have HO5 := hide own5; have HB5 : Hid (Below w.heap.size w w5) := hide (Below.trans (by first | exact unhide HB4 | exact (unhide HB4).alloc ((unhide HB4).size) _) b5); clear own5 b5) | (refine step_append_flds rfl (.tmp 45) (.tmp 48) rfl w.heap.size _ _ rfl (unhide HO5) none 0 0 (fs.drop 0) (unhide HDl).symm rfl ?fd3 ?hl3 ?hb3 ?_; (case fd3 => exact unhide HDr _ (unhide HB5)); (case hl3 => simp only [List.length_append, unhide HTl, unhide HDl, List.length_singleton]; have := unhide HN; omega); (case hb3 => exact (unhide HB5).size); intro v6 w6 own6 b6; have HO6 := hide own6; have HB6 := hide ((unhide HB5).trans b6); clear own6 b6))
          all_goals
            go_wp2
            go_ret
            exact ⟨_, rfl, by rw [unhide HSet]; exact unhide HO6, unhide HB6⟩
        | some x =>
          have HTl0 : Hid ((fs.take k).length = k) := hide (by have := unhide HN; simp; omega)
          have i1 : (0 : Int) ≤ (k : Int) := by omega
          go_upto_region 7 with fail
          go_quiet (fail)
          go_upto_region 9 with fail
          have HBq := hide (unhide HBr0 nq)
          have HBoxq := hide (unhide HBoxr nq)
          have HVq := hide (unhide HVr nq)
          have HTl : Hid ((fs.take k).length = k) := HTl0
          have HDl : Hid ((fs.drop k).length = 0) := hide (by rw [unhide HE]; rfl)
          obtain ⟨x0, x1, x2, x3, xf⟩ := (unhide HBoxq).cells
          simp only at x0 x1 x2 x3
          have HDr : Hid (∀ W, Below w.heap.size w W → FdN W (some x) 0 (fs.drop k)) := hide (fun W hW => by rw [unhide HE]; exact FdN.empty (fun h => absurd rfl h) (by omega))
          obtain ⟨W0, hW0⟩ : ∃ W0, W0 = wr.drewN nq := ⟨_, rfl⟩
          rw [← hW0] at HBq HBoxq HVq x0 x1 x2 x3 xf ⊢
          have hB0 : B < W0.heap.size := (unhide HBoxq).lt
          have hB1 : ¬ B = W0.heap.size := by omega
          clear hW0 HBr0 HBoxr HVr HWm z0 hlt1 hlt2
          go_region_law (first | (refine step_append_first rfl (.tmp 38) (.tmp 41) rfl w.heap.size _ rfl ?hgb ?own (some x) k k (fs.take k) (unhide HTl).symm rfl ?fd ?hl ?hb ?_; (case hgb => have := (unhide HBq).size; omega); (case own => first | exact heap_alloc_new _ _ | exact push2_first _ _ _ | exact push2_last _ _ _ _ rfl); (case fd => exact ((unhide HVq).take k (by have := unhide HN; omega)).below (B := W0.heap.size) (by below_go (Below.refl _ _)) (Nat.le_refl _)); (case hl => rw [unhide HTl]; have := unhide HN; omega); (case hb => have := (unhide HBq).size; first | omega | (simp; omega)); intro v4 w4 own4 b4 fb4; have HO4 := hide own4; have HB4 : Hid (Below w.heap.size w w4) := hide (Below.trans (by have hsq := (unhide HBq).size; below_go (unhide HBq)) b4); have HF4 := hide fb4; (have y4 := (fb4 B ⟨fn, ft, fi, fss⟩ ((unhide HBoxq).below (B := W0.heap.size) (by below_go (Below.refl _ _)) (Nat.le_refl _))).cells); clear own4 b4 fb4; obtain ⟨y0, y1, y2, y3, y4⟩ := y4; simp only at y0 y1 y2 y3) | (refine step_append_flds rfl (.tmp 42) (.tmp 44) rfl w.heap.size _ (fs.take k) rfl ?own2 _ 1 1 [⟨fn, ft, fi, fss⟩] rfl rfl ?fd2 ?hl2 ?hb2 ?_; (case own2 => first | exact unhide HO4 | exact (unhide HO4).below ((Below.refl _ _).alloc (Nat.le_refl _) _) (Nat.le_refl _)); (case fd2 => refine FBox.fdn ?_; first | exact FBox.new _ ⟨fn, ft, fi, fss⟩ | exact unhide HF4 _ ⟨fn, ft, fi, fss⟩ (push2_last _ _ _ _ rfl) | exact unhide HF4 _ ⟨fn, ft, fi, fss⟩ (push2_first _ _ _)); (case hl2 => rw [unhide HTl]; simp only [List.length_singleton]; have := unhide HN; omega); (case hb2 => first | exact (unhide HB4).size | (have := (unhide HB4).size; simp; omega)); intro v5 w5 own5 b5; have HO5 := hide own5; have HB5 : Hid (Below w.heap.size w w5) := hide (Below.trans (by first | exact unhide HB4 | exact (unhide HB4).alloc ((unhide HB4).size) _) b5); clear own5 b5) | (refine step_append_flds rfl (.tmp 45) (.tmp 48) rfl w.heap.size _ _ rfl (unhide HO5) (some x) 0 0 (fs.drop k) (unhide HDl).symm rfl ?fd3 ?hl3 ?hb3 ?_; (case fd3 => exact unhide HDr _ (unhide HB5)); (case hl3 => simp only [List.length_append, unhide HTl, unhide HDl, List.length_singleton]; have := unhide HN; omega); (case hb3 => exact (unhide HB5).size); intro v6 w6 own6 b6; have HO6 := hide own6; have HB6 := hide ((unhide HB5).trans b6); clear own6 b6))
          all_goals
            go_wp2
            go_ret
            exact ⟨_, rfl, by rw [unhide HSet]; exact unhide HO6, unhide HB6⟩
      · obtain ⟨b, off, rfl⟩ := (unhide HV).2 (by omega)
        have hck2 : ¬ c = k := fun e => hck e.symm
        have i1 : (0 : Int) ≤ (k : Int) := by omega
        have i2 : (k : Int) ≤ (c : Int) := by omega
        have HTl0 : Hid ((fs.take k).length = k) := hide (by have := unhide HN; simp; omega)
        go_upto_region 7 with fail
        go_quiet (fail)
        go_upto_region 9 with fail
        have HBq := hide (unhide HBr0 nq)
        have HBoxq := hide (unhide HBoxr nq)
        have HVq := hide (unhide HVr nq)
        have HTl : Hid ((fs.take k).length = k) := HTl0
        have HDl : Hid ((fs.drop k).length = 0) := hide (by rw [unhide HE]; rfl)
        obtain ⟨x0, x1, x2, x3, xf⟩ := (unhide HBoxq).cells
        simp only at x0 x1 x2 x3
        have HDr : Hid (∀ W, Below w.heap.size w W → FdN W (some ⟨b, off + k * 4, none⟩) (c - k) (fs.drop k)) := hide (fun W hW => by rw [unhide HE]; exact FdN.empty (fun _ => ⟨_, _, rfl⟩) (by omega))
        obtain ⟨W0, hW0⟩ : ∃ W0, W0 = wr.drewN nq := ⟨_, rfl⟩
        rw [← hW0] at HBq HBoxq HVq x0 x1 x2 x3 xf ⊢
        have hB0 : B < W0.heap.size := (unhide HBoxq).lt
        have hB1 : ¬ B = W0.heap.size := by omega
        clear hW0 HBr0 HBoxr HVr HWm z0 hlt1 hlt2
        go_region_law (first | (refine step_append_first rfl (.tmp 38) (.tmp 41) rfl w.heap.size _ rfl ?hgb ?own (some ⟨b, off, none⟩) k c (fs.take k) (unhide HTl).symm rfl ?fd ?hl ?hb ?_; (case hgb => have := (unhide HBq).size; omega); (case own => first | exact heap_alloc_new _ _ | exact push2_first _ _ _ | exact push2_last _ _ _ _ rfl); (case fd => exact ((unhide HVq).take k (by have := unhide HN; omega)).below (B := W0.heap.size) (by below_go (Below.refl _ _)) (Nat.le_refl _)); (case hl => rw [unhide HTl]; have := unhide HN; omega); (case hb => have := (unhide HBq).size; first | omega | (simp; omega)); intro v4 w4 own4 b4 fb4; have HO4 := hide own4; have HB4 : Hid (Below w.heap.size w w4) := hide (Below.trans (by have hsq := (unhide HBq).size; below_go (unhide HBq)) b4); have HF4 := hide fb4; (have y4 := (fb4 B ⟨fn, ft, fi, fss⟩ ((unhide HBoxq).below (B := W0.heap.size) (by below_go (Below.refl _ _)) (Nat.le_refl _))).cells); clear own4 b4 fb4; obtain ⟨y0, y1, y2, y3, y4⟩ := y4; simp only at y0 y1 y2 y3) | (refine step_append_flds rfl (.tmp 42) (.tmp 44) rfl w.heap.size _ (fs.take k) rfl ?own2 _ 1 1 [⟨fn, ft, fi, fss⟩] rfl rfl ?fd2 ?hl2 ?hb2 ?_; (case own2 => first | exact unhide HO4 | exact (unhide HO4).below ((Below.refl _ _).alloc (Nat.le_refl _) _) (Nat.le_refl _)); (case fd2 => refine FBox.fdn ?_; first | exact FBox.new _ ⟨fn, ft, fi, fss⟩ | exact unhide HF4 _ ⟨fn, ft, fi, fss⟩ (push2_last _ _ _ _ rfl) | exact unhide HF4 _ ⟨fn, ft, fi, fss⟩ (push2_first _ _ _)); (case hl2 => rw [unhide HTl]; simp only [List.length_singleton]; have := unhide HN; omega); (case hb2 => first | exact (unhide HB4).size | (have := (unhide HB4).size; simp; omega)); intro v5 w5 own5 b5; have HO5 := hide own5; have HB5 : Hid (Below w.heap.size w w5) := hide (Below.trans (by first | exact unhide HB4 | exact (unhide HB4).alloc ((unhide HB4).size) _) b5); clear own5 b5) | (refine step_append_flds rfl (.tmp 45) (.tmp 48) rfl w.heap.size _ _ rfl (unhide HO5) (some ⟨b, off + k * 4, none⟩) 0 (c - k) (fs.drop k) (unhide HDl).symm rfl ?fd3 ?hl3 ?hb3 ?_; (case fd3 => exact unhide HDr _ (unhide HB5)); (case hl3 => simp only [List.length_append, unhide HTl, unhide HDl, List.length_singleton]; have := unhide HN; omega); (case hb3 => exact (unhide HB5).size); intro v6 w6 own6 b6; have HO6 := hide own6; have HB6 := hide ((unhide HB5).trans b6); clear own6 b6))
        all_goals
          go_wp2
          go_ret
          exact ⟨_, rfl, by rw [unhide HSet]; exact unhide HO6, unhide HB6⟩
end Go.Proofs.YtkgepklmhdjjnaaGreatDoor

/-
  DERIVED. The document's Set.
-/
namespace Go.Proofs.YtkgepklmhdjjnaaGreatDoor
open Go.RowKit

theorem rSet_any (a : Option Addr) (c : Nat) (fs : List Fld) (f : Fld) (w : World) (hv : FdN w a c fs) (hlen : (fs.length + 1) * 48 ≤ 140737488355328) :
    Calls Tryz.prog 23 #[.slice a fs.length c, .agg (fv f)] w fun e w' => ∃ v, e = .returned v ∧ FOwn w' w.heap.size v (setF fs f) ∧ Below w.heap.size w w' := by
  cases hh : hasF fs f.name with
  | false => exact rSet_none a c fs f w hv hlen hh
  | true => exact rSet_has a c fs f w hv hlen hh
end Go.Proofs.YtkgepklmhdjjnaaGreatDoor
