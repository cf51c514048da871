/-
  DERIVED. The walk of closes.
-/
import Derived.Test.YtankbanonbmffabGreatDoorRqL
namespace Go.Proofs.YtankbanonbmffabGreatDoor
open Go.RowKit
set_option linter.unusedVariables false

def partC (x : List UInt8) : Bool := qSmall (qBare x) == qclose
def closeP (h : Hd) : Bool := h.1 == qconn && (qSplit 44 h.2).any partC
theorem qCloses_any (hs : List Hd) : qCloses hs = hs.any closeP := rfl
theorem any_take_false {α : Type} {l : List α} {k : Nat} {c : α} {p : α → Bool} (h : l[k]? = some c) (hp : p c = false) (ha : (l.take k).any p = false) : (l.take (k + 1)).any p = false := by
  rw [List.take_add_one, h]; simp [List.any_append, ha, hp]
theorem any_hit {α : Type} {l : List α} {k : Nat} {c : α} {p : α → Bool} (h : l[k]? = some c) (hp : p c = true) : l.any p = true := by
  rw [List.any_eq_true]; exact ⟨c, List.mem_of_getElem? h, hp⟩

set_option maxHeartbeats 8000000 in
set_option maxRecDepth 20000 in
theorem closes_any (ao : Option Addr) (cap : Nat) (hs : List Hd) (w : World) (h : HdL w (.slice ao hs.length cap) hs) (hsm : ∀ x ∈ hs, x.2.length ≤ 65536) (hlen : hs.length ≤ 4398046511104) :
    Calls Tryz.prog 27 #[.slice ao hs.length cap] w fun e w' => e = .returned (.bool (qCloses hs)) ∧ Below w.heap.size w w' := by
  obtain ⟨ao', cap', ee, g1, g2, g4⟩ := id h
  cases ee
  rw [qCloses_any]
  obtain ⟨N, hN⟩ : ∃ N, N = hs.length := ⟨_, rfl⟩
  have HN := hide hN
  have H4 := hide g4
  have HSM := hide hsm
  rw [← hN] at g1 hlen ⊢
  clear g4 hN h hsm
  go_enter Tryz.func27, Tryz.ntmps27
  go_wp2_with fail
  go_loopw [4, 6, 9, 20] (fun _ _ i _ wr => ∃ (k : Nat), k ≤ N ∧ i = .int .i64 k ∧ Hid ((hs.take k).any closeP = false) ∧ Hid (Below w.heap.size w wr)) (fun _ _ i _ _ => N - (intOf i).toNat)
  case atStart => exact ⟨0, by omega, rfl, hide (by simp), hide (Below.refl _ _)⟩
  case round =>
    obtain ⟨k, hk, rfl, HA, HB⟩ := hrel
    by_cases hlt : k < N
    · have hkl : k < hs.length := by have := unhide HN; omega
      obtain ⟨bk, off, rfl, hb, hc⟩ := unhide H4 (by omega)
      obtain ⟨c0, c1⟩ := hc k hkl
      obtain ⟨f, hf⟩ : ∃ f, f = hs[k] := ⟨_, rfl⟩
      rw [← hf] at c0 c1
      have hfk : hs[k]? = some f := by rw [hf]; exact List.getElem?_eq_getElem hkl
      have hfs := unhide HSM f (by rw [hf]; exact List.getElem_mem hkl)
      have HFK := hide hfk
      have d0 := ((unhide HB).cell (p := ⟨bk, off + k * 2, none⟩) hb).trans c0
      have d1 := ((unhide HB).cell (p := ⟨bk, off + k * 2 + 1, none⟩) hb).trans c1
      have hsz := (unhide HB).size
      have HBx := hide ((unhide HB).alloc hsz (.cells #[qv f.1, qv f.2] 40))
      have HSp := hide (fun W => qSplit_any f.2 44 W (by omega))
      have HPL : Hid (∀ x ∈ qSplit 44 f.2, x.length ≤ 65536) := hide (fun x hx => by have := qSplit_mem hx; omega)
      have HCP : Hid (closeP f = (f.1 == qconn && (qSplit 44 f.2).any partC)) := hide rfl
      obtain ⟨C, hC⟩ : ∃ C, closeP f = C := ⟨_, rfl⟩
      have HC := hide hC
      rw [hC] at HCP
      clear hf hc c0 c1 hfs hfk hC
      obtain ⟨fn, fs⟩ := f
      simp only at d0 d1 HBx HSp HPL HCP
      obtain ⟨X, hX⟩ : ∃ X, (fn == qconn) = X := ⟨_, rfl⟩
      have hX' : (fn == [99, 111, 110, 110, 101, 99, 116, 105, 111, 110]) = X := hX
      rw [hX] at HCP
      have hXn : (fn != [99, 111, 110, 110, 101, 99, 116, 105, 111, 110]) = !X := by rw [bne, hX']
      clear hX
      cases X with
      | false =>
        have HA1 := hide (any_take_false (unhide HFK) (by rw [unhide HC, unhide HCP]; rfl) (unhide HA))
        simp only [Bool.not_false] at hXn
        go_wp2_with fail
        go_roundw
        case rel => exact ⟨k + 1, by omega, by go_num, HA1, HBx⟩
        case measure => simp [intOf]; omega
      | true =>
        simp only [Bool.not_true] at hXn
        obtain ⟨ps, hps⟩ : ∃ ps, ps = qSplit 44 fs := ⟨_, rfl⟩
        rw [← hps] at HSp HPL HCP
        clear hps
        obtain ⟨M, hM⟩ : ∃ M, M = ps.length := ⟨_, rfl⟩
        have HM := hide hM
        clear hM
        go_wp2_with (go_at_call 12; refine (unhide HSp _).mono ?_; rintro e w2 ⟨⟨v2, rfl, l2⟩, b2⟩; have HB2 := hide ((unhide HBx).trans (b2.mono (unhide HBx).size)); have HL2 := hide l2; obtain ⟨b, cap2, rfl, s1, s2, s3, s4⟩ := l2; rw [← unhide HM]; clear b2 s1 s2 s3 s4)
        go_loopw [6, 20] (fun _ j wr2 => ∃ (m : Nat), m ≤ M ∧ j = .int .i64 m ∧ Hid ((ps.take m).any partC = false) ∧ Hid (Below w2.heap.size w2 wr2)) (fun _ j _ => M - (intOf j).toNat)
        case atStart => exact ⟨0, by omega, rfl, hide (by simp), hide (Below.refl _ _)⟩
        case round =>
          obtain ⟨m, hm, rfl, HA2, HB3⟩ := hrel
          have HB4 := hide ((unhide HB2).trans ((unhide HB3).mono (unhide HB2).size))
          by_cases hlm : m < M
          · have hml : m < ps.length := by have := unhide HM; omega
            obtain ⟨y, hy⟩ : ∃ y, ps[m]? = some y := ⟨_, List.getElem?_eq_getElem hml⟩
            have HY := hide hy
            obtain ⟨b', cap2', ee, s1, s2, s3, s4⟩ := (unhide HL2).below (unhide HB3) (Nat.le_refl _)
            cases ee
            have e0 := s4 m y hy
            have hyl := unhide HPL y (List.mem_of_getElem? hy)
            have HBa := hide (fun W => bare_any y W (by omega))
            have HSm := hide (fun W => small_any' (qBare y) W (by have := qBare_len y; omega))
            obtain ⟨Z, hZ⟩ : ∃ Z, partC y = Z := ⟨_, rfl⟩
            have HZ := hide hZ
            have hZ' : (qSmall (qBare y) == [99, 108, 111, 115, 101]) = Z := hZ
            obtain ⟨z, hz⟩ : ∃ z, z = qSmall (qBare y) := ⟨_, rfl⟩
            obtain ⟨yb, hyb⟩ : ∃ yb, yb = qBare y := ⟨_, rfl⟩
            rw [← hz] at hZ' HSm
            rw [← hyb] at HSm HBa
            have s1' : m < cap2 := by have := unhide HM; omega
            clear hZ hz hyb hy s3 s4 hyl
            cases Z with
            | true =>
              have HR : Hid (hs.any closeP = true) := hide (any_hit (unhide HFK) (by rw [unhide HC, unhide HCP, any_hit (unhide HY) (unhide HZ)]; rfl))
              go_wp2_with (first | (go_at_call 21; refine (unhide HBa _).mono ?_; rintro e w5 ⟨rfl, b5⟩; have HB5 := hide ((unhide HB4).trans (b5.mono (unhide HB4).size)); clear b5) | (go_at_call 20; refine (unhide HSm _).mono ?_; rintro e w6 ⟨rfl, b6⟩; have HB6 := hide ((unhide HB5).trans (b6.mono (unhide HB5).size)); clear b6))
              go_ret
              rw [unhide HR]
              exact ⟨rfl, unhide HB6⟩
            | false =>
              have HA3 := hide (any_take_false (unhide HY) (unhide HZ) (unhide HA2))
              go_wp2_with (first | (go_at_call 21; refine (unhide HBa _).mono ?_; rintro e w5 ⟨rfl, b5⟩; have HB5 := hide ((unhide HB3).trans (b5.mono (unhide HB3).size)); clear b5) | (go_at_call 20; refine (unhide HSm _).mono ?_; rintro e w6 ⟨rfl, b6⟩; have HB6 := hide ((unhide HB5).trans (b6.mono (unhide HB5).size)); clear b6))
              go_roundw
              case rel => exact ⟨m + 1, by omega, by go_num, HA3, HB6⟩
              case measure => simp [intOf]; omega
          · have HA1 := hide (any_take_false (unhide HFK) (p := closeP) (by
              have := unhide HA2
              rw [List.take_of_length_le (by have := unhide HM; omega)] at this
              rw [unhide HC, unhide HCP, this]; rfl) (unhide HA))
            go_wp2_with fail
            go_roundw
            case rel => exact ⟨k + 1, by omega, by go_num, HA1, HB4⟩
            case measure => simp [intOf]; omega
    · have HR : Hid (hs.any closeP = false) := hide (by have := unhide HA; rwa [List.take_of_length_le (by have := unhide HN; omega)] at this)
      go_wp2_with fail
      go_ret
      rw [unhide HR]
      exact ⟨rfl, unhide HB⟩
end Go.Proofs.YtankbanonbmffabGreatDoor
