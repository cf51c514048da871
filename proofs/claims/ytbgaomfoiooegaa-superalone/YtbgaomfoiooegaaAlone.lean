/-
  SuperAlone: for every int and every two slices of bytes it returns true, and its arguments read as before. Conditions: none.
-/
import Derived.Test.YtbgaomfoiooegaaSfuse
import Derived.Deep.AppendLies
import Derived.Deep.RegionLaw
import Derived.Deep.QuietTactic
import Derived.BigQuiet
namespace Go.Proofs.Ytbgaomfoiooegaa
open Go.ChangeShapes Go.WideShapes Go.ChangeAt Go.RowKit
set_option linter.unusedVariables false

/-- Bytes as a string. -/
def str (L : List UInt8) : ByteArray := ⟨L.toArray⟩

set_option maxRecDepth 20000 in
theorem Noughts_any (w : World) : Calls Try.prog 20 #[] w fun e w' => e = .returned (.string (str (List.replicate 512 0))) ∧ Below w.heap.size w w' := by
  have mk := run_make_512 w
  have hs := (Row.sl (w := w.alloc (.cells ((List.replicate 512 (0 : UInt8)).map bv).toArray 5)) (g := w.heap.size) (L := List.replicate 512 0) (heap_alloc_self _ _) List.length_replicate).str
  have hb : Below w.heap.size w (w.alloc (.cells ((List.replicate 512 (0 : UInt8)).map bv).toArray 5)) := (Below.refl _ _).alloc (Nat.le_refl _) _
  obtain ⟨s, hse⟩ : ∃ s, s = (⟨(List.replicate 512 (0 : UInt8)).toArray⟩ : ByteArray) := ⟨_, rfl⟩
  have HSE : Hid (str (List.replicate 512 0) = s) := hide (by rw [hse]; rfl)
  obtain ⟨w0, hw0⟩ : ∃ w0, w0 = w.alloc (.cells ((List.replicate 512 (0 : UInt8)).map bv).toArray 5) := ⟨_, rfl⟩
  rw [← hw0] at mk hs hb
  rw [← hse] at hs
  rw [unhide HSE]
  have HB := hide hb
  clear hw0 hse hb HSE
  go_enter Try.func20, Try.ntmps20
  go_wp2
  go_ret
  exact ⟨rfl, unhide HB⟩

/-- What is written to each block at first. -/
def aloB (x : UInt8) (n : Nat) : List UInt8 := if n < 10 ∨ 11 < n then x :: List.replicate 511 0 else List.replicate 512 0
theorem aloB_len (x : UInt8) (n : Nat) : (aloB x n).length = 512 := by
  unfold aloB
  split
  · rw [List.length_cons, List.length_replicate]
  · rw [List.length_replicate]
def aloS (x : UInt8) : Nat → St
  | 0 => St.new 64
  | j + 1 => (aloS x j).burn.wrote j (aloB x j)
theorem aloS_up (x : UInt8) : ∀ j, Up (aloS x j)
  | 0 => Up.new
  | j + 1 => ⟨(aloS_up x j).burn.fused, (aloS_up x j).burn.up, (aloS_up x j).burn.len⟩
theorem aloS_new (x : UInt8) (n : Nat) : ∀ j, n < j → (aloS x j).newest n = aloB x n
  | 0, h => by omega
  | j + 1, h => by
    show ((aloS x j).burn.wrote j (aloB x j)).newest n = _
    rw [St.newest_wrote']
    by_cases e : n = j
    · rw [if_pos e, e]
    · rw [if_neg e]
      exact aloS_new x n j (by omega)

theorem conv_bytes (w : World) (L : List UInt8) (hl : L.length ≤ 4096) : ∃ cap w', (convert 9 22 (.string (str L))).run Try.prog w = .ok (.slice (some ⟨w.heap.size, 0, none⟩) L.length cap) w' ∧ Sl w' (.slice (some ⟨w.heap.size, 0, none⟩) L.length cap) L ∧ Below w.heap.size w w' := by
  have hsz : (str L).size = L.length := by simp [str, ByteArray.size]
  refine ⟨_, _, by rw [run_bytes_of_string w 9 22 5 (str L) Try.underlying9 Try.underlying22 Try.underlying5, hsz], ?_, ?_⟩
  · refine ⟨_, _, rfl, grownCap_ge _ _ _ _, grownCap_le_maxLen _ _ _ _ (by unfold maxLen; omega), fun _ => ⟨w.heap.size, 0, rfl, by simp, fun i hi => ?_⟩⟩
    have hg : (w.drew.alloc (.cells (bytesRow (str L) (grownCap w L.length 0 5)) 5 ((bytesRow (str L) (grownCap w L.length 0 5)).size, (bytesRow (str L) (grownCap w L.length 0 5)).size + 1))).heap[w.heap.size]? = some (.cells (bytesRow (str L) (grownCap w L.length 0 5)) 5 ((bytesRow (str L) (grownCap w L.length 0 5)).size, (bytesRow (str L) (grownCap w L.length 0 5)).size + 1)) := by
      show (w.heap.push _)[w.heap.size]? = _
      simp
    rw [cell_of_row _ _ _ _ _ _ hg, Nat.zero_add, bytesRow_at (str L) _ i (by simpa [str] using hi)]
    simp [str, bv]
  · exact ((Below.refl _ _).drew).alloc (by simp) _

theorem infoStr : (Try.prog.info? 9).map (fun i => (i.zero, i.size, i.bytes)) = some (some (.string ByteArray.empty), 1, 16) := by kernel_rfl
theorem row_kept {w w' : World} {F : Nat → Prop} {base : Nat} {e : TypeId} {v : Value} {n : Nat} {xs : List Value} (h : w.ownsRow base e 1 v n xs) (hk : Kept F w w') (hF : ∀ q, v.ownBlock = some q → ¬ F q) : w'.ownsRow base e 1 v n xs := by
  obtain ⟨h1, h2⟩ := h
  refine ⟨h1, ?_⟩
  rcases h2 with h2 | ⟨q, cap, cur, rfl, hb, hg, r⟩
  · exact .inl h2
  · exact .inr ⟨q, cap, cur, rfl, hb, (hk.block q (lt_of_block hg) (hF q rfl)).trans hg, r⟩
theorem row_ltA {w : World} {base : Nat} {e : TypeId} {v : Value} {n : Nat} {xs : List Value} (h : w.ownsRow base e 1 v n xs) {q : Nat} (hq : v.ownBlock = some q) : base ≤ q ∧ q < w.heap.size := by
  rcases h.2 with ⟨rfl, _⟩ | ⟨g, cap, cur, rfl, hb, hg, r⟩
  · cases hq
  · cases hq; exact ⟨hb, lt_of_block hg⟩
theorem Write_run {w0 w : World} {b N : Nat} {F : Nat → Prop} {S : St} (h : Run w0 w b N F S) (hU : Up S) (k : Nat) (hk : k < 64) (hN : N < 800000) (v : Value) (L : List UInt8) (hv : Sl w v L) (hL : L.length = 512) :
    Calls Try.prog 21 #[.pointer (some ⟨b, 0, none⟩), .int .i64 k, v] w fun e w' => e = .returned (.int .i64 0) ∧ ∃ F', Run w0 w' b (N + 2) F' (S.burn.wrote k L) ∧ (∀ j, F' j → F j ∨ w.heap.size ≤ j) ∧ Kept F w w' := by
  refine (Write_own h.dev h.foot h.bel.size k L v (by rw [hU.len]; exact hk) hU.up (St.well_free hU.fused) hv hL (by omega)).mono ?_
  rintro e w' ⟨rfl, ⟨F', f1, f2, f3⟩, k1⟩
  exact ⟨rfl, F', h.of f3 f1 k1, f2, k1⟩
theorem str_cut (x y : UInt8) (L : List UInt8) : (⟨#[x]⟩ : ByteArray) ++ (str (y :: L)).extract 1 (L.length + 1) = str (x :: L) := by
  apply ByteArray.ext
  apply Array.ext'
  simp [str]
theorem alo_str (x : UInt8) (n : Nat) (h : n < 10 ∨ 11 < n) : (⟨#[x]⟩ : ByteArray) ++ (str (List.replicate 512 0)).extract 1 512 = str (aloB x n) := by
  unfold aloB
  rw [if_pos h]
  have := str_cut x 0 (List.replicate 511 0)
  rw [List.length_replicate] at this
  exact this
theorem Read_run {w0 w : World} {b N : Nat} {F : Nat → Prop} {S : St} (h : Run w0 w b N F S) (hU : Up S) (k : Nat) (hk : k < 64) (hN : N < 800000) :
    Calls Try.prog 22 #[.pointer (some ⟨b, 0, none⟩), .int .i64 k] w fun e w' => ∃ q, e = .returned (.tuple #[.slice (some ⟨q, 0, none⟩) 512 512, .int .i64 0]) ∧ Sl w' (.slice (some ⟨q, 0, none⟩) 512 512) (S.newest k) ∧ Run w0 w' b (N + 1) F S.burn ∧ Kept F w w' := by
  have hl : (S.newest k).length = 512 := by obtain ⟨g, c, m, vf, D, h0⟩ := h.dev; exact St.newest_len h0 k (by rw [hU.len]; exact hk)
  refine (Read_dev h.dev k (by rw [hU.len]; exact hk) hU.up (St.well_free hU.fused) (by omega)).mono ?_
  rintro e w' ⟨q, rfl, h1, h2, h3, h4⟩
  exact ⟨q, rfl, Sl.ofRow hl h2, h.of h3 (fun j hj => by have := h.foot j hj; have := h4.size; omega) h4, h4⟩
theorem idx_strs (n cap g j : Nat) (hj : j < n) (W : World) : (Instr.indexAt 45 (.slice (some ⟨g, 0, none⟩) n cap) (.int .i64 (j : Nat))).run Try.prog W = .ok (.pointer (some ⟨g, j, none⟩)) W := by
  have hu : Try.prog.underlying 45 = some (.slice (Try.prog.elem 45)) := by kernel_rfl
  rw [run_indexAt_slice (h := hu), if_pos (by omega)]
  have e : Try.prog.elem 45 = 9 := by kernel_rfl
  have e2 : (sizeOf 9).run Try.prog W = .ok 1 W := by kernel_rfl
  rw [e, e2, Result.andThen_ok, Nat.mul_one, Int.toNat_natCast, addr_add, Nat.zero_add]

set_option maxRecDepth 100000 in
set_option maxHeartbeats 3200000 in
theorem Alone.walk (k : Int) (a : Option Addr) (c : Nat) (d : List UInt8) (x : Option Addr) (y : Nat) (f : List UInt8) (w : World) (k1 : -9223372036854775808 ≤ k) (k2 : k < 9223372036854775808) (hv : Sl w (.slice a d.length c) d) (hu : Sl w (.slice x f.length y) f) :
    Calls Try.prog 5 #[.int .i64 k, .slice a d.length c, .slice x f.length y] w fun e w' => e = .returned (.bool true) ∧ Below w.heap.size w w' := by
  have HV := hide hv
  have HU := hide hu
  clear hv hu
  by_cases hd : 400 < d.length ∨ 400 < f.length
  · by_cases hd1 : 400 < d.length
    · clear hd
      go_enter Try.func5, Try.ntmps5
      go_wp2_with fail
      refine (awake_any _).mono ?_
      rintro e w1 ⟨rfl, b1⟩
      have HB1 := hide b1
      clear b1
      go_wp2_with fail
      refine (New_run w w1 (unhide HB1)).mono ?_
      rintro e w2 ⟨rfl, r2, _⟩
      have R2 := hide r2
      clear r2
      go_wp2
      go_ret
      exact ⟨rfl, (unhide R2).bel⟩
    · have hd2 : 400 < f.length := by omega
      clear hd
      go_enter Try.func5, Try.ntmps5
      go_wp2_with fail
      refine (awake_any _).mono ?_
      rintro e w1 ⟨rfl, b1⟩
      have HB1 := hide b1
      clear b1
      go_wp2_with fail
      refine (New_run w w1 (unhide HB1)).mono ?_
      rintro e w2 ⟨rfl, r2, _⟩
      have R2 := hide r2
      clear r2
      go_wp2
      go_ret
      exact ⟨rfl, (unhide R2).bel⟩
  have hd1 : d.length ≤ 400 := by omega
  have hd2 : f.length ≤ 400 := by omega
  clear hd
  obtain ⟨X, hX⟩ : ∃ X : UInt8, X = UInt8.ofNat (pickR k 255) := ⟨_, rfl⟩
  go_enter Try.func5, Try.ntmps5
  go_wp2_with fail
  refine (awake_any _).mono ?_
  rintro e w1 ⟨rfl, b1⟩
  have HB1 := hide b1
  clear b1
  go_wp2_with fail
  refine (New_run w w1 (unhide HB1)).mono ?_
  rintro e w2 ⟨rfl, r2, _⟩
  obtain ⟨b, hb⟩ : ∃ b, b = w1.heap.size + 2 := ⟨_, rfl⟩
  obtain ⟨F2, hF2⟩ : ∃ F2, F2 = (fun k => w1.heap.size ≤ k ∧ k < w2.heap.size) := ⟨_, rfl⟩
  rw [← hb, ← hF2] at r2
  rw [← hb]
  have R2 := hide r2
  clear r2 hb hF2 HB1
  go_wp2_with fail
  have hXw : ((pickR k 255 : Nat) : Int) % 256 = (X.toNat : Int) := by
    have := pickR_lt k 255
    rw [hX, UInt8.toNat_ofNat']
    omega
  have kc2 : ∀ W : World, (convert 22 9 (.slice (some ⟨W.heap.size, 0, none⟩) 1 1)).run Try.prog (W.alloc (.cells #[.int .u8 (((pickR k 255 : Nat) : Int) % 256)] 5)).drew = .ok (.string ⟨#[X]⟩) (W.alloc (.cells #[.int .u8 (((pickR k 255 : Nat) : Int) % 256)] 5)).drew := fun W => by
    rw [hXw]
    exact ((Sl.new W [X] (by unfold maxLen; simp) (0, 0)).drew).str
  have kc3 : ∀ W : World, (convert 22 9 (.slice (some ⟨W.heap.size, 0, none⟩) 1 1)).run Try.prog (W.alloc (.cells #[.int .u8 (IntKind.u8.wrap ((pickR k 255 : Nat) : Int))] 5)).drew = .ok (.string ⟨#[X]⟩) (W.alloc (.cells #[.int .u8 (IntKind.u8.wrap ((pickR k 255 : Nat) : Int))] 5)).drew := fun W => kc2 W
  clear hXw hX kc2
  go_loopw [10, 11] (fun v i wr => ∃ (j : Nat) (F : Nat → Prop), i = .int .i64 j ∧ j ≤ 64 ∧ wr.ownsRow w.heap.size 9 1 v j ((List.range j).map fun n => Value.string (str (aloB X n))) ∧ (∀ q, v.ownBlock = some q → ¬ F q) ∧ Run w wr b (2 * j) F (aloS X j)) (fun _ i _ => 64 - (intOf i).toNat)
  case atStart => exact ⟨0, F2, rfl, Nat.zero_le _, World.ownsRow_nil _ _ _ _, (fun q h => by cases h), unhide R2⟩
  case round =>
    obtain ⟨j, F, rfl, hj, hrow, hnF, hR⟩ := hrel
    have R0 := hide hR
    have HRow := hide hrow
    have HNF := hide hnF
    clear hR hrow hnF
    have hj0 : (0 : Int) ≤ (j : Int) := Int.natCast_nonneg _
    by_cases hlt : j < 64
    · have hlt' : (j : Int) < 64 := by omega
      go_wp2_with fail
      refine (Noughts_any _).mono ?_
      rintro e w4 ⟨rfl, b4⟩
      obtain ⟨s0, hs0⟩ : ∃ s0, s0 = str (List.replicate 512 0) := ⟨_, rfl⟩
      have hz0 : s0.size = 512 := by rw [hs0]; simp [str, ByteArray.size]
      rw [← hs0]
      have HS0 := hide hs0
      clear hs0
      have R4 := hide ((unhide R0).grown b4)
      obtain ⟨sv, hsv⟩ : ∃ sv, sv = str (aloB X j) := ⟨_, rfl⟩
      have HSV := hide hsv
      have HRow4 : Hid (w4.ownsRow w.heap.size 9 1 u10 j ((List.range j).map fun n => Value.string (str (aloB X n)))) := hide (row_kept (F := F) (unhide HRow) (Kept.of_below b4) (unhide HNF))
      clear b4
      by_cases hm : j < 10 ∨ 11 < j
      · have hSX : ({ data := #[X] } : ByteArray) ++ s0.extract 1 512 = sv := by rw [unhide HS0, hsv]; exact alo_str X j hm
        clear hsv
        by_cases hm1 : j < 10
        · have hm' : (j : Int) < 10 := by omega
          go_wp2_with fail
          go_region_law (first | (go_simp; go_wp2_with (first | (go_at_call 18; refine (Pick_byte k _ k1 k2).mono ?_; rintro e w' ⟨rfl, rfl⟩) | fail)))
          all_goals
            obtain ⟨W5, hW5⟩ : ∃ W5, W5 = (w4.alloc (.cells #[.int .u8 (IntKind.u8.wrap ((pickR k 255 : Nat) : Int))] 5)).drew := ⟨_, rfl⟩
            have b5 : Below w4.heap.size w4 W5 := by rw [hW5]; exact ((Below.refl _ _).alloc (Nat.le_refl _) _).drew
            rw [← hW5]
            clear hW5
            have R5 := hide ((unhide R4).grown b5)
            have HRow5 : Hid (W5.ownsRow w.heap.size 9 1 u10 j ((List.range j).map fun n => Value.string (str (aloB X n)))) := hide (row_kept (F := F) (unhide HRow4) (Kept.of_below b5) (unhide HNF))
            clear b5 R4 HRow4
            obtain ⟨cap6, w6, hc6, l6, b6⟩ := conv_bytes W5 (aloB X j) (by rw [aloB_len]; decide)
            rw [aloB_len, ← unhide HSV] at hc6
            rw [aloB_len] at l6
            have L6 := hide l6
            have R6 := hide ((unhide R5).grown b6)
            have z6 := b6.size
            have HRow6 : Hid (w6.ownsRow w.heap.size 9 1 u10 j ((List.range j).map fun n => Value.string (str (aloB X n)))) := hide (row_kept (F := F) (unhide HRow5) (Kept.of_below b6) (unhide HNF))
            clear l6 b6 HRow5 R5
            go_wp2_with fail
            refine (Write_run (unhide R6) (aloS_up X j) j hlt (by omega) _ (aloB X j) (unhide L6) (aloB_len X j)).mono ?_
            rintro e w7 ⟨rfl, F7, r7, f7, k7⟩
            have R7 := hide (r7.grown ((Below.refl _ _).alloc (Nat.le_refl _) (.cells #[.string sv] 9)))
            have z7 := k7.size
            have HRow7 : Hid ((w7.alloc (.cells #[.string sv] 9)).ownsRow w.heap.size 9 1 u10 j ((List.range j).map fun n => Value.string (str (aloB X n)))) := hide (World.ownsRow.alloc (row_kept (unhide HRow6) k7 (unhide HNF)) _)
            have HN7 : Hid (∀ q, u10.ownBlock = some q → ¬ F7 q) := hide (fun q hq hf => by
              rcases f7 q hf with h | h
              · exact unhide HNF q hq h
              · have := (row_ltA (unhide HRow6) hq).2; omega)
            have hbw : w.heap.size ≤ w7.heap.size + 1 := by have := r7.bel.size; omega
            have hsz7 : (w7.alloc (.cells #[.string sv] 9)).heap.size = w7.heap.size + 1 := by simp
            clear r7 f7 k7 hc6
            obtain ⟨i0, hi0, hz0', hz1, hz2⟩ := info_parts infoStr
            have HI := hide (And.intro hi0 (And.intro hz0' (And.intro hz1 hz2)))
            clear hi0 hz0' hz1 hz2
            go_wp2_with (first | (at_builtin; refine wpList_append_lies _ rfl (.tmp 70) (.tmp 72) 45 rfl w.heap.size 9 i0 _ 1 16 Try.underlying45 (unhide HI).1 (unhide HI).2.1 (unhide HI).2.2.1 (unhide HI).2.2.2 rfl (by decide) u10 j ((List.range j).map fun n => Value.string (str (aloB X n))) rfl (unhide HRow7) ⟨w7.heap.size, 0, none⟩ 1 1 [.string sv] rfl rfl (World.news_of_block (cs := #[.string sv]) (t := 9) (fr := (0, 0)) (heap_alloc_new w7 _)) (by simp [Value.oneCell']) (by omega) (by unfold maxLen; omega) (by omega) (by rw [hsz7]; exact hbw) (w7.heap.size + 1) hsz7 ?_; intro gg cap2 W8 hown8 hgrow hat hlt8) | fail)
            have HX : Hid (W8.ownsRow w.heap.size 9 1 (.slice (some ⟨gg, 0, none⟩) (j + 1) cap2) (j + 1) ((List.range (j + 1)).map fun n => Value.string (str (aloB X n))) ∧ (∀ q, (Value.slice (some ⟨gg, 0, none⟩) (j + 1) cap2).ownBlock = some q → ¬ F7 q) ∧ Run w W8 b (2 * (j + 1)) F7 (aloS X (j + 1))) := hide (by
              refine ⟨?_, fun q hq hf => ?_, ?_⟩
              · have e : (List.range (j + 1)).map (fun n => Value.string (str (aloB X n))) = (List.range j).map (fun n => Value.string (str (aloB X n))) ++ [.string sv] := by
                  rw [List.range_succ, List.map_append, unhide HSV]; rfl
                rw [e]; exact hown8
              · cases hq
                rcases hat with h | h
                · exact unhide HN7 _ h hf
                · have h9 := ((unhide R7).foot gg hf).2
                  rw [hsz7] at h9
                  omega
              · have hR := unhide R7
                refine ⟨hR.dev.frame (fun q hq hl => hgrow.block q hl (fun e => unhide HN7 q e.symm hq)), fun q hq => ?_, hR.bel.trans ?_⟩
                · have := hR.foot q hq; have := hgrow.size; omega
                · exact ⟨hgrow.os, hgrow.tape, hgrow.output, hgrow.size, fun q hq => hgrow.block q (by rw [hsz7]; omega) (fun e => by have := (row_ltA (unhide HRow7) e.symm).1; omega)⟩)
            clear hown8 hgrow hat hlt8
            go_wp2
            refine ⟨⟨j + 1, F7, rfl, by omega, (unhide HX).1, (unhide HX).2.1, (unhide HX).2.2⟩, ?_⟩
            simp [intOf]
            omega
        · have hm' : ¬ (j : Int) < 10 := by omega
          have hm2 : (11 : Int) < (j : Int) := by omega
          go_wp2_with fail
          go_region_law (first | (go_simp; go_wp2_with (first | (go_at_call 18; refine (Pick_byte k _ k1 k2).mono ?_; rintro e w' ⟨rfl, rfl⟩) | fail)))
          all_goals
            obtain ⟨W5, hW5⟩ : ∃ W5, W5 = (w4.alloc (.cells #[.int .u8 (IntKind.u8.wrap ((pickR k 255 : Nat) : Int))] 5)).drew := ⟨_, rfl⟩
            have b5 : Below w4.heap.size w4 W5 := by rw [hW5]; exact ((Below.refl _ _).alloc (Nat.le_refl _) _).drew
            rw [← hW5]
            clear hW5
            have R5 := hide ((unhide R4).grown b5)
            have HRow5 : Hid (W5.ownsRow w.heap.size 9 1 u10 j ((List.range j).map fun n => Value.string (str (aloB X n)))) := hide (row_kept (F := F) (unhide HRow4) (Kept.of_below b5) (unhide HNF))
            clear b5 R4 HRow4
            obtain ⟨cap6, w6, hc6, l6, b6⟩ := conv_bytes W5 (aloB X j) (by rw [aloB_len]; decide)
            rw [aloB_len, ← unhide HSV] at hc6
            rw [aloB_len] at l6
            have L6 := hide l6
            have R6 := hide ((unhide R5).grown b6)
            have z6 := b6.size
            have HRow6 : Hid (w6.ownsRow w.heap.size 9 1 u10 j ((List.range j).map fun n => Value.string (str (aloB X n)))) := hide (row_kept (F := F) (unhide HRow5) (Kept.of_below b6) (unhide HNF))
            clear l6 b6 HRow5 R5
            go_wp2_with fail
            refine (Write_run (unhide R6) (aloS_up X j) j hlt (by omega) _ (aloB X j) (unhide L6) (aloB_len X j)).mono ?_
            rintro e w7 ⟨rfl, F7, r7, f7, k7⟩
            have R7 := hide (r7.grown ((Below.refl _ _).alloc (Nat.le_refl _) (.cells #[.string sv] 9)))
            have z7 := k7.size
            have HRow7 : Hid ((w7.alloc (.cells #[.string sv] 9)).ownsRow w.heap.size 9 1 u10 j ((List.range j).map fun n => Value.string (str (aloB X n)))) := hide (World.ownsRow.alloc (row_kept (unhide HRow6) k7 (unhide HNF)) _)
            have HN7 : Hid (∀ q, u10.ownBlock = some q → ¬ F7 q) := hide (fun q hq hf => by
              rcases f7 q hf with h | h
              · exact unhide HNF q hq h
              · have := (row_ltA (unhide HRow6) hq).2; omega)
            have hbw : w.heap.size ≤ w7.heap.size + 1 := by have := r7.bel.size; omega
            have hsz7 : (w7.alloc (.cells #[.string sv] 9)).heap.size = w7.heap.size + 1 := by simp
            clear r7 f7 k7 hc6
            obtain ⟨i0, hi0, hz0', hz1, hz2⟩ := info_parts infoStr
            have HI := hide (And.intro hi0 (And.intro hz0' (And.intro hz1 hz2)))
            clear hi0 hz0' hz1 hz2
            go_wp2_with (first | (at_builtin; refine wpList_append_lies _ rfl (.tmp 70) (.tmp 72) 45 rfl w.heap.size 9 i0 _ 1 16 Try.underlying45 (unhide HI).1 (unhide HI).2.1 (unhide HI).2.2.1 (unhide HI).2.2.2 rfl (by decide) u10 j ((List.range j).map fun n => Value.string (str (aloB X n))) rfl (unhide HRow7) ⟨w7.heap.size, 0, none⟩ 1 1 [.string sv] rfl rfl (World.news_of_block (cs := #[.string sv]) (t := 9) (fr := (0, 0)) (heap_alloc_new w7 _)) (by simp [Value.oneCell']) (by omega) (by unfold maxLen; omega) (by omega) (by rw [hsz7]; exact hbw) (w7.heap.size + 1) hsz7 ?_; intro gg cap2 W8 hown8 hgrow hat hlt8) | fail)
            have HX : Hid (W8.ownsRow w.heap.size 9 1 (.slice (some ⟨gg, 0, none⟩) (j + 1) cap2) (j + 1) ((List.range (j + 1)).map fun n => Value.string (str (aloB X n))) ∧ (∀ q, (Value.slice (some ⟨gg, 0, none⟩) (j + 1) cap2).ownBlock = some q → ¬ F7 q) ∧ Run w W8 b (2 * (j + 1)) F7 (aloS X (j + 1))) := hide (by
              refine ⟨?_, fun q hq hf => ?_, ?_⟩
              · have e : (List.range (j + 1)).map (fun n => Value.string (str (aloB X n))) = (List.range j).map (fun n => Value.string (str (aloB X n))) ++ [.string sv] := by
                  rw [List.range_succ, List.map_append, unhide HSV]; rfl
                rw [e]; exact hown8
              · cases hq
                rcases hat with h | h
                · exact unhide HN7 _ h hf
                · have h9 := ((unhide R7).foot gg hf).2
                  rw [hsz7] at h9
                  omega
              · have hR := unhide R7
                refine ⟨hR.dev.frame (fun q hq hl => hgrow.block q hl (fun e => unhide HN7 q e.symm hq)), fun q hq => ?_, hR.bel.trans ?_⟩
                · have := hR.foot q hq; have := hgrow.size; omega
                · exact ⟨hgrow.os, hgrow.tape, hgrow.output, hgrow.size, fun q hq => hgrow.block q (by rw [hsz7]; omega) (fun e => by have := (row_ltA (unhide HRow7) e.symm).1; omega)⟩)
            clear hown8 hgrow hat hlt8
            go_wp2
            refine ⟨⟨j + 1, F7, rfl, by omega, (unhide HX).1, (unhide HX).2.1, (unhide HX).2.2⟩, ?_⟩
            simp [intOf]
            omega
      · have hSX : s0 = sv := by rw [unhide HS0, hsv]; unfold aloB; rw [if_neg hm]
        clear hsv
        subst hSX
        have hm' : ¬ (j : Int) < 10 := by omega
        have hm2 : ¬ (11 : Int) < (j : Int) := by omega
        obtain ⟨W5, hW5⟩ : ∃ W5, W5 = w4 := ⟨_, rfl⟩
        have R5 : Hid (Run w W5 b (2 * j) F (aloS X j)) := hide (by rw [hW5]; exact unhide R4)
        have HRow5 : Hid (W5.ownsRow w.heap.size 9 1 u10 j ((List.range j).map fun n => Value.string (str (aloB X n)))) := hide (by rw [hW5]; exact unhide HRow4)
        obtain ⟨sv, hsv2⟩ : ∃ sv, sv = s0 := ⟨_, rfl⟩
        subst hW5
        subst hsv2
        obtain ⟨cap6, w6, hc6, l6, b6⟩ := conv_bytes W5 (aloB X j) (by rw [aloB_len]; decide)
        rw [aloB_len, ← unhide HSV] at hc6
        rw [aloB_len] at l6
        have L6 := hide l6
        have R6 := hide ((unhide R5).grown b6)
        have z6 := b6.size
        have HRow6 : Hid (w6.ownsRow w.heap.size 9 1 u10 j ((List.range j).map fun n => Value.string (str (aloB X n)))) := hide (row_kept (F := F) (unhide HRow5) (Kept.of_below b6) (unhide HNF))
        clear l6 b6 HRow5 R5
        go_wp2_with fail
        refine (Write_run (unhide R6) (aloS_up X j) j hlt (by omega) _ (aloB X j) (unhide L6) (aloB_len X j)).mono ?_
        rintro e w7 ⟨rfl, F7, r7, f7, k7⟩
        have R7 := hide (r7.grown ((Below.refl _ _).alloc (Nat.le_refl _) (.cells #[.string sv] 9)))
        have z7 := k7.size
        have HRow7 : Hid ((w7.alloc (.cells #[.string sv] 9)).ownsRow w.heap.size 9 1 u10 j ((List.range j).map fun n => Value.string (str (aloB X n)))) := hide (World.ownsRow.alloc (row_kept (unhide HRow6) k7 (unhide HNF)) _)
        have HN7 : Hid (∀ q, u10.ownBlock = some q → ¬ F7 q) := hide (fun q hq hf => by
          rcases f7 q hf with h | h
          · exact unhide HNF q hq h
          · have := (row_ltA (unhide HRow6) hq).2; omega)
        have hbw : w.heap.size ≤ w7.heap.size + 1 := by have := r7.bel.size; omega
        have hsz7 : (w7.alloc (.cells #[.string sv] 9)).heap.size = w7.heap.size + 1 := by simp
        clear r7 f7 k7 hc6
        obtain ⟨i0, hi0, hz0', hz1, hz2⟩ := info_parts infoStr
        have HI := hide (And.intro hi0 (And.intro hz0' (And.intro hz1 hz2)))
        clear hi0 hz0' hz1 hz2
        go_wp2_with (first | (at_builtin; refine wpList_append_lies _ rfl (.tmp 70) (.tmp 72) 45 rfl w.heap.size 9 i0 _ 1 16 Try.underlying45 (unhide HI).1 (unhide HI).2.1 (unhide HI).2.2.1 (unhide HI).2.2.2 rfl (by decide) u10 j ((List.range j).map fun n => Value.string (str (aloB X n))) rfl (unhide HRow7) ⟨w7.heap.size, 0, none⟩ 1 1 [.string sv] rfl rfl (World.news_of_block (cs := #[.string sv]) (t := 9) (fr := (0, 0)) (heap_alloc_new w7 _)) (by simp [Value.oneCell']) (by omega) (by unfold maxLen; omega) (by omega) (by rw [hsz7]; exact hbw) (w7.heap.size + 1) hsz7 ?_; intro gg cap2 W8 hown8 hgrow hat hlt8) | fail)
        have HX : Hid (W8.ownsRow w.heap.size 9 1 (.slice (some ⟨gg, 0, none⟩) (j + 1) cap2) (j + 1) ((List.range (j + 1)).map fun n => Value.string (str (aloB X n))) ∧ (∀ q, (Value.slice (some ⟨gg, 0, none⟩) (j + 1) cap2).ownBlock = some q → ¬ F7 q) ∧ Run w W8 b (2 * (j + 1)) F7 (aloS X (j + 1))) := hide (by
          refine ⟨?_, fun q hq hf => ?_, ?_⟩
          · have e : (List.range (j + 1)).map (fun n => Value.string (str (aloB X n))) = (List.range j).map (fun n => Value.string (str (aloB X n))) ++ [.string sv] := by
              rw [List.range_succ, List.map_append, unhide HSV]; rfl
            rw [e]; exact hown8
          · cases hq
            rcases hat with h | h
            · exact unhide HN7 _ h hf
            · have h9 := ((unhide R7).foot gg hf).2
              rw [hsz7] at h9
              omega
          · have hR := unhide R7
            refine ⟨hR.dev.frame (fun q hq hl => hgrow.block q hl (fun e => unhide HN7 q e.symm hq)), fun q hq => ?_, hR.bel.trans ?_⟩
            · have := hR.foot q hq; have := hgrow.size; omega
            · exact ⟨hgrow.os, hgrow.tape, hgrow.output, hgrow.size, fun q hq => hgrow.block q (by rw [hsz7]; omega) (fun e => by have := (row_ltA (unhide HRow7) e.symm).1; omega)⟩)
        clear hown8 hgrow hat hlt8
        go_wp2
        refine ⟨⟨j + 1, F7, rfl, by omega, (unhide HX).1, (unhide HX).2.1, (unhide HX).2.2⟩, ?_⟩
        simp [intOf]
        omega
    · obtain rfl : j = 64 := by omega
      have hU := aloS_up X 64
      have hN64 := fun n hn => aloS_new X n 64 hn
      obtain ⟨S0, hS0⟩ : ∃ S0, S0 = aloS X 64 := ⟨_, rfl⟩
      rw [← hS0] at R0 hU hN64
      clear hS0 hlt hj hj0
      go_wp2_with fail
      refine (Format_up (unhide R0) hU 10 (by omega) (by omega) a c d ((unhide R0).sl (unhide HV)) ((unhide R0).notF (unhide HV)) hd1).mono ?_
      rintro e w3 ⟨rfl, F3, T3, r3, p3, u3, f3, k3⟩
      have R3 := hide r3
      have x3 := p3.rec_
      have N3 : Hid (∀ n, n < 64 → n ≠ 10 → n ≠ 11 → T3.newest n = aloB X n) := hide (fun n h1 h2 h3 => (p3.other n (by rw [hU.len]; exact h1) h2 h3).trans (hN64 n h1))
      have W3 := hide (row_kept (unhide HRow) k3 (unhide HNF))
      have G3 : Hid (∀ q, u10.ownBlock = some q → ¬ F3 q) := hide (fun q hq hf => by
        rcases f3 q hf with h | h
        · exact unhide HNF q hq h
        · have := (row_ltA (unhide HRow) hq).2; omega)
      clear r3 p3 f3 k3 hN64
      go_wp2_with fail
      refine (Store_up (unhide R3) u3 10 (by omega) (by omega) x y f ((unhide R3).sl (unhide HU)) ((unhide R3).notF (unhide HU)) hd2 (by rw [x3]) (by rw [x3]; simp only; omega)).mono ?_
      rintro e w4 ⟨rfl, F4, T4, r4, p4, u4, f4, k4⟩
      have R4 := hide r4
      have x4 := p4.rec_
      rw [x3] at x4
      have N4 : Hid (∀ n, n < 64 → n ≠ 10 → n ≠ 11 → T4.newest n = aloB X n) := hide (fun n h1 h2 h3 => (p4.other n (by rw [u3.len]; exact h1) h2 h3).trans (unhide N3 n h1 h2 h3))
      have W4 := hide (row_kept (unhide W3) k4 (unhide G3))
      have G4 : Hid (∀ q, u10.ownBlock = some q → ¬ F4 q) := hide (fun q hq hf => by
        rcases f4 q hf with h | h
        · exact unhide G3 q hq h
        · have := (row_ltA (unhide W3) hq).2; omega)
      clear r4 p4 f4 k4 N3 G3 x3
      go_wp2_with fail
      refine (Store_up (unhide R4) u4 10 (by omega) (by omega) a c d ((unhide R4).sl (unhide HV)) ((unhide R4).notF (unhide HV)) hd1 (by rw [x4]) (by rw [x4]; simp only; omega)).mono ?_
      rintro e w5 ⟨rfl, F5, T5, r5, p5, u5, f5, k5⟩
      have R5 := hide r5
      have x5 := p5.rec_
      rw [x4] at x5
      have N5 : Hid (∀ n, n < 64 → n ≠ 10 → n ≠ 11 → T5.newest n = aloB X n) := hide (fun n h1 h2 h3 => (p5.other n (by rw [u4.len]; exact h1) h2 h3).trans (unhide N4 n h1 h2 h3))
      have P5 := hide p5.pend
      have W5 := hide (row_kept (unhide W4) k5 (unhide G4))
      have G5 : Hid (∀ q, u10.ownBlock = some q → ¬ F5 q) := hide (fun q hq hf => by
        rcases f5 q hf with h | h
        · exact unhide G4 q hq h
        · have := (row_ltA (unhide W4) hq).2; omega)
      clear r5 p5 f5 k5 N4 G4 x4
      go_wp2_with fail
      refine (Crash_run (unhide R5) (by omega) [] _ (ints_nil _)).mono ?_
      rintro e w6 ⟨rfl, r6, k6⟩
      obtain ⟨T6, hT6⟩ : ∃ T6, T6 = T5.crash [] := ⟨_, rfl⟩
      have u6 : Up T6 := by rw [hT6]; exact Up.crash T5 [] u5.len
      have N6 : Hid (∀ n, n < 64 → n ≠ 10 → n ≠ 11 → T6.newest n = aloB X n) := hide (fun n h1 h2 h3 => by
        rw [hT6, crash_calm T5 [] n (by rw [u5.len]; exact h1) (unhide P5 n)]
        exact unhide N5 n h1 h2 h3)
      have x6 : T6.rcd 10 = T5.rcd 10 := by rw [hT6]; exact crash_rcd ⟨unhide P5 10, unhide P5 11⟩ (by rw [u5.len]; omega) []
      rw [x5] at x6
      rw [← hT6] at r6
      have R6 := hide r6
      have W6 := hide (row_kept (unhide W5) k6 (unhide G5))
      clear r6 k6 N5 x5 hT6 P5 u5
      go_wp2_with fail
      refine (Load_up (unhide R6) u6 10 (by omega) (by omega) (by rw [x6])).mono ?_
      rintro e w9 ⟨a9, n9, c9, rfl, l9, f9, r9, k9⟩
      rw [x6] at l9 ⊢
      have R9 := hide r9
      have L9 := hide l9
      have W9 := hide (row_kept (unhide W6) k9 (unhide G5))
      have nF : Hid (∀ ad, a9 = some ad → ¬ F5 ad.block) := hide (fun ad h hf => by have := f9 ad h; have := (unhide R6).foot _ hf; omega)
      have U9 := hide u6.burn.burn
      obtain ⟨S9, hS9⟩ : ∃ S9, S9 = T6.burn.burn := ⟨_, rfl⟩
      have N9 : Hid (∀ n, n < 64 → n ≠ 10 → n ≠ 11 → S9.newest n = aloB X n) := hide (fun n h1 h2 h3 => by rw [hS9]; exact unhide N6 n h1 h2 h3)
      rw [← hS9] at R9 U9
      clear r9 l9 f9 k9 u6 N6 x6 hS9 W6
      obtain ⟨g, cap, hv10, _, hgl⟩ := (unhide W9).form (by omega)
      have G5' : Hid (¬ F5 g) := hide (unhide G5 g (by rw [hv10]; rfl))
      subst hv10
      have hcell : Hid (∀ j, j < 64 → w9.cell? ⟨g, j, none⟩ = some (.string (str (aloB X j)))) := hide (fun j hj => by
        have := (unhide W9).cells (g := g) rfl j (.string (str (aloB X j))) (by rw [List.getElem?_map, List.getElem?_range hj]; rfl)
        rw [addr_add, Nat.zero_add] at this
        exact this)
      clear W9 G5
      go_wp2_with fail
      go_loopw [19] (fun i wr => ∃ (j : Nat) (S : St), i = .int .i64 j ∧ j ≤ 64 ∧ Run w wr b (200 + j) F5 S ∧ Up S ∧ (∀ n, n < 64 → n ≠ 10 → n ≠ 11 → S.newest n = aloB X n) ∧ Sl wr (.slice a9 n9 c9) d ∧ (∀ j, j < 64 → wr.cell? ⟨g, j, none⟩ = some (.string (str (aloB X j)))) ∧ g < wr.heap.size) (fun i _ => 64 - (intOf i).toNat)
      case atStart => exact ⟨0, S9, rfl, Nat.zero_le _, ⟨(unhide R9).dev.mono (fun _ h => h) (by omega), (unhide R9).foot, (unhide R9).bel⟩, unhide U9, unhide N9, unhide L9, unhide hcell, hgl⟩
      case round =>
        obtain ⟨j, S, rfl, hj, hR, hU', hN', hL', hC', hg'⟩ := hrel
        have R10 := hide hR
        have U10 := hide hU'
        have N10 := hide hN'
        have L10 := hide hL'
        have C10 := hide hC'
        clear hR hU' hN' hL' hC'
        have hj0 : (0 : Int) ≤ (j : Int) := Int.natCast_nonneg _
        by_cases hlt : j < 64
        · have hlt' : (j : Int) < 64 := by omega
          go_wp2_with fail
          refine (Read_run (unhide R10) (unhide U10) j hlt (by omega)).mono ?_
          rintro e w11 ⟨q, rfl, l11, r11, k11⟩
          have R11 := hide r11
          have z11 := k11.size
          have C11 : Hid (∀ j, j < 64 → w11.cell? ⟨g, j, none⟩ = some (.string (str (aloB X j)))) := hide (fun j hj => (World.cell?_of_block (w := wr) (a := ⟨g, j, none⟩) (k11.block g hg' (unhide G5'))).trans (unhide C10 j hj))
          have L11 := hide ((unhide L10).kept k11 (unhide nF))
          have hix := idx_strs 64 cap g j hlt
          have hcj := unhide C11 j hlt
          have SL11 := hide l11
          have HFW : Hid (∀ nq, Run w (w11.drewN nq) b (200 + (j + 1)) F5 S.burn ∧ Sl (w11.drewN nq) (.slice a9 n9 c9) d ∧ (∀ j, j < 64 → (w11.drewN nq).cell? ⟨g, j, none⟩ = some (.string (str (aloB X j)))) ∧ g < (w11.drewN nq).heap.size) := hide (fun nq => by
            have hb := below_drewN (Below.refl w11.heap.size w11) nq
            exact ⟨(unhide R11).grown hb, (unhide L11).below hb (Nat.le_refl _), unhide C11, by show g < w11.heap.size; omega⟩)
          clear r11 k11 l11
          by_cases hm : j < 10 ∨ 11 < j
          · obtain ⟨sv, hsv⟩ : ∃ sv, sv = str (aloB X j) := ⟨_, rfl⟩
            have hstr : ∀ nq, (convert 22 9 (.slice (some ⟨q, 0, none⟩) 512 512)).run Try.prog (w11.drewN nq) = .ok (.string sv) (w11.drewN nq) := fun nq => by
              have h := (unhide SL11).below (below_drewN (Below.refl w11.heap.size w11) nq) (Nat.le_refl _)
              rw [unhide N10 j hlt (by omega) (by omega)] at h
              rw [hsv]
              exact h.str
            rw [← hsv] at hcj
            clear hsv
            by_cases hm1 : j < 10
            · have hm' : (j : Int) < 10 := by omega
              go_wp2_with fail
              go_quiet (fail)
              go_wp2
              refine ⟨⟨j + 1, S.burn, rfl, by omega, (unhide HFW _).1, (unhide U10).burn, unhide N10, (unhide HFW _).2.1, (unhide HFW _).2.2.1, (unhide HFW _).2.2.2⟩, ?_⟩
              simp [intOf]
              omega
            · have hm' : ¬ (j : Int) < 10 := by omega
              have hm2 : (11 : Int) < (j : Int) := by omega
              go_wp2_with fail
              go_quiet (fail)
              go_wp2
              refine ⟨⟨j + 1, S.burn, rfl, by omega, (unhide HFW _).1, (unhide U10).burn, unhide N10, (unhide HFW _).2.1, (unhide HFW _).2.2.1, (unhide HFW _).2.2.2⟩, ?_⟩
              simp [intOf]
              omega
          · have h1011 : j = 10 ∨ j = 11 := by omega
            clear hcj hm hj0 hlt'
            rcases h1011 with rfl | rfl
            all_goals
              go_wp2_with fail
              go_quiet (fail)
              go_wp2
              refine ⟨⟨_, S.burn, rfl, ?_, (unhide HFW _).1, (unhide U10).burn, unhide N10, (unhide HFW _).2.1, (unhide HFW _).2.2.1, (unhide HFW _).2.2.2⟩, ?_⟩
              · decide
              · decide
        · obtain rfl : j = 64 := by omega
          have q1 := (unhide L10).str
          have q2 := ((unhide R10).sl (unhide HV)).str
          go_wp2
          go_ret
          exact ⟨rfl, (unhide R10).bel⟩

set_option maxRecDepth 100000 in
theorem Alone.lifted (os : Os) (started : os.Started) (H : Type) (enc : TypeId × Value → H) :
    ReturnsInHanded {} Try.checked os 5 .any (Rows.superAloneSpec.pre6 enc Try.prog Try.f5 Rows.superAloneRow.domain false) (Rows.superAloneSpec.post enc Try.prog Try.f5 false true false false) := by
  refine returnsInHanded_of_change (C := Try.checked) own_knob started (by kernel_rfl) Try.func5
    (ChangeSpec.witness6 (enc := enc) (C := Try.checked) false ⟨#[], #[.int .i64 0, .slice none 0 0, .slice none 0 0], []⟩ 8 (by kernel_rfl) (by kernel_rfl) (by kernel_rfl) (by kernel_rfl)) ?_
  intro W base args ds gs before hval0 hW hcnd _
  have hval : ∀ (j : Nat) t v, Try.f5.params[j]? = some t → args[j]? = some v → Value.okWide Try.prog W .any base t v := hval0
  have hW' := hW
  obtain ⟨p, q, hA0, hV, rfl, hfz, hnd⟩ := hW
  have hA : DataW.TrodAll enc Try.prog W 0 (fun _ => true) true Try.f5.params.toList args.toList ds p := hA0
  rw [Try.params5] at hA hval
  obtain ⟨v0, v1, v2, d0, d1, d2, p0, p1, p2, rfl, rfl, rfl, h0, h1, h2⟩ := trodAll_three hA
  obtain ⟨rfl, rfl⟩ := trodVars_none hV
  obtain ⟨x, rfl, rfl, rfl, wx⟩ := open_int Try.underlying3 (hval 0 3 v0 rfl rfl) h0
  obtain ⟨a1, len1, cap1, rfl⟩ := okWide_slice Try.underlying22 (hval 1 22 v1 rfl rfl)
  obtain ⟨a2, len2, cap2, rfl⟩ := okWide_slice Try.underlying22 (hval 2 22 v2 rfl rfl)
  have k1 := h1
  have lt1 : ∀ x ∈ p1, x.block < W.heap.size := by obtain ⟨m, hm⟩ := k1; exact DataW.trod_lt m _ _ _ hm
  have k2 := h2
  have lt2 : ∀ x ∈ p2, x.block < W.heap.size := by obtain ⟨m, hm⟩ := k2; exact DataW.trod_lt m _ _ _ hm
  obtain ⟨l1, hl1, _⟩ := open_bytes h1
  obtain ⟨l2, hl2, _⟩ := open_bytes h2
  obtain rfl : len1 = l1.length := hl1.lenEq
  obtain rfl : len2 = l2.length := hl2.lenEq
  have bx := bounds_i64 wx
  clear hA0 hval0
  refine (Alone.walk x a1 cap1 l1 a2 cap2 l2 W (by omega) (by omega) hl1 hl2).mono fun e W' ⟨he, bel⟩ => ?_
  subst he
  exact ⟨_, rfl, _, _, _, [], _, [], hW', trodAll_mk1 (shut_bool Try.underlying4 _), (trodAll_cons_mk (shut_int Try.underlying3 wx) (trodAll_cons_mk (Below.trod laid_out (by kernel_rfl) (of_decide_eq_true (by kernel_rfl)) k1 bel lt1) (trodAll_cons_mk (Below.trod laid_out (by kernel_rfl) (of_decide_eq_true (by kernel_rfl)) k2 bel lt2) trodAll_mk0))), rfl, bel.frame _, fun h => by cases h⟩

theorem superAlone_holds : Rows.SuperAloneSaid :=
  OpenClaim.holds_of_wide 5 Try.f5 rfl rfl rfl rfl rfl rfl rfl ⟨rfl, rfl, rfl, rfl, rfl⟩ rfl rfl rfl rfl rfl (by kernel_rfl) Try.func5 (by kernel_rfl)
    (of_decide_eq_true (by kernel_rfl)) (by unfold Func.isWrapper; first | (rw [if_pos (by decide +kernel)]; kernel_rfl) | (rw [if_neg (by decide +kernel)]; exact ⟨rfl, rfl⟩))
    (fun os started H enc _ => Alone.lifted os started H enc)
#print axioms superAlone_holds
end Go.Proofs.Ytbgaomfoiooegaa
