/-
  BlockdevKeeps: for every two slices of calls and every slice of ints it returns true, and its arguments read as before. Conditions: none.
-/
import Derived.Test.YtdcggplmoiodjaaDkp
import Derived.Deep.QuietTactic
import Derived.BigQuiet
import Derived.Deep.RegionLaw
import Derived.Deep.AppendLies
namespace Go.Proofs.Ytdcggplmoiodjaa
open Go.ChangeShapes Go.WideShapes Go.ChangeAt Go.RowKit
set_option linter.unusedVariables false

theorem idx_callsK (ao : Option Addr) (n cap pb off j : Nat) (h : ao = some ⟨pb, off, none⟩) (hj : j < n) (W : World) : (Instr.indexAt 22 (.slice ao n cap) (.int .i64 (j : Nat))).run Try.prog W = .ok (.pointer (some ⟨pb, off + j * 6, none⟩)) W := by
  subst h
  have hu : Try.prog.underlying 22 = some (.slice (Try.prog.elem 22)) := by kernel_rfl
  rw [run_indexAt_slice (h := hu), if_pos (by omega)]
  have e : Try.prog.elem 22 = 37 := by kernel_rfl
  have e2 : (sizeOf 37).run Try.prog W = .ok 6 W := by kernel_rfl
  rw [e, e2, Result.andThen_ok, Int.toNat_natCast, addr_add]
theorem Pick_64K (p : Int) (w : World) (p1 : I64 p) : Calls Try.prog 19 #[.int .i64 p, .int .i64 64] w fun e w' => e = .returned (.int .i64 (pickR p 63 : Nat)) ∧ w = w' := Pick_eq p 63 w p1.1 p1.2 (by omega)

abbrev zB : ByteArray := str (List.replicate 512 0)
theorem new_newest (n : Nat) (hn : n < 64) : (St.new 64).newest n = List.replicate 512 0 := by
  show (([] : List (List UInt8)).getLast?).getD (((List.replicate 64 (List.replicate 512 (0 : UInt8)))[n]?).getD []) = _
  rw [List.getElem?_replicate, if_pos hn]; rfl

set_option maxRecDepth 100000 in
set_option maxHeartbeats 6400000 in
theorem Keeps.walk (v1 v2 u : Value) (l1 l2 : List Cl) (ps : List Int) (w : World) (hv1 : ClL w v1 l1) (hv2 : ClL w v2 l2) (hu : Ints w u ps) (huo : ps ≠ [] → ∀ pb, u.ownBlock = some pb → pb < w.heap.size) :
    Calls Try.prog 4 #[v1, v2, u] w fun e w' => e = .returned (.bool true) ∧ Below w.heap.size w w' := by
  obtain ⟨a1, c1, rfl, hl1, hp1⟩ := hv1
  obtain ⟨a2, c2, rfl, hl2, hp2⟩ := hv2
  have HP1 := hide hp1
  have HP2 := hide hp2
  have HU := hide hu
  have HUO := hide huo
  clear hp1 hp2 hu huo
  obtain ⟨z, hz⟩ : ∃ z, z = zB := ⟨_, rfl⟩
  have HN : Hid (∀ W, Calls Try.prog 18 #[] W fun e w' => e = .returned (.string z) ∧ Below W.heap.size W w') := hide (by rw [hz]; exact Noughts_any)
  have HZ := hide hz
  clear hz
  go_enter Try.func4, Try.ntmps4
  go_wp2_with fail
  refine (awake_any _).mono ?_
  rintro e w1 ⟨rfl, b1⟩
  have s1 := b1.size
  have K1 := hide b1
  clear b1
  go_wp2_with fail
  refine (New_dev 64 w1 (by omega) (by omega)).mono ?_
  rintro e w2 ⟨rfl, d2, b2⟩
  have s2 := b2.size
  obtain ⟨b, hb⟩ : ∃ b, b = w1.heap.size + 2 := ⟨_, rfl⟩
  rw [← hb] at d2 ⊢
  clear hb
  have HK0 : Hid (Kp w (w2.alloc (.cells nilCells 46)) w2.heap.size b w2.heap.size 0 (St.new 64) (fun _ => [])) := hide (by
    have hbA : Below w2.heap.size w2 (w2.alloc (.cells nilCells 46)) := (Below.refl _ _).alloc (Nat.le_refl _) _
    refine ⟨_, fun _ => nilS, fun q hq => ⟨by have := hq.1; omega, hq.2⟩, d2.grown hbA, rfl, rfl, List.length_replicate, ?_, ((unhide K1).trans (b2.mono s1)).trans (hbA.mono (by omega)), by simp, by omega, fun n q hq => by cases hq⟩
    exact { arr := heap_alloc_self _ _, rows := fun n => World.ownsRow_nil _ _ _ _, foot := fun n q hq => (by cases hq), apart := fun _ _ _ hq => (by cases hq), na := fun hf => by have := hf.2; omega })
  clear d2 b2
  obtain ⟨A, hA⟩ : ∃ A, A = w2.heap.size := ⟨_, rfl⟩
  go_wp2_with (first | (refine wpList_alloc_may rfl rfl ?_) | fail)
  rw [← hA] at HK0 ⊢
  obtain ⟨wA, hwA⟩ : ∃ wA, wA = w2.alloc (.cells nilCells 46) := ⟨_, rfl⟩
  rw [← hwA] at HK0 ⊢
  clear hA hwA s2
  -- the array is filled
  go_loopw [11] (fun i wr => ∃ j : Nat, j ≤ 64 ∧ i = .int .i64 j ∧ Kp w wr wr.heap.size b A 0 (St.new 64) (fun n => if n < j then [z] else [])) (fun i _ => 64 - (intOf i).toNat)
  case atStart => exact ⟨0, by omega, rfl, by simpa using (unhide HK0).up⟩
  case round =>
    obtain ⟨j, hj, rfl, hkp⟩ := hrel
    have HK := hide hkp
    have hAl := hkp.size.2.2
    clear hkp
    by_cases h64 : j < 64
    · go_wp2_with fail
      refine (unhide HN wr).mono ?_
      rintro e w3 ⟨rfl, b3⟩
      have HK3 := hide ((unhide HK).grown b3)
      have hA3 := (unhide HK3).size.2.2
      clear b3
      obtain ⟨F, mv, hF, hd, h1, h2, h3, hm, hbl, hB, hwA, hO⟩ := unhide HK3
      have ca := hm.cell j h64
      have na := hm.nf j
      have hja := idx_may A j h64
      clear hF hd h1 h2 h3 hm hbl hB hwA hO
      have HX := hide ((unhide HK3).one j h64 z)
      go_wp2
      refine ⟨⟨j + 1, by omega, rfl, ?_⟩, ?_⟩
      · have e := upd_lt z j
        rw [e]
        exact (unhide HX).up
      · simp [intOf]
        omega
    · obtain ⟨t, ht⟩ : ∃ t, t = j := ⟨_, rfl⟩
      have HJ : Hid (j = 64) := hide (by omega)
      have HK2 : Hid (Kp w wr wr.heap.size b A 0 (St.new 64) (fun n => if n < 64 then [str ((St.new 64).newest n)] else [])) := hide (by
        have e : (fun n => if n < 64 then [str ((St.new 64).newest n)] else []) = (fun n => if n < 64 then [z] else []) := by
          funext n
          by_cases e1 : n < 64
          · rw [if_pos e1, if_pos e1, new_newest n e1, unhide HZ]
          · rw [if_neg e1, if_neg e1]
        rw [e]
        have := unhide HK
        rw [unhide HJ] at this
        exact this)
      clear HK HK0 hAl
      go_wp2_with fail
      clear h64 hj
      rw [← ht]
      clear ht HJ
      -- the first writes
      go_loopw [12] (fun i wr => ∃ (j : Nat) (S : St), i = .int .i64 j ∧ j ≤ l1.length ∧ j ≤ 60 ∧ S.safe.length = 64 ∧ Kp w wr wr.heap.size b A (2 * j) S (fun n => if n < 64 then [str (S.newest n)] else [])) (fun i _ => l1.length - (intOf i).toNat)
      case atStart => exact ⟨0, St.new 64, rfl, Nat.zero_le _, Nat.zero_le _, List.length_replicate, unhide HK2⟩
      case round =>
        clear HK2
        obtain ⟨j, S, rfl, hj1, hj2, hS, hkp⟩ := hrel
        have HK := hide hkp
        have hAl := hkp.size.2.2
        clear hkp
        by_cases hend : j < l1.length ∧ j < 60
        · obtain ⟨hl, h6⟩ := hend
          obtain ⟨pb, off, hap, hpw, hpcl⟩ := unhide HP1 (by omega)
          have hix := idx_callsK a1 l1.length c1 pb off j hap hl
          obtain ⟨c, hc⟩ : ∃ c, c = l1[j] := ⟨_, rfl⟩
          have hcl := hpcl j hl
          rw [← hc] at hcl
          have hcr := hcl.below (unhide HK).below (Nat.le_refl _) hpw
          have k2 := hcr.c2
          have k3 := hcr.c3
          have k4 := hcr.c4
          have I2 := hide hcr.i2
          have I3 := hide hcr.i3
          have hbs := (unhide HK).size
          have hws := hbs.1
          have HCC : Hid (∀ W, Below wr.heap.size wr W → W.cell? ⟨pb, off + j * 6 + 3, none⟩ = some (.int .i64 c.fill) ∧ W.cell? ⟨pb, off + j * 6 + 4, none⟩ = some (.string c.head)) := hide fun W hW => ⟨(hW.cell (p := ⟨pb, _, none⟩) (by show pb < wr.heap.size; omega)).trans k3, (hW.cell (p := ⟨pb, _, none⟩) (by show pb < wr.heap.size; omega)).trans k4⟩
          clear hcr hcl hpcl hap hc hbs
          go_wp2_with fail
          refine (Pick_64K c.n _ (unhide I2)).mono ?_
          rintro e w' ⟨rfl, rfl⟩
          obtain ⟨k, hk⟩ : ∃ k, k = pickR c.n 63 := ⟨_, rfl⟩
          have hk4 : k < 64 := by rw [hk]; exact pickR_lt c.n 63
          rw [← hk]
          clear hk k2
          obtain ⟨L, hL⟩ : ∃ L, L = headL c.head (fillL (UInt8.ofNat (pickR c.fill 255)) 512) := ⟨_, rfl⟩
          have hL5 : L.length = 512 := by rw [hL]; exact headL_len _ _
          have cB := fun W => Block_sl c.fill c.head W (unhide I3).1 (unhide I3).2
          rw [← hL] at cB
          have CB := hide cB
          clear cB hL
          go_wp2_with fail
          go_region_held3 (fun w' => w'.cell? ⟨pb, off + j * 6 + 3, none⟩ = some (.int .i64 c.fill) ∧ w'.cell? ⟨pb, off + j * 6 + 4, none⟩ = some (.string c.head))
            (first | exact ⟨k3, k4⟩ | exact unhide HCC _ b4)
            (first | (go_at_call 20; refine (unhide CB wr.drew).mono ?_; rintro e w4 ⟨rfl, l4, b0⟩; have b4 : Below wr.heap.size wr w4 := after_drew b0))
          have HK4 := hide ((unhide HK).grown b4)
          have L4 : Hid (Sl w4 (.slice (some ⟨wr.heap.size, 0, none⟩) 512 512) L) := hide l4
          clear l4 b0 b4 k3 k4 hix
          go_wp2_with fail
          refine (Write_kp (unhide HK4) k wr.heap.size L hk4 (Nat.le_refl _) (unhide L4) hL5 (by omega)).mono ?_
          rintro e w5 ⟨rfl, kp5, sl5⟩
          have HX := hide ((kp5.one k hk4 (str L)).up)
          have hcv := sl5.str
          have hA5 := kp5.size.2.2
          obtain ⟨F, mv, hF, hd, h1, h2, h3, hm, hbl, hB, hwA, hO⟩ := kp5
          have ca := hm.cell k hk4
          have na := hm.nf k
          have hja := idx_may A k hk4
          have hS5 : (S.burn.wrote k L).safe.length = 64 := hS
          clear hF hd h1 h2 h3 hm hbl hB hwA hO sl5
          have hstr : (⟨L.toArray⟩ : ByteArray) = str L := rfl
          rw [hstr] at hcv
          clear hstr
          have HY : Hid (Kp w ((w5.setCell ⟨A, k, none⟩ (.slice (some ⟨w5.heap.size, 0, none⟩) 1 1)).alloc (.cells #[.string (str L)] 9)) ((w5.setCell ⟨A, k, none⟩ (.slice (some ⟨w5.heap.size, 0, none⟩) 1 1)).alloc (.cells #[.string (str L)] 9)).heap.size b A (2 * (j + 1)) (S.burn.wrote k L) (fun n => if n < 64 then [str ((S.burn.wrote k L).newest n)] else [])) := hide (by
            have e := may_first S k L
            rw [if_pos hk4] at e
            rw [e]
            exact unhide HX)
          clear HX
          go_wp2
          go_roundw
          case rel => exact ⟨j + 1, S.burn.wrote k L, rfl, by omega, by omega, hS5, unhide HY⟩
          case measure => simp [intOf]; omega
        · have hb1 : ¬ (j < l1.length) ∨ (j < l1.length ∧ ¬ (j < 60)) := by omega
          obtain ⟨t1, ht1⟩ : ∃ t1, t1 = j := ⟨_, rfl⟩
          clear hend
          rcases hb1 with hb1 | ⟨hb1, hb2⟩
          all_goals
            go_wp2_with fail
            refine (Flush_kp (unhide HK) (by omega)).mono ?_
            rintro e w3 ⟨rfl, kp3⟩
            have HK3 : Hid (Kp w w3 w3.heap.size b A 200 S.burn.flushed (mayS S.burn.flushed)) := hide (by
              have e := may_flush S hS
              rw [← e]
              obtain ⟨F, mv, hF, hd, h1, h2, h3, hm, hbl, hB, hwA, hO⟩ := kp3
              exact ⟨F, mv, hF, hd.mono (fun _ h => h) (by omega), h1, h2, h3, hm, hbl, hB, hwA, hO⟩)
            have hS3 : S.burn.flushed.safe.length = 64 := by obtain ⟨F, mv, hF, hd, h1, h2, h3, hm, hbl, hB, hwA, hO⟩ := kp3; exact h3
            obtain ⟨S3, hS3e⟩ : ∃ S3, S3 = S.burn.flushed := ⟨_, rfl⟩
            rw [← hS3e] at HK3 hS3
            clear hS3e kp3 HK hAl
            go_wp2_with fail
            -- the writes behind the flush
            go_loopw [15] (fun i wr => ∃ (j : Nat) (S : St), i = .int .i64 j ∧ j ≤ l2.length ∧ j ≤ 60 ∧ S.safe.length = 64 ∧ Kp w wr wr.heap.size b A (200 + 2 * j) S (mayS S)) (fun i _ => l2.length - (intOf i).toNat)
            case atStart => exact ⟨0, S3, rfl, Nat.zero_le _, Nat.zero_le _, hS3, unhide HK3⟩
            case round =>
              clear HK3 hS3 S3 hS
              obtain ⟨j2, S2, rfl, hj3, hj4, hS2, hkp⟩ := hrel
              have HK := hide hkp
              have hAl := hkp.size.2.2
              clear hkp
              by_cases hend : j2 < l2.length ∧ j2 < 60
              · obtain ⟨hl, h6⟩ := hend
                obtain ⟨pb, off, hap, hpw, hpcl⟩ := unhide HP2 (by omega)
                have hix := idx_callsK a2 l2.length c2 pb off j2 hap hl
                obtain ⟨c, hc⟩ : ∃ c, c = l2[j2] := ⟨_, rfl⟩
                have hcl := hpcl j2 hl
                rw [← hc] at hcl
                have hcr := hcl.below (unhide HK).below (Nat.le_refl _) hpw
                have k2 := hcr.c2
                have k3 := hcr.c3
                have k4 := hcr.c4
                have I2 := hide hcr.i2
                have I3 := hide hcr.i3
                have hbs := (unhide HK).size
                have hws := hbs.1
                have HCC : Hid (∀ W, Below wr.heap.size wr W → W.cell? ⟨pb, off + j2 * 6 + 3, none⟩ = some (.int .i64 c.fill) ∧ W.cell? ⟨pb, off + j2 * 6 + 4, none⟩ = some (.string c.head)) := hide fun W hW => ⟨(hW.cell (p := ⟨pb, _, none⟩) (by show pb < wr.heap.size; omega)).trans k3, (hW.cell (p := ⟨pb, _, none⟩) (by show pb < wr.heap.size; omega)).trans k4⟩
                clear hcr hcl hpcl hap hc hbs
                go_wp2_with fail
                refine (Pick_64K c.n _ (unhide I2)).mono ?_
                rintro e w' ⟨rfl, rfl⟩
                obtain ⟨k, hk⟩ : ∃ k, k = pickR c.n 63 := ⟨_, rfl⟩
                have hk4 : k < 64 := by rw [hk]; exact pickR_lt c.n 63
                rw [← hk]
                clear hk k2
                obtain ⟨L, hL⟩ : ∃ L, L = headL c.head (fillL (UInt8.ofNat (pickR c.fill 255)) 512) := ⟨_, rfl⟩
                have hL5 : L.length = 512 := by rw [hL]; exact headL_len _ _
                have cB := fun W => Block_sl c.fill c.head W (unhide I3).1 (unhide I3).2
                rw [← hL] at cB
                have CB := hide cB
                clear cB hL
                go_wp2_with fail
                go_region_held3 (fun w' => w'.cell? ⟨pb, off + j2 * 6 + 3, none⟩ = some (.int .i64 c.fill) ∧ w'.cell? ⟨pb, off + j2 * 6 + 4, none⟩ = some (.string c.head))
                  (first | exact ⟨k3, k4⟩ | exact unhide HCC _ b4)
                  (first | (go_at_call 20; refine (unhide CB wr.drew).mono ?_; rintro e w4 ⟨rfl, l4, b0⟩; have b4 : Below wr.heap.size wr w4 := after_drew b0))
                have HK4 := hide ((unhide HK).grown b4)
                have L4 : Hid (Sl w4 (.slice (some ⟨wr.heap.size, 0, none⟩) 512 512) L) := hide l4
                clear l4 b0 b4 k3 k4 hix
                go_wp2_with fail
                refine (Write_kp (unhide HK4) k wr.heap.size L hk4 (Nat.le_refl _) (unhide L4) hL5 (by omega)).mono ?_
                rintro e w5 ⟨rfl, kp5, sl5⟩
                have hlen := (unhide HK).len k
                have hcv := sl5.drew.str
                have hstr : (⟨L.toArray⟩ : ByteArray) = str L := rfl
                rw [hstr] at hcv
                clear hstr
                obtain ⟨s, hs⟩ : ∃ s, s = str L := ⟨_, rfl⟩
                rw [← hs] at hcv
                have hA5 := kp5.size.2.2
                have hS5 : (S2.burn.wrote k L).safe.length = 64 := hS2
                obtain ⟨F, mv, hF, hd, h1, h2, h3, hm, hbl, hB, hwA, hO⟩ := kp5
                have ca := hm.cell k hk4
                have na := hm.nf k
                have hja := idx_may A k hk4
                obtain ⟨m, hmm⟩ : ∃ m, m = mayS S2 k := ⟨_, rfl⟩
                have hrow := hm.rows k
                rw [← hmm] at hrow hlen
                have hkA : (mv k).ownBlock ≠ some A := fun e => (hm.foot k A e).2 rfl
                have HRW : Hid ((w5.alloc (.cells #[.string s] 9)).drew.ownsRow 0 9 1 (mv k) m.length (m.map Value.string)) := hide (World.ownsRow.alloc hrow _)
                have HFIN : Hid (∀ (W3 : World) (v : Value), (w5.alloc (.cells #[.string s] 9)).drew.grownBy W3 (mv k).ownBlock → W3.ownsRow 0 9 1 v (m.length + 1) (m.map Value.string ++ [.string s]) → (∀ q, v.ownBlock = some q → (mv k).ownBlock = some q ∨ w5.heap.size ≤ q) → Kp w (W3.setCell ⟨A, k, none⟩ v) (W3.setCell ⟨A, k, none⟩ v).heap.size b A (200 + 2 * (j2 + 1)) (S2.burn.wrote k L) (mayS (S2.burn.wrote k L))) := hide fun W3 v hg hv hat => by
                  have hga : w5.grownBy W3 (mv k).ownBlock := by
                    have ha := World.grownBy_alloc w5 (.cells #[.string s] 9) (mv k).ownBlock
                    exact ha.trans ⟨hg.os, hg.tape, hg.output, hg.size, hg.block⟩
                  have := Kp.set hF hd h1 h2 h3 hm hbl hB hwA k hk4 v (m ++ [s]) hga hO (by rw [List.length_append, List.map_append]; exact hv) hat
                  rw [may_then S2 k hk4 L, ← hmm, ← hs]
                  exact this.up
                clear hF hd h1 h2 h3 hm hbl hB hwA hO sl5 hrow hs hmm
                obtain ⟨i0, hi0, hz0, hz1, hz2⟩ := info_parts infoStr
                go_wp2_with fail
                go_region_law (first | (refine step_append_lies _ (by rfl) _ _ _ (by rfl) 0 9 i0 _ 1 16 Try.underlying41 hi0 hz0 hz1 hz2 (by rfl) (by omega) (mv k) m.length (m.map Value.string) (by rfl) (unhide HRW) ⟨w5.heap.size, 0, none⟩ 1 1 [.string s] (by rfl) (by rfl) (World.news_of_block (cs := #[.string s]) (t := 9) (fr := (0, 0)) (heap_alloc_new w5 _)) (by simp [Value.oneCell']) (by omega) (by unfold maxLen; omega) (by omega) (Nat.zero_le _) (w5.heap.size + 1) (by simp) ?_; intro gg cap2 W3 hown3 hgrow hat hlt3; have caW : W3.cell? ⟨A, k, none⟩ = some (mv k) := (hgrow.cell_far ⟨A, k, none⟩ (by show A < (w5.alloc _).heap.size; simp; omega) (fun e => hkA e.symm)).trans ((World.cell?_alloc_lt _ _ _ hA5).trans ca); have naW : W3.frozen? ⟨A, k, none⟩ = false := (hgrow.frozen_far ⟨A, k, none⟩ (by show A < (w5.alloc _).heap.size; simp; omega) (fun e => hkA e.symm)).trans ((World.frozen?_alloc_past _ _ _ hA5).trans na)))
                all_goals
                  have HX := hide (unhide HFIN W3 _ hgrow hown3 (fun q hq => by cases hq; exact hat.imp id (fun h => by show w5.heap.size ≤ gg; omega)))
                  clear caW naW hgrow hown3 hat hlt3 ca na hja hcv hi0 hz0 hz1 hz2
                  go_wp2
                  go_roundw
                  case rel => exact ⟨j2 + 1, S2.burn.wrote k L, rfl, by omega, by omega, hS5, unhide HX⟩
                  case measure => simp [intOf]; omega
              · have hb3 : ¬ (j2 < l2.length) ∨ (j2 < l2.length ∧ ¬ (j2 < 60)) := by omega
                clear hend
                rcases hb3 with hb3 | ⟨hb3, hb4⟩
                all_goals
                  go_wp2_with fail
                  refine (Crash_kp (unhide HK) (by omega) u ps (unhide HU) (unhide HUO)).mono ?_
                  rintro e w6 ⟨rfl, kp6⟩
                  have HK6 : Hid (Kp w w6 w6.heap.size b A 400 (S2.crash ps) (mayS S2)) := hide (by
                    obtain ⟨F, mv, hF, hd, h1, h2, h3, hm, hbl, hB, hwA, hO⟩ := kp6
                    exact ⟨F, mv, hF, hd.mono (fun _ h => h) (by omega), h1, h2, h3, hm, hbl, hB, hwA, hO⟩)
                  have hin := fun n hn => may_has S2 ps n hn hS2
                  have hml : ∀ n, (mayS S2 n).length ≤ 400 := fun n => by have := (unhide HK).len n; omega
                  obtain ⟨S6, hS6⟩ : ∃ S6, S6 = S2.crash ps := ⟨_, rfl⟩
                  have hpe : ∀ n, S6.pend n = [] := fun n => by rw [hS6]; rfl
                  rw [← hS6] at HK6 hin
                  obtain ⟨ms, hms⟩ : ∃ ms, ms = mayS S2 := ⟨_, rfl⟩
                  rw [← hms] at HK6 hin hml
                  have HIN := hide hin
                  have HML := hide hml
                  have HPE := hide hpe
                  clear hS6 hms kp6 hin hpe HK hAl hS2 hml
                  go_wp2_with fail
                  go_loopw [18] (fun i wr => ∃ (j : Nat) (S : St), i = .int .i64 j ∧ j ≤ 64 ∧ (∀ n, S.newest n = S6.newest n) ∧ (∀ n, S.pend n = []) ∧ Kp w wr wr.heap.size b A (400 + j) S ms) (fun i _ => 64 - (intOf i).toNat)
                  case atStart => exact ⟨0, S6, rfl, Nat.zero_le _, fun _ => rfl, unhide HPE, unhide HK6⟩
                  case round =>
                    clear HK6
                    obtain ⟨j5, S5, rfl, hj5, hnw, hpn, hkp⟩ := hrel
                    have HK := hide hkp
                    have HNW := hide hnw
                    have HPN := hide hpn
                    clear hkp hnw hpn
                    by_cases h64 : j5 < 64
                    · go_wp2_with fail
                      refine (Read_kp (unhide HK) j5 h64 (by omega)).mono ?_
                      rintro e w7 ⟨q7, rfl, hr7, hl7, kp7⟩
                      rw [unhide HNW j5] at hr7 hl7
                      have HSL : Hid (Sl w7 (.slice (some ⟨q7, 0, none⟩) 512 512) (S6.newest j5)) := hide (by
                        have hl := hl7
                        refine ⟨some ⟨q7, 0, none⟩, 512, by rw [hl], by rw [hl]; exact Nat.le_refl _, by unfold maxLen; omega, fun _ => ⟨q7, 0, rfl, lt_of_block hr7, fun i hi => ?_⟩⟩
                        rw [cell_of_row _ _ _ _ _ _ hr7, Nat.zero_add]
                        simp [List.getElem?_eq_getElem hi])
                      have HK7 := hide (kp7.up)
                      have hmem := unhide HIN j5 h64
                      obtain ⟨s, hs⟩ : ∃ s, s = str (S6.newest j5) := ⟨_, rfl⟩
                      rw [← hs] at hmem
                      obtain ⟨L, hLe⟩ : ∃ L, L = S6.newest j5 := ⟨_, rfl⟩
                      rw [← hLe] at HSL hs
                      have HSS := hide hs
                      have HME := hide hmem
                      clear kp7 hr7 hl7 hmem hs hLe
                      obtain ⟨m, hm0⟩ : ∃ m, m = ms j5 := ⟨_, rfl⟩
                      have HMM := hide hm0
                      have hml9 : m.length ≤ 400 := by rw [hm0]; exact unhide HML j5
                      rw [← hm0] at HME
                      clear hm0
                      go_wp2_with fail
                      go_loopw [21, 22] (fun o i wr => ∃ (t : Nat), i = .int .i64 t ∧ t ≤ m.length ∧ o = .bool (among s m t) ∧ Kp w wr wr.heap.size b A (400 + j5 + 1) S5.burn ms ∧ Sl wr (.slice (some ⟨q7, 0, none⟩) 512 512) L) (fun _ i _ => m.length - (intOf i).toNat)
                      case atStart => exact ⟨0, rfl, Nat.zero_le _, rfl, unhide HK7, unhide HSL⟩
                      case round =>
                        clear HK7 HSL HK
                        obtain ⟨t9, rfl, ht9, rfl, hkp, hsl⟩ := hrel
                        have HK := hide hkp
                        have HSL := hide hsl
                        obtain ⟨F, mv, hF, hd, h1, h2, h3, hm, hbl, hB, hwA, hO⟩ := hkp
                        have ca := hm.cell j5 h64
                        obtain ⟨ao, cap, hmv, hat⟩ := hm.at j5
                        rw [hmv, ← unhide HMM] at ca
                        have hja := idx_may A j5 h64
                        have hA9 := hm.lt
                        have HAT : Hid (∀ t, (ht : t < m.length) → ∃ q, ao = some ⟨q, 0, none⟩ ∧ wr.cell? ⟨q, t, none⟩ = some (.string (m[t]))) := hide (by
                          have e := unhide HMM
                          subst e
                          exact hat)
                        clear hF hd h1 h2 h3 hm hbl hB hwA hO hmv hat hsl
                        by_cases hlt : t9 < m.length
                        · obtain ⟨q9, hq9, hc9⟩ := unhide HAT t9 hlt
                          have hjs := idx_strs ao m.length cap q9 t9 hq9 hlt
                          have hcv : ∀ nq, (convert 49 9 (.slice (some ⟨q7, 0, none⟩) 512 512)).run Try.prog (wr.drewN nq) = .ok (.string s) (wr.drewN nq) := fun nq => by rw [unhide HSS]; exact ((unhide HSL).drewN nq).str
                          have hst := among_step s m t9 hlt
                          obtain ⟨x9, hx9⟩ : ∃ x9, x9 = m[t9] := ⟨_, rfl⟩
                          rw [← hx9] at hc9 hst
                          have HST := hide hst
                          clear hx9 hst hq9
                          obtain ⟨bo, hbo⟩ : ∃ bo, bo = among s m t9 := ⟨_, rfl⟩
                          have HBO := hide hbo
                          rw [← hbo]
                          clear hbo
                          have HFW : Hid (∀ nq, Kp w (wr.drewN nq) (wr.drewN nq).heap.size b A (400 + j5 + 1) S5.burn ms ∧ Sl (wr.drewN nq) (.slice (some ⟨q7, 0, none⟩) 512 512) L) := hide fun nq => ⟨((unhide HK).drewN nq).up, (unhide HSL).drewN nq⟩
                          cases bo
                          all_goals
                            go_wp2_with fail
                            go_quiet (fail)
                            go_wp2
                            go_roundw
                            case rel => exact ⟨t9 + 1, rfl, by omega, by rw [unhide HST, ← unhide HBO]; rfl, (unhide HFW _).1, (unhide HFW _).2⟩
                            case measure => simp [intOf]; omega
                        · obtain rfl : t9 = m.length := by omega
                          have hok : among s m m.length = true := among_all s m (unhide HME)
                          have HNX : Hid ((∀ n, S5.burn.newest n = S6.newest n) ∧ (∀ n, S5.burn.pend n = [])) := hide ⟨unhide HNW, unhide HPN⟩
                          go_wp2
                          go_roundw
                          case rel => exact ⟨j5 + 1, S5.burn, rfl, by omega, (unhide HNX).1, (unhide HNX).2, unhide HK⟩
                          case measure => simp [intOf]; omega
                    · have hPF : Calls Try.prog 24 #[.pointer (some ⟨b, 0, none⟩)] wr fun e w' => ∃ ao cap, e = .returned (.slice ao 0 cap) ∧ Below w.heap.size w w' := by
                        obtain ⟨F, mv, hF, hd, h1, h2, h3, hm, hbl, hB, hwA, hO⟩ := unhide HK
                        obtain ⟨g, c, m, vf, D, hd⟩ := hd
                        refine (Pending_form hd (by omega)).mono ?_
                        rintro e w' ⟨ao, cap, rfl, _, hb9⟩
                        have ek : S5.keys = [] := keys_none (unhide HPN)
                        exact ⟨ao, cap, by rw [ek]; rfl, hbl.trans (hb9.mono hbl.size)⟩
                      have HPF := hide hPF
                      clear hPF
                      go_wp2_with fail
                      refine (unhide HPF).mono ?_
                      rintro e w9 ⟨ao9, cap9, rfl, b9⟩
                      have HB9 := hide b9
                      clear b9
                      go_wp2
                      go_ret
                      exact ⟨rfl, unhide HB9⟩

set_option maxRecDepth 100000 in
theorem Keeps.lifted (os : Os) (started : os.Started) (H : Type) (enc : TypeId × Value → H) :
    ReturnsInHanded {} Try.checked os 4 .any (Rows.blockdevKeepsSpec.pre6 enc Try.prog Try.f4 Rows.blockdevKeepsRow.domain false) (Rows.blockdevKeepsSpec.post enc Try.prog Try.f4 false true false false) := by
  refine returnsInHanded_of_change (C := Try.checked) own_knob started (by kernel_rfl) Try.func4
    (ChangeSpec.witness6 (enc := enc) (C := Try.checked) false ⟨#[], #[.slice none 0 0, .slice none 0 0, .slice none 0 0], []⟩ 8 (by kernel_rfl) (by kernel_rfl) (by kernel_rfl) (by kernel_rfl)) ?_
  intro W base args ds gs before hval0 hW hcnd _
  have hval : ∀ (j : Nat) t v, Try.f4.params[j]? = some t → args[j]? = some v → Value.okWide Try.prog W .any base t v := hval0
  have hW' := hW
  obtain ⟨p, q, hA0, hV, rfl, hfz, hnd⟩ := hW
  have hA : DataW.TrodAll enc Try.prog W 0 (fun _ => true) true Try.f4.params.toList args.toList ds p := hA0
  rw [Try.params4] at hA hval
  obtain ⟨v0, v1, v2, d0, d1, d2, p0, p1, p2, rfl, rfl, rfl, h0, h1, h2⟩ := trodAll_three hA
  obtain ⟨rfl, rfl⟩ := trodVars_none hV
  have k0 := h0
  have lt0 : ∀ x ∈ p0, x.block < W.heap.size := by obtain ⟨m, hm⟩ := k0; exact DataW.trod_lt m _ _ _ hm
  have k1 := h1
  have lt1 : ∀ x ∈ p1, x.block < W.heap.size := by obtain ⟨m, hm⟩ := k1; exact DataW.trod_lt m _ _ _ hm
  have k2 := h2
  have lt2 : ∀ x ∈ p2, x.block < W.heap.size := by obtain ⟨m, hm⟩ := k2; exact DataW.trod_lt m _ _ _ hm
  obtain ⟨a0, len0, cap0, rfl⟩ := okWide_slice Try.underlying22 (hval 0 22 v0 rfl rfl)
  obtain ⟨a1, len1, cap1, rfl⟩ := okWide_slice Try.underlying22 (hval 1 22 v1 rfl rfl)
  obtain ⟨a2, len2, cap2, rfl⟩ := okWide_slice Try.underlying35 (hval 2 35 v2 rfl rfl)
  obtain ⟨l1, hl1⟩ := open_calls h0
  obtain ⟨l2, hl2⟩ := open_calls h1
  obtain ⟨ps, hps⟩ := open_intl h2
  have hpo : ps ≠ [] → ∀ pb, (Value.slice a2 len2 cap2).ownBlock = some pb → pb < W.heap.size := by
    obtain ⟨ao, cp, e, _, _, hc⟩ := hps
    cases e
    intro hne pb hpb
    obtain ⟨pb', off, e', hlt, _⟩ := hc hne
    subst e'
    cases hpb
    exact hlt
  clear hA0 hval0
  refine (Keeps.walk _ _ _ l1 l2 ps W hl1 hl2 hps hpo).mono fun e W' ⟨he, bel⟩ => ?_
  subst he
  exact ⟨_, rfl, _, _, _, [], _, [], hW', trodAll_mk1 (shut_bool Try.underlying4 _), (trodAll_cons_mk (Below.trod laid_out (by kernel_rfl) (of_decide_eq_true (by kernel_rfl)) k0 bel lt0) (trodAll_cons_mk (Below.trod laid_out (by kernel_rfl) (of_decide_eq_true (by kernel_rfl)) k1 bel lt1) (trodAll_cons_mk (Below.trod laid_out (by kernel_rfl) (of_decide_eq_true (by kernel_rfl)) k2 bel lt2) trodAll_mk0))), rfl, bel.frame _, fun h => by cases h⟩

theorem blockdevKeeps_holds : Rows.BlockdevKeepsSaid :=
  OpenClaim.holds_of_wide 4 Try.f4 rfl rfl rfl rfl rfl rfl rfl ⟨rfl, rfl, rfl, rfl, rfl⟩ rfl rfl rfl rfl rfl (by kernel_rfl) Try.func4 (by kernel_rfl)
    (of_decide_eq_true (by kernel_rfl)) (by unfold Func.isWrapper; first | (rw [if_pos (by decide +kernel)]; kernel_rfl) | (rw [if_neg (by decide +kernel)]; exact ⟨rfl, rfl⟩))
    (fun os started H enc _ => Keeps.lifted os started H enc)
#print axioms blockdevKeeps_holds
end Go.Proofs.Ytdcggplmoiodjaa
