/-
  DERIVED. Open; a log and its device at a point of a law.
-/
import Derived.Test.YtfnhhjpebilacaaGreatM5
import Derived.Test.YtfnhhjpebilacaaGreatM4
import Derived.Test.YtfnhhjpebilacaaGreatM3
namespace Go.Proofs.YtfnhhjpebilacaaGreat
open Go.RowKit
set_option linter.unusedVariables false
set_option maxRecDepth 20000

theorem wait_alike (S : St) (size : Int) : (S.waitJ size).1.2.safe = S.safe ∧ (S.waitJ size).1.2.pend = S.pend := by
  unfold St.waitJ
  split
  · split
    · split
      · obtain ⟨h1, h2⟩ := rds_alike S.burn.burn _
        exact ⟨h1, h2⟩
      · exact ⟨rfl, rfl⟩
    · exact ⟨rfl, rfl⟩
  · exact ⟨S.halted_safe, S.halted_pend⟩
theorem wait_rcd (S : St) (size : Int) (k : Nat) : (S.waitJ size).1.2.rcd k = S.rcd k := by
  obtain ⟨h1, h2⟩ := wait_alike S size
  have hn : ∀ n, (S.waitJ size).1.2.newest n = S.newest n := fun n => by unfold St.newest; rw [h1, h2]
  exact St.rcd_of (hn k) (hn (k + 1))
theorem wait_in (S : St) (size : Int) : ∀ p ∈ (S.waitJ size).2, (p.1 : Int) < size := by
  unfold St.waitJ
  split
  · split
    · split
      · rename_i ns hb
        intro p hp
        split at hp
        · have h1 : p.1 ∈ (partsF S 2 ns).map (·.1) := List.mem_map_of_mem hp
          rw [partsF_fst] at h1
          exact (blkB_is _ _ _ hb).2 _ h1
        · cases hp
      · intro p hp; cases hp
    · intro p hp; cases hp
  · intro p hp; cases hp

/-- A log and its device, at a point of a law that began in w0. -/
structure LAt (w0 w : World) (b lb N : Nat) (F : Nat → Prop) (S : St) (dn : Bool) : Prop where
  run : Run w0 w b N F S
  log : LogAt w lb b ((S.safe.length - 20 : Nat) : Int) dn
  lo : w0.heap.size ≤ lb
  off : ¬ F lb
theorem Run.devB {w0 w : World} {b N : Nat} {F : Nat → Prop} {S : St} (h : Run w0 w b N F S) : DevB w b w0.heap.size F N S := ⟨h.dev, h.foot, h.bel.size⟩
theorem Run.went {w0 w w' : World} {b N M : Nat} {F : Nat → Prop} {S T : St} (h : Run w0 w b N F S) (hw : Went w w' b w0.heap.size F M T) : ∃ F', Run w0 w' b M F' T ∧ (∀ j, F' j → F j ∨ w.heap.size ≤ j) := by
  obtain ⟨k1, F', f1, f2, f3⟩ := hw
  exact ⟨F', h.of f3 f1 k1, f2⟩
/-- What an operation of a log has come to. -/
def LW (w0 w w' : World) (b lb : Nat) (F : Nat → Prop) (M : Nat) (T : St) (dn : Bool) : Prop :=
  ∃ F', LAt w0 w' b lb M F' T dn ∧ (∀ j, F' j → F j ∨ w.heap.size ≤ j) ∧ Kept (fun j => F j ∨ j = lb) w w'
theorem LAt.off' {w0 w : World} {b lb N : Nat} {F : Nat → Prop} {S : St} {dn : Bool} (h : LAt w0 w b lb N F S dn) : Off w F lb := ⟨h.log.lt, h.off⟩
theorem LAt.went {w0 w w' : World} {b lb N M : Nat} {F : Nat → Prop} {S T : St} {dn : Bool} (h : LAt w0 w b lb N F S dn) (hw : Went w w' b w0.heap.size F M T) (hl : T.safe.length = S.safe.length) : LW w0 w w' b lb F M T dn := by
  obtain ⟨F', r', f2⟩ := h.run.went hw
  refine ⟨F', ⟨r', ?_, h.lo, fun hf => (f2 lb hf).elim h.off fun h2 => by have := h.log.lt; omega⟩, f2, hw.1.mono fun j _ hj => .inl hj⟩
  rw [hl]
  exact h.log.of (hw.block lb h.log.lt h.off)
theorem LAt.setDown {w0 w : World} {b lb N : Nat} {F : Nat → Prop} {S : St} {dn : Bool} (h : LAt w0 w b lb N F S dn) (x : Bool) : LAt w0 (w.setCell ⟨lb, 2, none⟩ (.bool x)) b lb N F S x := by
  have ho := (Only.refl lb w).set 2 (.bool x)
  refine ⟨⟨h.run.dev.frame fun k hk _ => ho.other k fun e => h.off (e ▸ hk), fun j hj => by rw [ho.size]; exact h.run.foot j hj, h.run.bel.trans (ho.below _ h.lo)⟩, h.log.setDown x, h.lo, h.off⟩
theorem LW.setDown {w0 w w' : World} {b lb : Nat} {F : Nat → Prop} {M : Nat} {T : St} {dn : Bool} (h : LW w0 w w' b lb F M T dn) (x : Bool) : LW w0 w (w'.setCell ⟨lb, 2, none⟩ (.bool x)) b lb F M T x := by
  obtain ⟨F', l', f2, k⟩ := h
  exact ⟨F', l'.setDown x, f2, k.trans (Kept.of_only ((Only.refl lb w').set 2 (.bool x)) (.inr rfl))⟩
theorem LW.mono {w0 w w' : World} {b lb : Nat} {F : Nat → Prop} {M M2 : Nat} {T : St} {dn : Bool} (h : LW w0 w w' b lb F M T dn) (hM : M ≤ M2) : LW w0 w w' b lb F M2 T dn := by
  obtain ⟨F', l', f2, k⟩ := h
  exact ⟨F', ⟨⟨l'.run.dev.mono (fun _ h => h) hM, l'.run.foot, l'.run.bel⟩, l'.log, l'.lo, l'.off⟩, f2, k⟩
theorem Went.drop {w w' : World} {b base : Nat} {F : Nat → Prop} {M : Nat} {T : St} (h : KD w w' b F M T) (hf : ∀ j, F j → base ≤ j ∧ j < w.heap.size) : Went w w' b base F M T :=
  ⟨h.1, F, fun j hj => by have := hf j hj; have := h.1.size; omega, fun j hj => .inl hj, h.2⟩

/-- What Open comes to. -/
def OpenPost (w0 w : World) (b : Nat) (F : Nat → Prop) (N : Nat) (r : Int × St) (e : Ending) (w' : World) : Prop :=
  (r.1 = 0 ∧ ∃ lb F', e = .returned (.tuple #[.pointer (some ⟨lb, 0, none⟩), .int .i64 0]) ∧ w.heap.size ≤ lb ∧ LAt w0 w' b lb (N + 100) F' r.2 false ∧ (∀ j, F' j → F j ∨ w.heap.size ≤ j) ∧ Kept F w w') ∨
  (r.1 ≠ 0 ∧ e = .returned (.tuple #[.pointer none, .int .i64 r.1]) ∧ ∃ F', Run w0 w' b (N + 100) F' r.2 ∧ (∀ j, F' j → F j ∨ w.heap.size ≤ j) ∧ Kept F w w')
theorem settle_len (S : St) (ps : List (Nat × List UInt8)) : (S.settleJ ps).2.safe.length = S.safe.length := by
  have hfl : ∀ T : St, (T.fl).2.safe.length = T.safe.length := fun T => by
    unfold St.fl
    split
    · rfl
    split
    · exact St.flushed_len _
    · rfl
  have h1 : ∀ (p : Int × St), (thn p St.fl).2.safe.length = p.2.safe.length := fun p => by
    unfold thn
    split
    · exact hfl _
    · rfl
  have hst : ∀ (T : St) d, (T.store 0 d).2.safe.length = T.safe.length := fun T d => by
    unfold St.store
    split
    · split
      · unfold St.putF
        split
        · split
          · exact St.flushed_len _
          · rfl
        · rfl
      · rfl
    · exact congrArg _ T.halted_safe
  have h2 : ∀ (p : Int × St) d, (thn p (fun T => T.store 0 d)).2.safe.length = p.2.safe.length := fun p d => by
    unfold thn
    split
    · exact hst _ _
    · rfl
  unfold St.settleJ
  split
  · rw [h1, wrs_len]
  · rw [h2, h1, wrs_len]

set_option maxHeartbeats 4000000 in
theorem Open_go {w0 w : World} {b N : Nat} {F : Nat → Prop} {S : St} (h : Run w0 w b N F S) (hN : N < 500000) (hc : (S.rcd 0).count < 9223372036854775807) :
    Calls Tryz.prog 19 #[.pointer (some ⟨b, 0, none⟩)] w (OpenPost w0 w b F N (S.openJ ((S.safe.length - 20 : Nat) : Int))) := by
  obtain ⟨hl1, hl2, _, _⟩ := h.devB.len
  have hFs : ∀ j, F j → j < w.heap.size := fun j hj => (h.foot j hj).2
  have BD : Hid (Calls Tryz.prog 40 #[.pointer (some ⟨b, 0, none⟩)] w fun e w' => e = .returned (.int .i64 (S.safe.length : Nat)) ∧ w = w') := hide (by
    obtain ⟨g, c, m, vf, D, h0⟩ := h.dev
    exact Blocks_dev h0.dev)
  obtain ⟨size, hsz⟩ : ∃ size, size = ((S.safe.length - 20 : Nat) : Int) := ⟨_, rfl⟩
  have hwr : IntKind.i64.wrap (((S.safe.length : Nat) : Int) - 20) = size := by rw [IntKind.wrap_i64]; omega
  rw [← hsz]
  obtain ⟨W1, hW1⟩ : ∃ W1, W1 = w.alloc (.cells #[.pointer (some ⟨b, 0, none⟩), .int .i64 size, .bool false] 72) := ⟨_, rfl⟩
  have z1 : W1.heap.size = w.heap.size + 1 := by rw [hW1]; simp
  have hB1 : Below w.heap.size w W1 := by rw [hW1]; exact (Below.refl _ _).alloc (Nat.le_refl _) _
  have hlog1 : LogAt W1 w.heap.size b size false := ⟨by rw [hW1]; exact heap_alloc_self _ _⟩
  have hoff : ¬ F w.heap.size := fun hf => by have := hFs _ hf; omega
  have H1 := hide (h.grown hB1)
  have HB1 := hide hB1
  have HL1 := hide hlog1
  have WT := hide (waiting_go (h.grown hB1).devB (by omega) w.heap.size size (by omega) hlog1.c0 hlog1.c1 ⟨by omega, hoff⟩)
  have hsz2 : size ≤ 512 := by omega
  have HSZ := hide hsz
  clear hB1 hlog1 hsz
  have HH := hide h
  clear h
  go_enter Tryz.func19, Tryz.ntmps19
  go_wp2_with fail
  refine (unhide BD).mono ?_
  rintro e w1 ⟨rfl, rfl⟩
  go_wp2_with fail
  rw [← hW1]
  clear hW1
  refine (unhide WT).mono ?_
  rintro e w2 ⟨hk2, v, rfl, hv⟩
  have K2 := hide hk2
  have z2 := hk2.1.size
  by_cases h0 : (S.waitJ size).1.1 = 0
  · obtain ⟨hp2, hvF⟩ := hv h0
    have HO : Hid (S.openJ size = (S.waitJ size).1.2.settleJ (S.waitJ size).2) := hide (by unfold St.openJ thn; rw [if_pos h0])
    have hlog2 : LogAt w2 w.heap.size b size false := (unhide HL1).of (hk2.1.block _ (by omega) hoff)
    have hD2 : DevB w2 b w0.heap.size F (N + 40) (S.waitJ size).1.2 := ⟨hk2.2, fun j hj => by have := (unhide HH).foot j hj; omega, by have := (unhide HH).bel.size; omega⟩
    have hlen2 : (S.waitJ size).1.2.safe.length = S.safe.length := congrArg _ (wait_alike S size).1
    have ST := hide (settle_go hD2 (by omega) (by rw [wait_rcd]; exact hc) w.heap.size v (S.waitJ size).2 hp2 (fun g hg hf => by have := hvF g hg; have := hFs g hf; omega) (fun p hp => by rw [hlen2]; have := wait_in S size p hp; have := unhide HSZ; omega) hlog2.c0 ⟨by omega, hoff⟩)
    have HL2 := hide hlog2
    clear hk2 hv hp2 hvF hlog2 hD2
    obtain ⟨T, hT⟩ : ∃ T, T = (S.waitJ size).1.2.settleJ (S.waitJ size).2 := ⟨_, rfl⟩
    rw [← hT] at ST HO
    have HLN : Hid (T.2.safe.length = S.safe.length) := hide (by rw [hT, settle_len]; exact hlen2)
    rw [h0]
    clear hT hlen2 h0
    go_wp2_with fail
    refine (unhide ST).mono ?_
    rintro e w3 ⟨rfl, hw3⟩
    have HW3 := hide hw3
    clear hw3
    have HR : Hid (∃ F', Run w0 w3 b (N + 100) F' T.2 ∧ (∀ j, F' j → F j ∨ w2.heap.size ≤ j) ∧ Kept F w w3) := hide (by
      have hr2 : Run w0 w2 b (N + 40) F (S.waitJ size).1.2 := (unhide H1).of (unhide K2).2 (fun j hj => by have := (unhide HH).foot j hj; omega) (unhide K2).1
      obtain ⟨F', r3, f3⟩ := hr2.went (unhide HW3)
      exact ⟨F', r3, f3, ((Kept.of_below (unhide HB1)).trans (unhide K2).1).trans (unhide HW3).1⟩)
    by_cases ht : T.1 = 0
    · have HF : Hid (OpenPost w0 w b F N (S.openJ size) (.returned (.tuple #[.pointer (some ⟨w.heap.size, 0, none⟩), .int .i64 0])) w3) := hide (by
        rw [unhide HO]
        obtain ⟨F', r3, f3, k3⟩ := unhide HR
        refine .inl ⟨ht, w.heap.size, F', rfl, Nat.le_refl _, ⟨r3, ?_, (unhide HH).bel.size, fun hf => (f3 _ hf).elim hoff fun h => by omega⟩, fun j hj => (f3 j hj).imp id fun h => by omega, k3⟩
        rw [unhide HLN, ← unhide HSZ]
        exact (unhide HL2).of ((unhide HW3).block _ (by omega) hoff))
      rw [ht]
      go_wp2
      go_ret2
      exact unhide HF
    · have HF : Hid (OpenPost w0 w b F N (S.openJ size) (.returned (.tuple #[.pointer none, .int .i64 T.1])) w3) := hide (by
        rw [unhide HO]
        obtain ⟨F', r3, f3, k3⟩ := unhide HR
        exact .inr ⟨ht, rfl, F', r3, fun j hj => (f3 j hj).imp id fun h => by omega, k3⟩)
      have hb : (T.1 == 0) = false := beq_eq_false_iff_ne.2 ht
      obtain ⟨t, htt⟩ : ∃ t, t = T.1 := ⟨_, rfl⟩
      rw [← htt] at HF hb ⊢
      clear htt ht HR ST HW3
      go_wp2
      go_ret2
      exact unhide HF
  · have HF : Hid (OpenPost w0 w b F N (S.openJ size) (.returned (.tuple #[.pointer none, .int .i64 (S.waitJ size).1.1])) w2) := hide (by
      have e : S.openJ size = (S.waitJ size).1 := by unfold St.openJ thn; rw [if_neg h0]
      rw [e]
      have hr2 : Run w0 w2 b (N + 40) F (S.waitJ size).1.2 := (unhide H1).of hk2.2 (fun j hj => by have := (unhide HH).foot j hj; omega) hk2.1
      exact .inr ⟨h0, rfl, F, ⟨hr2.dev.mono (fun _ h => h) (by omega), hr2.foot, hr2.bel⟩, fun j hj => .inl hj, (Kept.of_below (unhide HB1)).trans hk2.1⟩)
    have hb : ((S.waitJ size).1.1 == 0) = false := beq_eq_false_iff_ne.2 h0
    obtain ⟨t, htt⟩ : ∃ t, t = (S.waitJ size).1.1 := ⟨_, rfl⟩
    rw [← htt] at HF hb ⊢
    clear htt h0 hv hk2
    go_wp2
    go_ret2
    exact unhide HF
end Go.Proofs.YtfnhhjpebilacaaGreat

/-
  DERIVED. Commit.
-/
namespace Go.Proofs.YtfnhhjpebilacaaGreat
open Go.RowKit
set_option linter.unusedVariables false
set_option maxRecDepth 20000

set_option maxHeartbeats 4000000 in
theorem commit1_go {w : World} {b base : Nat} {F : Nat → Prop} {N : Nat} {S : St} (h : DevB w b base F N S) (hN : N < 600000) (hc : (S.rcd 0).count < 9223372036854775807) (xl xp lb : Nat) (v : Value) (ps : List (Nat × List UInt8)) (hv : Pts w v ps) (hvF : OffV F v)
    (cl : w.cell? ⟨xl, 0, none⟩ = some (.pointer (some ⟨lb, 0, none⟩))) (cp : w.cell? ⟨xp, 0, none⟩ = some v) (cd : w.cell? ⟨lb, 0, none⟩ = some (.pointer (some ⟨b, 0, none⟩))) (od : Off w F lb) :
    Calls Tryz.prog 31 #[.pointer (some ⟨xl, 0, none⟩), .pointer (some ⟨xp, 0, none⟩)] w fun e w' => e = .returned (.int .i64 (S.layJ ps).1) ∧ Went w w' b base F (N + 60) (S.layJ ps).2 := by
  have LG := hide (lay_go h hN hc lb v ps hv hvF cd od)
  clear h hv cd hvF
  go_enter Tryz.func31, Tryz.ntmps31
  go_wp2_with fail
  refine (unhide LG).mono ?_
  rintro e w' ⟨rfl, hw⟩
  have HW := hide hw
  clear hw
  go_wp2
  go_ret
  exact ⟨rfl, unhide HW⟩
set_option maxHeartbeats 4000000 in
theorem commit2_go {w : World} {b base : Nat} {F : Nat → Prop} {N : Nat} {S : St} (h : DevB w b base F N S) (hN : N < 600000) (hc : (S.rcd 0).count < 9223372036854775807) (xl xp lb : Nat) (v : Value) (ps : List (Nat × List UInt8)) (hv : Pts w v ps) (hvF : OffV F v) (hin : ∀ p ∈ ps, p.1 + 20 < S.safe.length)
    (cl : w.cell? ⟨xl, 0, none⟩ = some (.pointer (some ⟨lb, 0, none⟩))) (cp : w.cell? ⟨xp, 0, none⟩ = some v) (cd : w.cell? ⟨lb, 0, none⟩ = some (.pointer (some ⟨b, 0, none⟩))) (od : Off w F lb) :
    Calls Tryz.prog 33 #[.pointer (some ⟨xl, 0, none⟩), .pointer (some ⟨xp, 0, none⟩)] w fun e w' => e = .returned (.int .i64 (S.settleJ ps).1) ∧ Went w w' b base F (N + 60) (S.settleJ ps).2 := by
  have LG := hide (settle_go h hN hc lb v ps hv hvF hin cd od)
  clear h hv cd hvF hin
  go_enter Tryz.func33, Tryz.ntmps33
  go_wp2_with fail
  refine (unhide LG).mono ?_
  rintro e w' ⟨rfl, hw⟩
  have HW := hide hw
  clear hw
  go_wp2
  go_ret
  exact ⟨rfl, unhide HW⟩

/-- Blocks to be written, as they came in: places, and bytes. -/
def Wrs (w : World) (v : Value) (ws : List (Int × List UInt8)) : Prop :=
  ∃ ao cap, v = .slice ao ws.length cap ∧ ws.length ≤ cap ∧ cap ≤ 9223372036854775807 ∧ (∀ p ∈ ws, p.2.length = 512 ∧ -9223372036854775808 ≤ p.1 ∧ p.1 ≤ 9223372036854775807) ∧
    (ws.length ≠ 0 → ∃ g off, ao = some ⟨g, off, none⟩ ∧ g < w.heap.size ∧ ∀ i, (h : i < ws.length) → ∃ a c, w.cell? ⟨g, off + i * 2, none⟩ = some (.int .i64 ws[i].1) ∧ w.cell? ⟨g, off + i * 2 + 1, none⟩ = some (.slice a 512 c) ∧ Sl w (.slice a 512 c) ws[i].2)
theorem Wrs.below {B : Nat} {w w' : World} {v : Value} {ws : List (Int × List UInt8)} (h : Wrs w v ws) (hb : Below B w w') (hB : w.heap.size ≤ B) : Wrs w' v ws := by
  obtain ⟨ao, cap, e, h1, h2, h3, h4⟩ := h
  refine ⟨ao, cap, e, h1, h2, h3, fun hn => ?_⟩
  obtain ⟨g, off, e2, hg, hc⟩ := h4 hn
  refine ⟨g, off, e2, Nat.lt_of_lt_of_le hg hb.size, fun i hi => ?_⟩
  obtain ⟨a, c, c1, c2, s⟩ := hc i hi
  exact ⟨a, c, (hb.cell (p := ⟨g, off + i * 2, none⟩) (by show g < B; omega)).trans c1, (hb.cell (p := ⟨g, off + i * 2 + 1, none⟩) (by show g < B; omega)).trans c2, s.below hb hB⟩
/-- They are blocks of the log. -/
def okW (size : Int) (ws : List (Int × List UInt8)) : Prop := ∀ p ∈ ws, 0 ≤ p.1 ∧ p.1 < size
instance (size : Int) (ws : List (Int × List UInt8)) : Decidable (okW size ws) := by unfold okW; infer_instance
def prtW (ws : List (Int × List UInt8)) : List (Nat × List UInt8) := ws.map fun p => (p.1.toNat, p.2)
def uptoL (qs : List (Nat × List UInt8)) (j : Nat) : List (Nat × List UInt8) := qs.take j ++ List.replicate (qs.length - j) zeroP
theorem uptoL_len (qs : List (Nat × List UInt8)) (j : Nat) (h : j ≤ qs.length) : (uptoL qs j).length = qs.length := by
  unfold uptoL
  rw [List.length_append, List.length_take, List.length_replicate]
  omega
theorem uptoL_at (qs : List (Nat × List UInt8)) (j : Nat) (h : j < qs.length) : (uptoL qs j)[j]? = some zeroP := by
  unfold uptoL
  rw [List.getElem?_append_right (by rw [List.length_take]; omega), List.length_take, List.getElem?_replicate, if_pos (by omega)]
theorem uptoL_set (qs : List (Nat × List UInt8)) (j : Nat) (h : j < qs.length) : (uptoL qs j).set j qs[j] = uptoL qs (j + 1) := by
  have hl : (qs.take j).length = j := by rw [List.length_take]; omega
  unfold uptoL
  rw [List.take_succ_eq_append_getElem h, show qs.length - j = (qs.length - (j + 1)) + 1 by omega, List.replicate_succ]
  have := set_append_at (qs.take j) zeroP qs[j] (List.replicate (qs.length - (j + 1)) zeroP)
  rw [hl] at this
  rw [this, List.append_assoc]
  rfl
theorem uptoL_full (qs : List (Nat × List UInt8)) : uptoL qs qs.length = qs := by
  unfold uptoL
  rw [Nat.sub_self, List.replicate_zero, List.append_nil, List.take_of_length_le (Nat.le_refl _)]
theorem uptoL_wide {qs : List (Nat × List UInt8)} (h : WideP qs) (j : Nat) : WideP (uptoL qs j) := by
  intro p hp
  rcases List.mem_append.1 hp with hp | hp
  · exact h p (List.mem_of_mem_take hp)
  · rw [List.eq_of_mem_replicate hp]
    exact List.length_replicate
theorem lay_len2 (S : St) (ps : List (Nat × List UInt8)) : (S.layJ ps).2.safe.length = S.safe.length := by
  have hfl : ∀ T : St, (T.fl).2.safe.length = T.safe.length := fun T => by
    unfold St.fl
    split
    · rfl
    split
    · exact St.flushed_len _
    · rfl
  have h1 : ∀ (p : Int × St), (thn p St.fl).2.safe.length = p.2.safe.length := fun p => by
    unfold thn
    split
    · exact hfl _
    · rfl
  have hst : ∀ (T : St) d, (T.store 0 d).2.safe.length = T.safe.length := fun T d => by
    unfold St.store
    split
    · split
      · unfold St.putF
        split
        · split
          · exact St.flushed_len _
          · rfl
        · rfl
      · rfl
    · exact congrArg _ T.halted_safe
  unfold St.layJ
  generalize hq : thn (wrsP (0, S) (layX 2 ps)) St.fl = q
  have hq2 : q.2.safe.length = S.safe.length := by rw [← hq, h1, wrs_len]
  unfold thn
  split
  · rw [hst]; exact hq2
  · exact hq2
theorem commit_len (S : St) (ps : List (Nat × List UInt8)) : (S.commitJ ps).2.safe.length = S.safe.length := by
  unfold St.commitJ
  split
  · exact settle_len _ _
  · unfold thn
    split
    · rw [settle_len, lay_len2]
    · exact lay_len2 _ _
/-- What a commit answers, of a log whose device is up. -/
def comE (S : St) (ws : List (Int × List UInt8)) : Int × St :=
  if 16 < ws.length then (43, S) else if okW ((S.safe.length - 20 : Nat) : Int) ws then S.commitJ (prtW ws) else (42, S)

set_option maxHeartbeats 8000000 in
theorem Commit_go {w0 w : World} {b lb N : Nat} {F : Nat → Prop} {S : St} (h : LAt w0 w b lb N F S false) (hN : N < 400000) (hd : S.down = false) (hc : (S.rcd 0).count < 9223372036854775807)
    (hc2 : ∀ ps : List (Nat × List UInt8), ps.length ≤ 16 → (S.layJ ps).1 = 0 → ((S.layJ ps).2.rcd 0).count < 9223372036854775807)
    (v : Value) (ws : List (Int × List UInt8)) (hv : Wrs w v ws) :
    Calls Tryz.prog 11 #[.pointer (some ⟨lb, 0, none⟩), v] w fun e w' => e = .returned (.int .i64 (comE S ws).1) ∧ LW w0 w w' b lb F (N + 200) (comE S ws).2 (decide ((comE S ws).1 = 2)) := by
  obtain ⟨hl1, hl2, _, _⟩ := h.run.devB.len
  have hFs : ∀ j, F j → j < w.heap.size := fun j hj => (h.run.foot j hj).2
  obtain ⟨ao, cap, rfl, hv1, hv2, hv3, hv4⟩ := hv
  have hlen : (ws.length : Int) ≤ 9223372036854775807 := by omega
  obtain ⟨size, hsz⟩ : ∃ size, size = ((S.safe.length - 20 : Nat) : Int) := ⟨_, rfl⟩
  have HSZ := hide hsz
  have hlog := h.log
  rw [← hsz] at hlog
  have hlbw : lb < w.heap.size := h.log.lt
  have hxF : ∀ q, w.heap.size ≤ q → ¬ F q := fun q hq hf => by have := hFs _ hf; omega
  obtain ⟨W1, hW1⟩ : ∃ W1, W1 = w.alloc (.cells #[.pointer (some ⟨lb, 0, none⟩)] 25) := ⟨_, rfl⟩
  have z1 : W1.heap.size = w.heap.size + 1 := by rw [hW1]; simp
  have hB1 : Below w.heap.size w W1 := by rw [hW1]; exact (Below.refl _ _).alloc (Nat.le_refl _) _
  have hbl : W1.heap[w.heap.size]? = some (.cells #[.pointer (some ⟨lb, 0, none⟩)] 25 (0, 0)) := by rw [hW1]; exact heap_alloc_self _ _
  have cl1 : W1.cell? ⟨w.heap.size, 0, none⟩ = some (.pointer (some ⟨lb, 0, none⟩)) := (cell_of_row _ _ _ _ _ _ hbl).trans rfl
  have hlog1 : LogAt W1 lb b size false := hlog.of (hB1.block lb hlbw)
  have hdn : W1.cell? ⟨b, 4, none⟩ = some (.bool false) := by
    obtain ⟨g, c, m, vf, D, h0⟩ := (h.run.grown hB1).dev
    have := h0.dev.c4
    rw [hd] at this; exact this
  have UP := hide (up_ok W1 lb b size hlog1 hdn)
  have HB1 := hide hB1
  have HL1 := hide hlog1
  have HH := hide h
  have HBL := hide hbl
  clear hB1 hlog1 hdn h hbl hsz hlog
  by_cases h16 : 16 < ws.length
  · have HF : Hid (LW w0 w W1 b lb F (N + 200) (comE S ws).2 (decide ((comE S ws).1 = 2)) ∧ (comE S ws).1 = 43) := hide (by
      have e : comE S ws = (43, S) := by unfold comE; rw [if_pos h16]
      rw [e]
      exact ⟨((unhide HH).went ((DevB.went (unhide HH).run.devB (M := N + 200) (by omega)).below (unhide HB1)) rfl), rfl⟩)
    have h16' : (16 : Int) < (ws.length : Int) := by omega
    clear hv4 hv3
    obtain ⟨n, hn⟩ : ∃ n, n = ws.length := ⟨_, rfl⟩
    rw [← hn] at h16' hlen ⊢
    clear hn h16 hv1
    go_enter Tryz.func11, Tryz.ntmps11
    go_wp2_with fail
    rw [← hW1]
    clear hW1
    refine (unhide UP).mono ?_
    rintro e w1 ⟨rfl, rfl⟩
    go_wp2
    go_ret
    obtain ⟨f1, f2⟩ := unhide HF
    exact ⟨by rw [f2]; rfl, f1⟩
  · have h16' : ¬ (16 : Int) < (ws.length : Int) := by omega
    obtain ⟨qs, hqs⟩ : ∃ qs, qs = prtW ws := ⟨_, rfl⟩
    have hql : qs.length = ws.length := by rw [hqs]; exact List.length_map _
    have hqw : WideP qs := by
      rw [hqs]
      intro p hp
      obtain ⟨x, hx, rfl⟩ := List.mem_map.1 hp
      exact (hv3 x hx).1
    have HQS := hide hqs
    have mk := run_make_parts W1 ws.length (by omega)
    obtain ⟨W3, hW3⟩ : ∃ W3, W3 = (W1.alloc (.cells (ptsC (List.replicate ws.length zeroP)).toArray 78)).alloc (.cells #[.slice (some ⟨W1.heap.size, 0, none⟩) ws.length ws.length] 75) := ⟨_, rfl⟩
    have z3 : W3.heap.size = w.heap.size + 3 := by rw [hW3]; simp [z1]
    have hB3 : Below W1.heap.size W1 W3 := by rw [hW3]; exact ((Below.refl _ _).alloc (Nat.le_refl _) _).alloc (by simp) _
    have hP3 : PBlk W3 W1.heap.size (List.replicate ws.length zeroP) := by
      unfold PBlk
      rw [hW3, Below.heap_alloc _ _ _ (by simp)]
      exact heap_alloc_self _ _
    have hX3 : W3.heap[w.heap.size + 2]? = some (.cells #[.slice (some ⟨W1.heap.size, 0, none⟩) ws.length ws.length] 75 (0, 0)) := by
      rw [hW3]
      have := heap_alloc_self (W1.alloc (.cells (ptsC (List.replicate ws.length zeroP)).toArray 78)) (.cells #[.slice (some ⟨W1.heap.size, 0, none⟩) ws.length ws.length] 75)
      have e : (W1.alloc (.cells (ptsC (List.replicate ws.length zeroP)).toArray 78)).heap.size = w.heap.size + 2 := by simp [z1]
      rw [e] at this
      exact this
    rw [z1] at mk hW3 hP3 hX3
    have hB : Below w.heap.size w W3 := (unhide HB1).trans (hB3.mono (by omega))
    have hbl3 : W3.heap[w.heap.size]? = some (.cells #[.pointer (some ⟨lb, 0, none⟩)] 25 (0, 0)) := (hB3.block _ (by omega)).trans (unhide HBL)
    have HW4 : Hid (Wrs w (.slice ao ws.length cap) ws) := hide ⟨ao, cap, rfl, hv1, hv2, hv3, hv4⟩
    have HV3 := hide hv3
    obtain ⟨n, hn⟩ : ∃ n, n = ws.length := ⟨_, rfl⟩
    rw [← hn] at h16' hlen mk hW3 hP3 hX3 hql HW4 ⊢
    have HN := hide hn
    have hn16 : n ≤ 16 := by omega
    have hdec : decide ((16 : Int) < (n : Int)) = false := decide_eq_false h16'
    clear hn h16 hv1 hv4 hv3 hqs h16'
    have S0 : Hid (Below w.heap.size w W3 ∧ W3.heap[w.heap.size]? = some (.cells #[.pointer (some ⟨lb, 0, none⟩)] 25 (0, 0)) ∧ W3.heap[w.heap.size + 2]? = some (.cells #[.slice (some ⟨w.heap.size + 1, 0, none⟩) n n] 75 (0, 0)) ∧ PBlk W3 (w.heap.size + 1) (uptoL qs 0)) := hide ⟨hB, hbl3, hX3, by unfold uptoL; rw [List.take_zero, Nat.sub_zero, hql]; exact hP3⟩
    clear hB hbl3 hX3 hP3 hB3
    go_enter Tryz.func11, Tryz.ntmps11
    go_wp2_with fail
    rw [← hW1]
    clear hW1
    refine (unhide UP).mono ?_
    rintro e w1 ⟨rfl, rfl⟩
    go_wp2_with fail
    (try rw [z1])
    rw [← hW3]
    clear hW3 mk
    have HNF : Hid (∀ W, Below w.heap.size w W → Wrs W (.slice ao n cap) ws) := hide fun W hb => (unhide HW4).below hb (Nat.le_refl _)
    obtain ⟨g, hg⟩ : ∃ g, g = w.heap.size + 1 := ⟨_, rfl⟩
    obtain ⟨xp, hxp⟩ : ∃ xp, xp = w.heap.size + 2 := ⟨_, rfl⟩
    obtain ⟨xl, hxl⟩ : ∃ xl, xl = w.heap.size := ⟨_, rfl⟩
    have hxpw : w.heap.size ≤ xp := by omega
    have hgw : w.heap.size ≤ g := by omega
    have hgp : g ≠ xp := by omega
    have hgl : g ≠ xl := by omega
    have S0 : Hid (Below w.heap.size w W3 ∧ W3.heap[xl]? = some (.cells #[.pointer (some ⟨lb, 0, none⟩)] 25 (0, 0)) ∧ W3.heap[xp]? = some (.cells #[.slice (some ⟨g, 0, none⟩) n n] 75 (0, 0)) ∧ PBlk W3 g (uptoL qs 0)) := by
      rw [hxl, hxp, hg]
      exact S0
    have hxp' : w.heap.size + 1 + 1 = xp := hxp.symm
    rw [hxp', ← hg, ← hxl]
    have hxll : xl < W3.heap.size := by omega
    have hxpl : xp < W3.heap.size := by omega
    have hgl3 : g < W3.heap.size := by omega
    have hxlw : w.heap.size ≤ xl := by omega
    clear hxp hg hxl hxp' z1 z3
    go_loopw [24] (fun i wr => ∃ j : Nat, i = .int .i64 (j : Int) ∧ j ≤ n ∧ W3.heap.size ≤ wr.heap.size ∧ Hid (okW size (ws.take j)) ∧ Hid (Below w.heap.size w wr ∧ wr.heap[xl]? = some (.cells #[.pointer (some ⟨lb, 0, none⟩)] 25 (0, 0)) ∧ wr.heap[xp]? = some (.cells #[.slice (some ⟨g, 0, none⟩) n n] 75 (0, 0)) ∧ PBlk wr g (uptoL qs j))) (fun i _ => n - (intOf i).toNat)
    case atStart => exact ⟨0, rfl, by omega, Nat.le_refl _, hide (by intro p hp; simp at hp), S0⟩
    case round =>
      obtain ⟨j, rfl, hj, hzr, HOK, HS⟩ := hrel
      clear S0
      by_cases hlt : j < n
      · have hlt' : (j : Int) < (n : Int) := by omega
        have hjw : j < ws.length := by rw [← unhide HN]; exact hlt
        have hjq : j < qs.length := by rw [hql]; exact hlt
        obtain ⟨hb, xb, pb, hp⟩ := unhide HS
        obtain ⟨ao', cap', e, _, _, _, h4⟩ := unhide HW4
        rw [← unhide HN] at e
        injection e with e1 e2 e3
        clear e2 e3
        obtain ⟨g2, off, hao, hg2, hcells⟩ := h4 (by omega)
        obtain ⟨a, c, c0, c1, sl⟩ := hcells j hjw
        have c0 := (hb.cell (p := ⟨g2, off + j * 2, none⟩) (by show g2 < w.heap.size; exact hg2)).trans c0
        have c1 := (hb.cell (p := ⟨g2, off + j * 2 + 1, none⟩) (by show g2 < w.heap.size; exact hg2)).trans c1
        have hao' : ao = some ⟨g2, off, none⟩ := by rw [e1, hao]
        obtain ⟨h5, r1, r2⟩ := unhide HV3 _ (List.getElem_mem hjw)
        have HOKS : Hid (okW size (ws.take (j + 1)) ↔ okW size (ws.take j) ∧ 0 ≤ (ws[j]).1 ∧ (ws[j]).1 < size) := hide (by
          rw [List.take_succ_eq_append_getElem hjw]
          constructor
          · intro h
            exact ⟨fun p hp => h p (List.mem_append.2 (.inl hp)), h _ (List.mem_append.2 (.inr (List.mem_singleton.2 rfl)))⟩
          · rintro ⟨h1, h2⟩ p hp
            rcases List.mem_append.1 hp with hp | hp
            · exact h1 p hp
            · rw [List.mem_singleton.1 hp]; exact h2)
        have HQ : Hid (qs[j] = ((ws[j]).1.toNat, (ws[j]).2)) := hide (by
          have h1 : qs[j]? = (prtW ws)[j]? := by rw [← unhide HQS]
          rw [List.getElem?_eq_getElem hjq] at h1
          have h2 : (prtW ws)[j]? = some ((ws[j]).1.toNat, (ws[j]).2) := by simp [prtW, hjw]
          exact Option.some.inj (h1.trans h2))
        have HBAD : Hid (¬ (0 ≤ (ws[j]).1 ∧ (ws[j]).1 < size) → ¬ okW size ws) := hide fun h1 h2 => h1 (h2 _ (List.getElem_mem hjw))
        obtain ⟨x, hx⟩ : ∃ x, x = ws[j] := ⟨_, rfl⟩
        rw [← hx] at c0 sl h5 r1 r2 HOKS HQ HBAD
        obtain ⟨x1, L⟩ := x
        simp only at c0 sl h5 r1 r2 HOKS HQ HBAD
        obtain ⟨W6, hW6⟩ : ∃ W6, W6 = wr.alloc (.cells #[.int .i64 x1, .slice a 512 c] 42) := ⟨_, rfl⟩
        have hB6 : Below wr.heap.size wr W6 := by rw [hW6]; exact (Below.refl _ _).alloc (Nat.le_refl _) _
        have hbx : W6.heap[wr.heap.size]? = some (.cells #[.int .i64 x1, .slice a 512 c] 42 (0, 0)) := by rw [hW6]; exact heap_alloc_self _ _
        have hb6 : Below w.heap.size w W6 := hb.trans (hB6.mono hb.size)
        have hlog6 : LogAt W6 lb b size false := (unhide HL1).of (((hb6.block lb hlbw).trans ((unhide HB1).block lb hlbw).symm))
        have CK := hide (check_any W6 lb x1 size a 512 c hlog6.c1)
        have cl6 : W6.cell? ⟨xl, 0, none⟩ = some (.pointer (some ⟨lb, 0, none⟩)) := (cell_of_row _ _ _ _ _ _ ((hB6.block xl (by omega)).trans xb)).trans rfl
        have xb6 := (hB6.block xl (by omega)).trans xb
        have pb6 := (hB6.block xp (by omega)).trans pb
        have hp6 : PBlk W6 g (uptoL qs j) := (hB6.block g (by omega)).trans hp
        have z6 : W6.heap.size = wr.heap.size + 1 := by rw [hW6]; simp
        have cx0 : W6.cell? ⟨wr.heap.size, 0, none⟩ = some (.int .i64 x1) := (cell_of_row _ _ _ _ _ _ hbx).trans rfl
        have cx1 : W6.cell? ⟨wr.heap.size, 1, none⟩ = some (.slice a 512 c) := (cell_of_row _ _ _ _ _ _ hbx).trans rfl
        have cp6 : W6.cell? ⟨xp, 0, none⟩ = some (.slice (some ⟨g, 0, none⟩) n n) := (cell_of_row _ _ _ _ _ _ pb6).trans rfl
        have cl6a := cl6
        rw [hW6] at CK cl6a
        subst hao'
        clear hx hB6 hcells h4 hao e1 hb xb pb hp HS hlog6
        by_cases hbk : 0 ≤ x1 ∧ x1 < size
        · rw [if_neg (fun h => h hbk), if_neg (by simp)] at CK
          have HOK2 : Hid (okW size (ws.take (j + 1))) := hide ((unhide HOKS).2 ⟨unhide HOK, hbk⟩)
          have hwd := uptoL_wide hqw j
          have hul : j < (uptoL qs j).length := by rw [uptoL_len qs j (by omega)]; exact hjq
          have hz : (uptoL qs j)[j] = zeroP := by have := uptoL_at qs j hjq; rw [List.getElem?_eq_getElem hul] at this; exact Option.some.inj this
          have cg : W6.cell? ⟨g, j * 513, none⟩ = some (.int .i64 0) := by
            have := Pts.head (hp6.range hwd j hul)
            rw [hz] at this; exact this
          have fg : W6.frozen? ⟨g, j * 513, none⟩ = false := hp6.froz _
          obtain ⟨m, hm⟩ : ∃ m : Nat, x1 = (m : Int) := ⟨x1.toNat, by omega⟩
          have p7 := hp6.num hwd j hul m
          rw [hz] at p7
          obtain ⟨W7, hW7⟩ : ∃ W7, W7 = W6.setCell ⟨g, j * 513, none⟩ (.int .i64 (m : Int)) := ⟨_, rfl⟩
          rw [← hW7] at p7
          have o7 : Only g W6 W7 := by rw [hW7]; exact (Only.refl g W6).set _ _
          have hw7 : WideP ((uptoL qs j).set j (m, zeroP.2)) := hwd.set j _ List.length_replicate
          have s7 : Sl W7.drew (.slice a 512 c) L := sl.below (hb6.trans (o7.below _ hgw)).drew (Nat.le_refl _)
          obtain ⟨w8, hcp, p8, o8⟩ := PBlk.copy (w := W7.drew) p7 hw7 j (by rw [List.length_set]; exact hul) 3 a c L h5 s7
          have P8 : Hid (PBlk w8 g (uptoL qs (j + 1))) := hide (by
            have e : (m, L) = qs[j] := by rw [unhide HQ, hm]; rfl
            rw [List.getElem_set_self, List.set_set, e, uptoL_set qs j hjq] at p8
            exact p8)
          have O8 : Only g W6 w8 := o7.trans (Only.trans (v := W7.drew) ⟨rfl, fun _ _ => rfl, fun _ _ => (Below.refl _ _).drew⟩ o8)
          have S8 : Hid (Below w.heap.size w w8 ∧ w8.heap[xl]? = some (.cells #[.pointer (some ⟨lb, 0, none⟩)] 25 (0, 0)) ∧ w8.heap[xp]? = some (.cells #[.slice (some ⟨g, 0, none⟩) n n] 75 (0, 0)) ∧ PBlk w8 g (uptoL qs (j + 1))) := hide ⟨hb6.trans (O8.below _ hgw), (O8.other xl (Ne.symm hgl)).trans xb6, (O8.other xp (Ne.symm hgp)).trans pb6, unhide P8⟩
          have z8 : W3.heap.size ≤ w8.heap.size := by rw [O8.size]; omega
          have cp7 : W7.cell? ⟨xp, 0, none⟩ = some (.slice (some ⟨g, 0, none⟩) n n) := (World.cell?_of_block (o7.other xp (Ne.symm hgp))).trans cp6
          have cx7 : W7.cell? ⟨wr.heap.size, 1, none⟩ = some (.slice a 512 c) := (World.cell?_of_block (o7.other wr.heap.size (by omega))).trans cx1
          have cx70 : W7.cell? ⟨wr.heap.size, 0, none⟩ = some (.int .i64 x1) := (World.cell?_of_block (o7.other wr.heap.size (by omega))).trans cx0
          have cp8 : w8.cell? ⟨xp, 0, none⟩ = some (.slice (some ⟨g, 0, none⟩) n n) := (World.cell?_of_block (O8.other xp (Ne.symm hgp))).trans cp6
          have cx8 : w8.cell? ⟨wr.heap.size, 1, none⟩ = some (.slice a 512 c) := (World.cell?_of_block (O8.other wr.heap.size (by omega))).trans cx1
          subst hm
          clear hbk HOK hwd hul hz p7 p8 o7 o8 O8 hw7 s7 P8 HQ HOKS HBAD sl hb6 hp6
          go_wp2_with fail
          rw [← hW6] at CK ⊢
          clear hW6
          refine (unhide CK).mono ?_
          rintro e w7 ⟨rfl, rfl⟩
          go_wp2_with fail
          rw [← hW7]
          clear hW7 cg fg cx0 cx1 cp6 CK hbx
          go_region_held3 (fun w' => w'.cell? ⟨xp, 0, none⟩ = some (.slice (some ⟨g, 0, none⟩) n n) ∧ w'.cell? ⟨wr.heap.size, 1, none⟩ = some (.slice a 512 c))
            (first | exact ⟨cp7, cx7⟩ | exact ⟨cp8, cx8⟩)
            (fail)
          go_wp2
          go_roundw
          case rel => exact ⟨j + 1, by go_num, by omega, z8, HOK2, S8⟩
          case measure => simp [intOf]; omega
        · rw [if_pos hbk] at CK
          have HF : Hid (LW w0 w W6 b lb F (N + 200) (comE S ws).2 (decide ((comE S ws).1 = 2)) ∧ (comE S ws).1 = 42) := hide (by
            have e : comE S ws = (42, S) := by
              unfold comE
              rw [if_neg (by rw [← unhide HN]; omega), if_neg (by rw [← unhide HSZ]; exact unhide HBAD hbk)]
            rw [e]
            exact ⟨((unhide HH).went ((DevB.went (unhide HH).run.devB (M := N + 200) (by omega)).below hb6) rfl), rfl⟩)
          clear hbk HOK HQ HOKS HBAD sl hb6 hp6 xb6 pb6
          go_wp2_with fail
          rw [← hW6] at CK ⊢
          clear hW6
          refine (unhide CK).mono ?_
          rintro e w7 ⟨rfl, rfl⟩
          go_wp2
          go_ret
          obtain ⟨f1, f2⟩ := unhide HF
          exact ⟨by rw [f2]; rfl, f1⟩
      · have hlt' : ¬ (j : Int) < (n : Int) := by omega
        obtain rfl : j = n := by omega
        obtain ⟨hb, xb, pb, hp⟩ := unhide HS
        have hok : okW size ws := by
          have := unhide HOK
          rw [unhide HN, List.take_length] at this
          exact this
        have HCE : Hid (comE S ws = S.commitJ qs) := hide (by
          unfold comE
          rw [if_neg (by rw [← unhide HN]; omega), if_pos (by rw [← unhide HSZ]; exact hok), unhide HQS])
        have hpq : PBlk wr g qs := by
          rw [← hql, uptoL_full] at hp
          exact hp
        have hqin : ∀ p ∈ qs, (p.1 : Int) < size := by
          rw [unhide HQS]
          intro p hp
          obtain ⟨x, hx, rfl⟩ := List.mem_map.1 hp
          have := hok x hx
          simp only
          omega
        have HQI := hide hqin
        have hpts : Pts wr (.slice (some ⟨g, 0, none⟩) j j) qs := by
          have := hpq.pts hqw (by omega) fun p hp => by have := hqin p hp; have := unhide HSZ; omega
          rw [hql] at this
          exact this
        have cp : wr.cell? ⟨xp, 0, none⟩ = some (.slice (some ⟨g, 0, none⟩) j j) := (cell_of_row _ _ _ _ _ _ pb).trans rfl
        obtain ⟨W5, hW5⟩ : ∃ W5, W5 = wr.alloc (.cells #[.int .i64 0] 35) := ⟨_, rfl⟩
        have z5 : W5.heap.size = wr.heap.size + 1 := by rw [hW5]; simp
        have hB5 : Below wr.heap.size wr W5 := by rw [hW5]; exact (Below.refl _ _).alloc (Nat.le_refl _) _
        have hbe : W5.heap[wr.heap.size]? = some (.cells #[.int .i64 0] 35 (0, 0)) := by rw [hW5]; exact heap_alloc_self _ _
        have hb5 : Below w.heap.size w W5 := hb.trans (hB5.mono hb.size)
        have hws := hb.size
        obtain ⟨eb, heb⟩ : ∃ eb, eb = wr.heap.size := ⟨_, rfl⟩
        rw [← heb] at hbe
        have hEF : ¬ F eb := hxF eb (by omega)
        have hebl : eb < W5.heap.size := by omega
        have hbs : w0.heap.size ≤ W5.heap.size := by have := (unhide HH).run.bel.size; omega
        have CH0 : Hid (Chn W5 W5 b w0.heap.size eb F N (0, S)) := hide (Chn.start ((unhide HH).run.devB.grown hb5) hbe)
        have HBX : Hid (∀ W M p, Chn W5 W b w0.heap.size eb F M p → W.cell? ⟨xl, 0, none⟩ = some (.pointer (some ⟨lb, 0, none⟩)) ∧ W.cell? ⟨xp, 0, none⟩ = some (.slice (some ⟨g, 0, none⟩) j j) ∧ W.cell? ⟨lb, 0, none⟩ = some (.pointer (some ⟨b, 0, none⟩)) ∧ Pts W (.slice (some ⟨g, 0, none⟩) j j) qs) := hide fun W M p hch => by
          have bk : ∀ q, q < wr.heap.size → ¬ F q → W.heap[q]? = wr.heap[q]? := fun q hq hf => (hch.block q (by omega) hf (by omega)).trans (hB5.block q hq)
          refine ⟨(cell_of_row _ _ _ _ _ _ ((bk xl (by omega) (hxF _ hxlw)).trans xb)).trans rfl, (cell_of_row _ _ _ _ _ _ ((bk xp (by omega) (hxF _ hxpw)).trans pb)).trans rfl, ?_, ?_⟩
          · rw [World.cell?_of_block ((bk lb (by omega) (unhide HH).off).trans (hb.block lb hlbw))]
            exact (unhide HH).log.c0
          · refine hpts.frame (by have := hch.size; omega) fun g' hg' hlt2 => ?_
            cases hg'
            exact bk g (by omega) (hxF _ hgw)
        have hOffV : ∀ F' : Nat → Prop, (∀ q, F' q → F q ∨ W5.heap.size ≤ q) → OffV F' (.slice (some ⟨g, 0, none⟩) j j) := fun F' hF' g' hg' hf => by
          cases hg'
          exact (hF' g hf).elim (hxF _ hgw) fun h => by omega
        have SEG : ∀ args W, (callFunc 31 args).run Tryz.prog W = .ok (.enter 31 args) W := enters_ok Tryz.func31 (by kernel_rfl) rfl
        have SEG2 : ∀ args W, (callFunc 33 args).run Tryz.prog W = .ok (.enter 33 args) W := enters_ok Tryz.func33 (by kernel_rfl) rfl
        have H1 := hide SEG
        have H2 := hide SEG2
        have HOV := hide hOffV
        clear SEG SEG2 hOffV HOK HS hp hpq hpts hok
        have cl5 : W5.cell? ⟨xl, 0, none⟩ = some (.pointer (some ⟨lb, 0, none⟩)) := (unhide HBX _ _ _ (unhide CH0)).1
        have cp5 : W5.cell? ⟨xp, 0, none⟩ = some (.slice (some ⟨g, 0, none⟩) j j) := (unhide HBX _ _ _ (unhide CH0)).2.1
        have HFIN : Hid (∀ W, Chn W5 W b w0.heap.size eb F (N + 200) (S.commitJ qs) → LogAt W lb b size false ∧ LW w0 w W b lb F (N + 200) (S.commitJ qs).2 false) := hide fun W hch => by
          have hw := hch.went hb5 (by omega)
          have := (unhide HH).went hw (commit_len S qs)
          obtain ⟨F', l', f2, k⟩ := this
          have hl' := l'.log
          rw [commit_len S qs, ← unhide HSZ] at hl'
          exact ⟨hl', F', l', f2, k⟩
        have hxllb : xl ≠ lb := by omega
        have HSEEN : Hid (∀ (W : World) (x : Int), LogAt W lb b size false → W.cell? ⟨xl, 0, none⟩ = some (.pointer (some ⟨lb, 0, none⟩)) → (W.setCell ⟨lb, 2, none⟩ (.bool (false || decide (x = 2)))).cell? ⟨xl, 0, none⟩ = some (.pointer (some ⟨lb, 0, none⟩))) := hide fun W x hl hx => (World.cell?_of_block (((Only.refl lb W).set 2 (.bool (false || decide (x = 2)))).other xl hxllb)).trans hx
        have HST : Hid (∀ W (p : Int × St), (p.1 = 0 → (p.2.rcd 0).count < 9223372036854775807 ∧ p.2.safe.length = S.safe.length) → thn p (fun T => T.settleJ qs) = S.commitJ qs → Chn W5 W b w0.heap.size eb F (N + 100) p → ∀ W2, Below W.heap.size W W2 → Calls Tryz.prog 52 #[.func (.func 33) #[] #[.pointer (some ⟨xl, 0, none⟩), .pointer (some ⟨xp, 0, none⟩)], .pointer (some ⟨eb, 0, none⟩)] W2 fun e w' => e = .returned (.int .i64 (S.commitJ qs).1) ∧ Chn W5 w' b w0.heap.size eb F (N + 200) (S.commitJ qs)) := hide fun W p hp1 hp2 hch W2 hb2 => by
          have hch2 := hch.grown hb2 hebl
          obtain ⟨x1, x2, x3, x4⟩ := unhide HBX _ _ _ hch2
          have hsz2 := hch2.size
          rw [← hp2]
          refine then_chn (M2 := N + 200) hch hb2 hebl hEF hbs (by omega) 33 #[] _ (unhide H2) fun h0 F' hD hF' hF2 => ?_
          refine (commit2_go hD (by omega) (hp1 h0).1 xl xp lb _ qs x4 (unhide HOV F' hF') (fun q hq => ?_) x1 x2 x3 ⟨by omega, fun hf => (hF' lb hf).elim (unhide HH).off fun h => by omega⟩).mono ?_
          · rw [(hp1 h0).2]
            have := unhide HQI q hq
            have := unhide HSZ
            omega
          · rintro e w' ⟨rfl, hw⟩
            exact ⟨rfl, hw.mono (by omega)⟩
        have HHc := hide hc
        have HHc2 := hide hc2
        clear hc hc2 hB5 hbe xb pb hb hb5 hqin
        by_cases hj0 : j = 0
        · have hq0 : qs = [] := List.eq_nil_of_length_eq_zero (by rw [hql]; exact hj0)
          have ST2 : Hid (Calls Tryz.prog 52 #[.func (.func 33) #[] #[.pointer (some ⟨xl, 0, none⟩), .pointer (some ⟨xp, 0, none⟩)], .pointer (some ⟨eb, 0, none⟩)] W5.drew fun e w' => e = .returned (.int .i64 (S.commitJ qs).1) ∧ Chn W5 w' b w0.heap.size eb F (N + 200) (S.commitJ qs)) := hide (unhide HST W5 (0, S) (fun _ => ⟨unhide HHc, rfl⟩) (by rw [thn_ok]; unfold St.commitJ; rw [if_pos hq0]) ((unhide CH0).mono (by omega)) _ (Below.refl _ _).drew)
          have hnl : ¬ (0 : Int) < (j : Int) := by omega
          clear hq0 hj0
          go_wp2_with fail
          refine (chain_any wr).mono ?_
          rintro e w5 ⟨rfl, h5⟩
          rw [← hW5] at h5
          subst h5
          rw [← heb]
          clear hW5 heb
          go_wp2_with fail
          go_region_held3 (fun w' => w'.cell? ⟨xl, 0, none⟩ = some (.pointer (some ⟨lb, 0, none⟩)))
            (first | exact cl5 | exact (unhide HBX _ _ _ hc6).1 | exact unhide HSEEN w6 _ (unhide HFIN w6 hc6).1 (unhide HBX _ _ _ hc6).1)
            (first | (go_at_call 52; refine (unhide ST2).mono ?_; rintro e w6 ⟨rfl, hc6⟩)
                   | (go_at_call 26; refine (seen_any w6 lb b size false _ (unhide HFIN w6 hc6).1).mono ?_; rintro e w7 ⟨rfl, rfl⟩))
          have HR := hide ((unhide HFIN w6 hc6).2.setDown (false || decide ((S.commitJ qs).1 = 2)))
          clear hc6
          go_wp2
          go_ret
          rw [unhide HCE]
          refine ⟨rfl, ?_⟩
          have h9 := unhide HR
          rw [Bool.false_or] at h9
          exact h9
        · have hq0 : qs ≠ [] := fun e => hj0 (by rw [← hql, e]; rfl)
          have HCM : Hid (S.commitJ qs = thn (S.layJ qs) (fun T => T.settleJ qs)) := hide (by unfold St.commitJ; rw [if_neg hq0])
          have ST1 : Hid (Calls Tryz.prog 52 #[.func (.func 31) #[] #[.pointer (some ⟨xl, 0, none⟩), .pointer (some ⟨xp, 0, none⟩)], .pointer (some ⟨eb, 0, none⟩)] W5 fun e w' => e = .returned (.int .i64 (S.layJ qs).1) ∧ Chn W5 w' b w0.heap.size eb F (N + 100) (S.layJ qs)) := hide (by
            obtain ⟨x1, x2, x3, x4⟩ := unhide HBX _ _ _ (unhide CH0)
            refine then_chn (M2 := N + 100) (f := fun T => T.layJ qs) (unhide CH0) (Below.refl _ _) hebl hEF hbs (by omega) 31 #[] _ (unhide H1) fun h0 F' hD hF' hF2 => ?_
            refine (commit1_go hD (by omega) (unhide HHc) xl xp lb _ qs x4 (unhide HOV F' hF') x1 x2 x3 ⟨by omega, fun hf => (hF' lb hf).elim (unhide HH).off fun h => by omega⟩).mono ?_
            rintro e w' ⟨rfl, hw⟩
            exact ⟨rfl, hw.mono (by omega)⟩)
          have hnl : (0 : Int) < (j : Int) := by omega
          clear hq0 hj0
          go_wp2_with fail
          refine (chain_any wr).mono ?_
          rintro e w5 ⟨rfl, h5⟩
          rw [← hW5] at h5
          subst h5
          rw [← heb]
          clear hW5 heb
          go_wp2_with fail
          refine (unhide ST1).mono ?_
          rintro e w8 ⟨rfl, hc8⟩
          have cl8 := (unhide HBX _ _ _ hc8).1
          have ST2 : Hid (Calls Tryz.prog 52 #[.func (.func 33) #[] #[.pointer (some ⟨xl, 0, none⟩), .pointer (some ⟨xp, 0, none⟩)], .pointer (some ⟨eb, 0, none⟩)] w8.drew fun e w' => e = .returned (.int .i64 (S.commitJ qs).1) ∧ Chn w5 w' b w0.heap.size eb F (N + 200) (S.commitJ qs)) := hide (unhide HST w8 (S.layJ qs) (fun h => ⟨unhide HHc2 qs (by rw [hql]; exact hn16) h, lay_len2 S qs⟩) (unhide HCM).symm hc8 _ (Below.refl _ _).drew)
          clear hc8 ST1
          go_wp2_with fail
          go_region_held3 (fun w' => w'.cell? ⟨xl, 0, none⟩ = some (.pointer (some ⟨lb, 0, none⟩)))
            (first | exact cl8 | exact (unhide HBX _ _ _ hc6).1 | exact unhide HSEEN w6 _ (unhide HFIN w6 hc6).1 (unhide HBX _ _ _ hc6).1)
            (first | (go_at_call 52; refine (unhide ST2).mono ?_; rintro e w6 ⟨rfl, hc6⟩)
                   | (go_at_call 26; refine (seen_any w6 lb b size false _ (unhide HFIN w6 hc6).1).mono ?_; rintro e w7 ⟨rfl, rfl⟩))
          have HR := hide ((unhide HFIN w6 hc6).2.setDown (false || decide ((S.commitJ qs).1 = 2)))
          clear hc6
          go_wp2
          go_ret
          rw [unhide HCE]
          refine ⟨rfl, ?_⟩
          have h9 := unhide HR
          rw [Bool.false_or] at h9
          exact h9
end Go.Proofs.YtfnhhjpebilacaaGreat

/-
  DERIVED. Read and Put of a log whose device is up.
-/
namespace Go.Proofs.YtfnhhjpebilacaaGreat
open Go.RowKit
set_option linter.unusedVariables false
set_option maxRecDepth 20000

theorem LAt.upC {w0 w : World} {b lb N : Nat} {F : Nat → Prop} {S : St} {dn : Bool} (h : LAt w0 w b lb N F S dn) : w.cell? ⟨b, 4, none⟩ = some (.bool S.down) := by
  obtain ⟨g, c, m, vf, D, h0⟩ := h.run.dev
  exact h0.dev.c4
theorem rd1_len (S : St) : (S.rd1).2.safe.length = S.safe.length := by
  unfold St.rd1
  split
  · rfl
  split <;> rfl
theorem wr_len (S : St) (x : Nat × List UInt8) : (S.wr x).2.safe.length = S.safe.length := by
  unfold St.wr
  split
  · rfl
  split <;> rfl

/-- What an operation of a log has come to that has only read its device. -/
def LWs (w0 w w' : World) (b lb : Nat) (F : Nat → Prop) (M : Nat) (T : St) (dn : Bool) : Prop := LAt w0 w' b lb M F T dn ∧ Kept (fun j => F j ∨ j = lb) w w'
theorem LAt.wents {w0 w w' : World} {b lb N M : Nat} {F : Nat → Prop} {S T : St} {dn : Bool} (h : LAt w0 w b lb N F S dn) (hk : KD w w' b F M T) (hl : T.safe.length = S.safe.length) : LWs w0 w w' b lb F M T dn := by
  have hs := hk.1.size
  refine ⟨⟨h.run.of hk.2 (fun j hj => by have := h.run.foot j hj; omega) hk.1, ?_, h.lo, h.off⟩, hk.1.mono fun j _ hj => .inl hj⟩
  rw [hl]
  exact h.log.of (hk.1.block lb h.log.lt h.off)
theorem LWs.setDown {w0 w w' : World} {b lb : Nat} {F : Nat → Prop} {M : Nat} {T : St} {dn : Bool} (h : LWs w0 w w' b lb F M T dn) (x : Bool) : LWs w0 w (w'.setCell ⟨lb, 2, none⟩ (.bool x)) b lb F M T x :=
  ⟨h.1.setDown x, h.2.trans (Kept.of_only ((Only.refl lb w').set 2 (.bool x)) (.inr rfl))⟩
set_option maxHeartbeats 4000000 in
/-- A block that there is not. -/
theorem Read_bad {w0 w : World} {b lb N : Nat} {F : Nat → Prop} {S : St} (h : LAt w0 w b lb N F S false) (hd : S.down = false) (n : Int) (hn : ¬ (0 ≤ n ∧ n < ((S.safe.length - 20 : Nat) : Int))) :
    Calls Tryz.prog 8 #[.pointer (some ⟨lb, 0, none⟩), .int .i64 n] w fun e w' => e = .returned (.tuple #[.slice none 0 0, .int .i64 42]) ∧ w' = w := by
  have hu := h.upC
  rw [hd] at hu
  have UP := hide (up_ok w lb b _ h.log hu)
  have OF := offers_any w lb n _ h.log.c1
  rw [decide_eq_false hn] at OF
  have HO := hide OF
  clear h hu OF hn
  go_enter Tryz.func8, Tryz.ntmps8
  go_wp2_with fail
  refine (unhide UP).mono ?_
  rintro e w1 ⟨rfl, rfl⟩
  go_wp2_with fail
  refine (unhide HO).mono ?_
  rintro e w2 ⟨rfl, rfl⟩
  go_wp2
  go_ret2
  exact ⟨rfl, rfl⟩

set_option maxHeartbeats 4000000 in
theorem Read_go {w0 w : World} {b lb N : Nat} {F : Nat → Prop} {S : St} (h : LAt w0 w b lb N F S false) (hd : S.down = false) (hN : N < 800000) (n : Nat) (hn : n < S.safe.length - 20) :
    Calls Tryz.prog 8 #[.pointer (some ⟨lb, 0, none⟩), .int .i64 (n : Int)] w fun e w' => LWs w0 w w' b lb F (N + 2) (S.rd1).2 (decide ((S.rd1).1 = 2)) ∧
      (((S.rd1).1 = 0 ∧ ∃ q, e = .returned (.tuple #[.slice (some ⟨q, 0, none⟩) 512 512, .int .i64 0]) ∧ w.heap.size ≤ q ∧ w'.heap[q]? = some (.cells ((S.newest (20 + n)).map bv).toArray 84 (0, 0)) ∧ (S.newest (20 + n)).length = 512) ∨
       ((S.rd1).1 = 2 ∧ e = .returned (.tuple #[.slice none 0 0, .int .i64 2]))) := by
  have hu := h.upC
  rw [hd] at hu
  obtain ⟨hl1, hl2, _, _⟩ := h.run.devB.len
  have UP := hide (up_ok w lb b _ h.log hu)
  have OF := offers_any w lb (n : Int) _ h.log.c1
  rw [decide_eq_true (by omega)] at OF
  have HO := hide OF
  have RD := hide (Read_kd h.run.dev (20 + n) (by omega) (by omega))
  have hwr : IntKind.i64.wrap (20 + (n : Int)) = ((20 + n : Nat) : Int) := by rw [IntKind.wrap_i64]; omega
  have c0 := h.log.c0
  have HH := hide h
  have hlbw := h.log.lt
  clear h hu OF
  go_enter Tryz.func8, Tryz.ntmps8
  go_wp2_with fail
  refine (unhide UP).mono ?_
  rintro e w1 ⟨rfl, rfl⟩
  go_wp2_with fail
  refine (unhide HO).mono ?_
  rintro e w2 ⟨rfl, rfl⟩
  go_wp2_with fail
  refine (unhide RD).mono ?_
  rintro e w3 ⟨hk3, hh⟩
  have hw : Went w2 w3 b w0.heap.size F (N + 2) (S.rd1).2 := Went.drop hk3 (unhide HH).run.foot
  have hlw : LWs w0 w2 w3 b lb F (N + 2) (S.rd1).2 false := (unhide HH).wents hk3 (rd1_len S)
  have hlg : LogAt w3 lb b ((S.safe.length - 20 : Nat) : Int) false := (unhide HH).log.of (hw.block lb hlbw (unhide HH).off)
  have HLW := hide hlw
  rcases hh with ⟨e0, q, rfl, hq, hrow, h5⟩ | ⟨e2, rfl⟩
  · have HF : Hid (LWs w0 w2 (w3.setCell ⟨lb, 2, none⟩ (.bool (false || decide ((0 : Int) = 2)))) b lb F (N + 2) (S.rd1).2 (decide ((S.rd1).1 = 2)) ∧ (w3.setCell ⟨lb, 2, none⟩ (.bool (false || decide ((0 : Int) = 2)))).heap[q]? = some (.cells ((S.newest (20 + n)).map bv).toArray 84 (0, 0))) := hide ⟨by
        rw [e0]; exact hlw.setDown _, (((Only.refl lb w3).set 2 _).other q (by omega)).trans hrow⟩
    have SN := hide (seen_any w3 lb b _ false 0 hlg)
    clear hk3 hw hlw hlg hrow
    go_wp2_with fail
    refine (unhide SN).mono ?_
    rintro e w4 ⟨rfl, rfl⟩
    go_wp2
    go_ret2
    exact ⟨(unhide HF).1, .inl ⟨e0, q, rfl, hq, (unhide HF).2, h5⟩⟩
  · have HF : Hid (LWs w0 w2 (w3.setCell ⟨lb, 2, none⟩ (.bool (false || decide ((2 : Int) = 2)))) b lb F (N + 2) (S.rd1).2 (decide ((S.rd1).1 = 2))) := hide (by rw [e2]; exact hlw.setDown _)
    have SN := hide (seen_any w3 lb b _ false 2 hlg)
    clear hk3 hw hlw hlg
    go_wp2_with fail
    refine (unhide SN).mono ?_
    rintro e w4 ⟨rfl, rfl⟩
    go_wp2
    go_ret2
    exact ⟨unhide HF, .inr ⟨e2, rfl⟩⟩

/-- What a Put answers ahead of all. -/
def putC (size n : Int) (q : Nat) : Int := if ¬ (0 ≤ n ∧ n < size) then 42 else if q ≠ 512 then 21 else 0
set_option maxHeartbeats 4000000 in
theorem Put_bad {w0 w : World} {b lb N : Nat} {F : Nat → Prop} {S : St} (h : LAt w0 w b lb N F S false) (hd : S.down = false) (n : Int) (a : Option Addr) (q c : Nat) (x : Int) (hx : x = putC ((S.safe.length - 20 : Nat) : Int) n q) (hx0 : x ≠ 0) :
    Calls Tryz.prog 9 #[.pointer (some ⟨lb, 0, none⟩), .int .i64 n, .slice a q c] w fun e w' => e = .returned (.int .i64 x) ∧ w' = w := by
  have hu := h.upC
  rw [hd] at hu
  have UP := hide (up_ok w lb b _ h.log hu)
  have CK := check_any w lb n _ a q c h.log.c1
  change Calls _ _ _ _ (fun e w' => e = .returned (.int .i64 (putC _ n q)) ∧ w' = w) at CK
  rw [← hx] at CK
  have HC := hide CK
  have hb : (x == 0) = false := beq_eq_false_iff_ne.2 hx0
  clear h hu CK hx
  go_enter Tryz.func9, Tryz.ntmps9
  go_wp2_with fail
  refine (unhide UP).mono ?_
  rintro e w1 ⟨rfl, rfl⟩
  go_wp2_with fail
  refine (unhide HC).mono ?_
  rintro e w2 ⟨rfl, rfl⟩
  go_wp2
  go_ret
  exact ⟨rfl, rfl⟩
set_option maxHeartbeats 4000000 in
theorem Put_go {w0 w : World} {b lb N : Nat} {F : Nat → Prop} {S : St} (h : LAt w0 w b lb N F S false) (hd : S.down = false) (hN : N < 800000) (n : Nat) (hn : n < S.safe.length - 20) (a : Option Addr) (c : Nat) (L : List UInt8) (hv : Sl w (.slice a 512 c) L) (hL : L.length = 512) :
    Calls Tryz.prog 9 #[.pointer (some ⟨lb, 0, none⟩), .int .i64 (n : Int), .slice a 512 c] w fun e w' => e = .returned (.int .i64 (S.wr (20 + n, L)).1) ∧ LW w0 w w' b lb F (N + 2) (S.wr (20 + n, L)).2 (decide ((S.wr (20 + n, L)).1 = 2)) := by
  have hu := h.upC
  rw [hd] at hu
  obtain ⟨hl1, hl2, _, _⟩ := h.run.devB.len
  have UP := hide (up_ok w lb b _ h.log hu)
  have CK := check_any w lb (n : Int) _ a 512 c h.log.c1
  rw [if_neg (by omega), if_neg (by simp)] at CK
  have HC := hide CK
  have WD := hide (Write_all h.run.devB (20 + n) L a c (by omega) hv hL (by omega))
  have hwr : IntKind.i64.wrap (20 + (n : Int)) = ((20 + n : Nat) : Int) := by rw [IntKind.wrap_i64]; omega
  have c0 := h.log.c0
  have HH := hide h
  have hlbw := h.log.lt
  obtain ⟨T, hT⟩ : ∃ T, T = S.wr (20 + n, L) := ⟨_, rfl⟩
  have HTL : Hid (T.2.safe.length = S.safe.length) := hide (by rw [hT]; exact wr_len S _)
  rw [← hT] at WD ⊢
  clear h hu CK hv hT
  go_enter Tryz.func9, Tryz.ntmps9
  go_wp2_with fail
  refine (unhide UP).mono ?_
  rintro e w1 ⟨rfl, rfl⟩
  go_wp2_with fail
  refine (unhide HC).mono ?_
  rintro e w2 ⟨rfl, rfl⟩
  go_wp2_with fail
  refine (unhide WD).mono ?_
  rintro e w3 ⟨rfl, hw⟩
  have hlw := (unhide HH).went hw (unhide HTL)
  have hlg : LogAt w3 lb b ((S.safe.length - 20 : Nat) : Int) false := (unhide HH).log.of (hw.block lb hlbw (unhide HH).off)
  have HF := hide (hlw.setDown (false || decide (T.1 = 2)))
  have SN := hide (seen_any w3 lb b _ false T.1 hlg)
  clear hw hlw hlg
  go_wp2_with fail
  refine (unhide SN).mono ?_
  rintro e w4 ⟨rfl, rfl⟩
  go_wp2
  go_ret
  refine ⟨rfl, ?_⟩
  have h9 := unhide HF
  rw [Bool.false_or] at h9
  exact h9
end Go.Proofs.YtfnhhjpebilacaaGreat

/-
  DERIVED. Format.
-/
namespace Go.Proofs.YtfnhhjpebilacaaGreat
open Go.RowKit
set_option linter.unusedVariables false
set_option maxRecDepth 20000

set_option maxHeartbeats 4000000 in
theorem fmt1_go {w : World} {b base : Nat} {F : Nat → Prop} {N : Nat} {S : St} (h : DevB w b base F N S) (hN : N < 600000) (xd : Nat) (cd : w.cell? ⟨xd, 0, none⟩ = some (.pointer (some ⟨b, 0, none⟩))) :
    Calls Tryz.prog 42 #[.pointer (some ⟨xd, 0, none⟩)] w fun e w' => e = .returned (.int .i64 (S.format 0 []).1) ∧ Went w w' b base F (N + 6) (S.format 0 []).2 := by
  have hlen := h.len.1
  have FA := hide (Format_all h 0 (by omega) (by omega) none 0 0 [] ⟨none, 0, rfl, by simp, by simp [maxLen], fun h => absurd rfl h⟩ (fun h => absurd rfl h) (by simp) rfl)
  clear h hlen
  go_enter Tryz.func42, Tryz.ntmps42
  go_wp2_with fail
  refine (unhide FA).mono ?_
  rintro e w' ⟨rfl, hw⟩
  have HW := hide hw
  clear hw
  go_wp2
  go_ret
  exact ⟨rfl, unhide HW⟩
theorem infoU8 : (Tryz.prog.info? 5).map (fun i => (i.zero, i.size, i.bytes)) = some (some (.int .u8 0), 1, 1) := by kernel_rfl
theorem run_make_bytes (w : World) (m : Nat) (hm : m ≤ 512) : (Instr.makeSlice 34 (.int .i64 (m : Int)) (.int .i64 (m : Int))).run Tryz.prog w = .ok (.slice (some ⟨w.heap.size, 0, none⟩) m m) (w.alloc (.cells (List.replicate m (Value.int .u8 0)).toArray 5)) := by
  obtain ⟨i, hi, hh⟩ := Option.map_eq_some_iff.1 infoU8
  simp only [Prod.mk.injEq] at hh
  have h := run_make (P := Tryz.prog) w 34 5 i _ Tryz.underlying34 hi hh.1 .i64 .i64 m m (by omega) (Int.le_refl _) (by rw [hh.2.2]; omega) (by omega)
  rw [h, hh.2.1, Int.toNat_natCast, Nat.mul_one]
  show Result.ok _ (w.alloc (.cells (madeCells #[Value.int .u8 0] m) 5)) = _
  have e : madeCells #[Value.int .u8 0] m = (List.replicate m (Value.int .u8 0)).toArray := by
    apply Array.ext'
    rw [toList_madeCells_one]
  rw [e]
def noB : List UInt8 := List.replicate 512 0
theorem noB_len : noB.length = 512 := List.length_replicate
theorem noB_get (i : Nat) (h : i < noB.length) : noB[i] = 0 := List.eq_of_mem_replicate (List.getElem_mem h)
def noW (w : World) : World := w.alloc (.cells (List.replicate 512 (Value.int .u8 0)).toArray 5)
theorem noW_sl (w : World) : Sl (noW w) (.slice (some ⟨w.heap.size, 0, none⟩) 512 512) noB := by
  have hr : (noW w).heap[w.heap.size]? = some (.cells (List.replicate 512 (Value.int .u8 0)).toArray 5 (0, 0)) := heap_alloc_self _ _
  refine ⟨some ⟨w.heap.size, 0, none⟩, 512, by rw [noB_len], by rw [noB_len]; exact Nat.le_refl _, by unfold maxLen; omega, fun _ => ⟨w.heap.size, 0, rfl, lt_of_block hr, fun i hi => ?_⟩⟩
  rw [noB_len] at hi
  rw [cell_of_row _ _ _ _ _ _ hr, List.getElem?_toArray, List.getElem?_replicate, if_pos (by omega)]
  show some (bv 0) = _
  exact congrArg some (congrArg bv (noB_get i _).symm)
theorem noW_below (w : World) : Below w.heap.size w (noW w) := (Below.refl _ _).alloc (Nat.le_refl _) _
theorem noW_mk (w : World) : (Instr.makeSlice 34 (.int .i64 512) (.int .i64 512)).run Tryz.prog w = .ok (.slice (some ⟨w.heap.size, 0, none⟩) 512 512) (noW w) := run_make_bytes w 512 (Nat.le_refl _)

set_option maxHeartbeats 4000000 in
theorem fmt2_go {w : World} {b base : Nat} {F : Nat → Prop} {N : Nat} {S : St} (h : DevB w b base F N S) (hN : N < 600000) (xd xn k : Nat) (hk : k < S.safe.length) (cd : w.cell? ⟨xd, 0, none⟩ = some (.pointer (some ⟨b, 0, none⟩))) (cn : w.cell? ⟨xn, 0, none⟩ = some (.int .i64 (k : Int))) (od : Off w F xd) (on : Off w F xn) :
    Calls Tryz.prog 44 #[.pointer (some ⟨xd, 0, none⟩), .pointer (some ⟨xn, 0, none⟩)] w fun e w' => e = .returned (.int .i64 (S.wr (k, noB)).1) ∧ Went w w' b base F (N + 2) (S.wr (k, noB)).2 := by
  have hb : Below w.heap.size w (noW w.drew) := (Below.refl _ w).drew.trans (noW_below w.drew)
  have WD := hide (Write_all (h.grown hb) k noB (some ⟨w.heap.size, 0, none⟩) 512 hk (noW_sl w.drew) noB_len (by omega))
  have mk := noW_mk w.drew
  have HB := hide hb
  have HK : Hid (∀ w3 M T, Went w w3 b base F M T → w3.cell? ⟨xd, 0, none⟩ = some (.pointer (some ⟨b, 0, none⟩)) ∧ w3.cell? ⟨xn, 0, none⟩ = some (.int .i64 (k : Int))) := hide fun w3 M T hw => ⟨(hw.cell od).trans cd, (hw.cell on).trans cn⟩
  have HK2 : Hid ((noW w.drew).cell? ⟨xd, 0, none⟩ = some (.pointer (some ⟨b, 0, none⟩)) ∧ (noW w.drew).cell? ⟨xn, 0, none⟩ = some (.int .i64 (k : Int))) := hide ⟨(hb.cell od.1).trans cd, (hb.cell on.1).trans cn⟩
  have hz : w.drew.heap.size = w.heap.size := rfl
  rw [hz] at mk
  clear h hb od on hz
  go_enter Tryz.func44, Tryz.ntmps44
  go_wp2_with fail
  go_region_held3 (fun w' => w'.cell? ⟨xd, 0, none⟩ = some (.pointer (some ⟨b, 0, none⟩)) ∧ w'.cell? ⟨xn, 0, none⟩ = some (.int .i64 (k : Int)))
    (first | exact ⟨cd, cn⟩ | exact unhide HK2 | exact unhide HK _ _ _ hw3)
    (first | (go_at_call 28; refine (unhide WD).mono ?_; rintro e w3 ⟨rfl, hw0⟩; have hw3 := Went.ahead (unhide HB) hw0))
  have HW := hide hw3
  clear hw0 hw3
  go_wp2
  go_ret
  exact ⟨rfl, unhide HW⟩

set_option maxHeartbeats 4000000 in
theorem fmt3_go {w : World} {b base : Nat} {F : Nat → Prop} {N : Nat} {S : St} (h : DevB w b base F N S) (hN : N < 600000) (hc : (S.rcd 0).count < 9223372036854775807) (xd : Nat) (cd : w.cell? ⟨xd, 0, none⟩ = some (.pointer (some ⟨b, 0, none⟩))) (od : Off w F xd) :
    Calls Tryz.prog 46 #[.pointer (some ⟨xd, 0, none⟩)] w fun e w' => e = .returned (.int .i64 (S.store 0 (recB [])).1) ∧ Went w w' b base F (N + 6) (S.store 0 (recB [])).2 := by
  have HR := hide (record_any w.drew _ [] (Pts.nil _))
  have HS := hide (StoreRec h (by omega) hc [] (recB_len [] (by simp)))
  have HK : Hid (∀ w3 M T, Went w w3 b base F M T → w3.cell? ⟨xd, 0, none⟩ = some (.pointer (some ⟨b, 0, none⟩))) := hide fun w3 M T hw => (hw.cell od).trans cd
  have HK2 : Hid (∀ w3, Below w.heap.size w w3 → w3.cell? ⟨xd, 0, none⟩ = some (.pointer (some ⟨b, 0, none⟩))) := hide fun w3 hb => (hb.cell od.1).trans cd
  simp only [List.map_nil] at HR
  clear h od
  go_enter Tryz.func46, Tryz.ntmps46
  go_wp2_with fail
  go_region_held3 (fun w' => w'.cell? ⟨xd, 0, none⟩ = some (.pointer (some ⟨b, 0, none⟩)))
    (first | exact cd | exact unhide HK _ _ _ hw4 | exact unhide HK2 _ hb3)
    (first | (go_at_call 48; refine (unhide HR).mono ?_; rintro e w3 ⟨v3, rfl, o3, b3⟩; obtain ⟨a3, c3, rfl, s3, f3⟩ := own_form o3; have hb3 := after_drew b3)
           | (go_at_call 47; refine (unhide HS w3 a3 c3 hb3 s3 f3).mono ?_; rintro e w4 ⟨rfl, hw4⟩))
  have HW := hide hw4
  clear hw4 hb3 b3 o3 s3
  go_wp2
  go_ret
  exact ⟨rfl, unhide HW⟩

theorem zerX_len (n : Nat) : (zerX n).length = n - 20 := by simp [zerX]
theorem zerX_get (n i : Nat) (h : i < (zerX n).length) : (zerX n)[i] = (20 + i, noB) := by simp [zerX, noB]
theorem fmt_len (S : St) : (S.format 0 []).2.safe.length = S.safe.length := by
  unfold St.format
  split
  · unfold St.putF
    split
    · split
      · exact St.flushed_len _
      · rfl
    · rfl
  · exact congrArg _ S.halted_safe
theorem wrsP_len (p : Int × St) (xs : List (Nat × List UInt8)) : (wrsP p xs).2.safe.length = p.2.safe.length := by
  obtain ⟨x, T⟩ := p
  by_cases h : x = 0
  · subst h; exact wrs_len T xs
  · have : ∀ xs : List (Nat × List UInt8), wrsP (x, T) xs = (x, T) := by
      intro xs
      induction xs with
      | nil => rfl
      | cons y ys ih => rw [wrsP_cons, thn_no T _ h, ih]
    rw [this]
theorem blocks_len {w : World} {b : Nat} {F : Nat → Prop} {N : Nat} {S : St} (h : Dev w b F N S) : Calls Tryz.prog 40 #[.pointer (some ⟨b, 0, none⟩)] w fun e w' => e = .returned (.int .i64 (S.safe.length : Nat)) ∧ w' = w := by
  obtain ⟨g, c, m, vf, D, h0⟩ := h
  exact (Blocks_dev h0.dev).mono fun e w' ⟨h1, h2⟩ => ⟨h1, h2.symm⟩

set_option maxHeartbeats 8000000 in
theorem Format_go {w0 w : World} {b N : Nat} {F : Nat → Prop} {S : St} (h : Run w0 w b N F S) (hN : N < 200000) (hc : (thn (wrsP (S.format 0 []) (zerX S.safe.length)) St.fl).1 = 0 → ((thn (wrsP (S.format 0 []) (zerX S.safe.length)) St.fl).2.rcd 0).count < 9223372036854775807) :
    Calls Tryz.prog 21 #[.pointer (some ⟨b, 0, none⟩)] w fun e w' => e = .returned (.int .i64 (S.formatJ).1) ∧ Went w w' b w0.heap.size F (N + 2000) (S.formatJ).2 := by
  obtain ⟨hl1, hl2, _, _⟩ := h.devB.len
  have hFs : ∀ j, F j → j < w.heap.size := fun j hj => (h.foot j hj).2
  have hxF : ∀ q, w.heap.size ≤ q → ¬ F q := fun q hq hf => by have := hFs _ hf; omega
  obtain ⟨W1, hW1⟩ : ∃ W1, W1 = w.alloc (.cells #[.pointer (some ⟨b, 0, none⟩)] 24) := ⟨_, rfl⟩
  obtain ⟨W2, hW2⟩ : ∃ W2, W2 = W1.alloc (.cells #[.int .i64 0] 35) := ⟨_, rfl⟩
  have z1 : W1.heap.size = w.heap.size + 1 := by rw [hW1]; simp
  have z2 : W2.heap.size = w.heap.size + 2 := by rw [hW2]; simp [z1]
  have hB1 : Below w.heap.size w W1 := by rw [hW1]; exact (Below.refl _ _).alloc (Nat.le_refl _) _
  have hB2 : Below w.heap.size w W2 := by rw [hW2]; exact hB1.alloc hB1.size _
  have hbd : W2.heap[w.heap.size]? = some (.cells #[.pointer (some ⟨b, 0, none⟩)] 24 (0, 0)) := by
    rw [hW2, Below.heap_alloc _ _ _ (by omega), hW1]; exact heap_alloc_self _ _
  have hbe : W2.heap[W1.heap.size]? = some (.cells #[.int .i64 0] 35 (0, 0)) := by rw [hW2]; exact heap_alloc_self _ _
  have cd1 : W1.cell? ⟨w.heap.size, 0, none⟩ = some (.pointer (some ⟨b, 0, none⟩)) := by rw [hW1]; exact (cell_of_row _ _ _ _ _ _ (heap_alloc_self _ _)).trans rfl
  obtain ⟨eb, heb⟩ : ∃ eb, eb = W1.heap.size := ⟨_, rfl⟩
  rw [← heb] at hbe
  have hEF : ¬ F eb := hxF _ (by omega)
  have hebl : eb < W2.heap.size := by omega
  have hebw : w.heap.size ≤ eb := by omega
  have hbs : w0.heap.size ≤ W2.heap.size := by have := h.bel.size; omega
  have CH0 : Hid (Chn W2 W2 b w0.heap.size eb F N (0, S)) := hide (Chn.start (h.devB.grown hB2) hbe)
  have HBX : Hid (∀ W M p, Chn W2 W b w0.heap.size eb F M p → W.cell? ⟨w.heap.size, 0, none⟩ = some (.pointer (some ⟨b, 0, none⟩))) := hide fun W M p hch => (cell_of_row _ _ _ _ _ _ ((hch.block _ (by omega) (hxF _ (Nat.le_refl _)) (by omega)).trans hbd)).trans rfl
  have HLN : Hid (∀ j : Nat, (wrsP (S.format 0 []) ((zerX S.safe.length).take j)).2.safe.length = S.safe.length) := hide fun j => by rw [wrsP_len, fmt_len]
  have BD := hide (blocks_len (h.grown hB1).dev)
  have HB2 := hide hB2
  have SEG1 : ∀ args W, (callFunc 42 args).run Tryz.prog W = .ok (.enter 42 args) W := enters_ok Tryz.func42 (by kernel_rfl) rfl
  have SEG2 : ∀ args W, (callFunc 44 args).run Tryz.prog W = .ok (.enter 44 args) W := enters_ok Tryz.func44 (by kernel_rfl) rfl
  have SEG3 : ∀ args W, (callFunc 46 args).run Tryz.prog W = .ok (.enter 46 args) W := enters_ok Tryz.func46 (by kernel_rfl) rfl
  have SEGF : ∀ args W, (callFunc 45 args).run Tryz.prog W = .ok (.enter 45 args) W := enters_ok Tryz.func45 (by kernel_rfl) rfl
  have H1 := hide SEG1
  have H2 := hide SEG2
  have H3 := hide SEG3
  have HFl := hide SEGF
  have HC := hide hc
  obtain ⟨n, hn⟩ : ∃ n, n = S.safe.length := ⟨_, rfl⟩
  rw [← hn] at BD hl1 hl2 HLN HC
  have HNN := hide hn
  obtain ⟨xd, hxd⟩ : ∃ xd, xd = w.heap.size := ⟨_, rfl⟩
  rw [← hxd] at HBX cd1
  have hxdl : xd < W2.heap.size := by omega
  have hxdF : ¬ F xd := hxF _ (by omega)
  have hxde : xd ≠ eb := by omega
  have hn64 : decide ((n : Int) < 64) = false := decide_eq_false (by omega)
  have STEP1 : Hid (Calls Tryz.prog 52 #[.func (.func 42) #[] #[.pointer (some ⟨xd, 0, none⟩)], .pointer (some ⟨eb, 0, none⟩)] W2 fun e w' => e = .returned (.int .i64 (S.format 0 []).1) ∧ Chn W2 w' b w0.heap.size eb F (N + 6) (S.format 0 [])) := hide (by
    refine then_chn (M2 := N + 6) (f := fun T => T.format 0 []) (unhide CH0) (Below.refl _ _) hebl hEF hbs (by omega) 42 #[] _ (unhide H1) fun h0 F' hD hF' hF2 => ?_
    exact fmt1_go hD (by omega) xd (unhide HBX _ _ _ (unhide CH0)))
  clear SEG1 SEG2 SEG3 SEGF hc hn h hB1 hB2 hbd hbe
  go_enter Tryz.func21, Tryz.ntmps21
  go_wp2_with fail
  rw [← hxd, ← hW1]
  clear hW1 hxd z1
  refine (unhide BD).mono ?_
  rintro e w1 ⟨rfl, rfl⟩
  go_wp2_with fail
  refine (chain_any _).mono ?_
  rintro e w2 ⟨rfl, h2⟩
  rw [← hW2] at h2
  subst h2
  rw [← heb]
  clear hW2 heb
  go_wp2_with fail
  refine (unhide STEP1).mono ?_
  rintro e w3 ⟨rfl, hc3⟩
  have HC3 := hide hc3
  clear hc3 STEP1 CH0
  go_wp2_with fail
  go_loopw [4] (fun i wr => ∃ (j xn : Nat) (w4 : World), i = .pointer (some ⟨xn, 0, none⟩) ∧ j ≤ n - 20 ∧ w4.heap.size ≤ xn ∧ xn < wr.heap.size ∧ Hid (wr.heap[xn]? = some (.cells #[.int .i64 ((20 + j : Nat) : Int)] 3 (0, 0))) ∧ Hid (Chn w2 w4 b w0.heap.size eb F (N + 6 + 2 * j) (wrsP (S.format 0 []) ((zerX n).take j))) ∧ Hid (Below w4.heap.size w4 wr)) (fun i wr => match i with | .pointer (some a) => (match wr.cell? a with | some (.int _ q) => n - q.toNat | _ => 0) | _ => 0)
  case atStart => exact ⟨0, w3.heap.size, w3, rfl, by omega, Nat.le_refl _, by simp, hide (heap_alloc_self _ _), HC3, hide ((Below.refl _ _).alloc (Nat.le_refl _) _)⟩
  case round =>
    obtain ⟨j, xn, w4, rfl, hj, hx1, hx2, HX, HC4, HB4⟩ := hrel
    clear HC3
    have hc4 := unhide HC4
    have hb4 := unhide HB4
    have hz4 := hc4.size
    have hcr := hc4.grown hb4 hebl
    have cn : wr.cell? ⟨xn, 0, none⟩ = some (.int .i64 ((20 + j : Nat) : Int)) := (cell_of_row _ _ _ _ _ _ (unhide HX)).trans rfl
    have fn : wr.frozen? ⟨xn, 0, none⟩ = false := by simp [World.frozen?, unhide HX]
    have cdr := unhide HBX _ _ _ hcr
    have BL : Hid (∀ nq, Calls Tryz.prog 40 #[.pointer (some ⟨b, 0, none⟩)] (wr.drewN nq) fun e w' => e = .returned (.int .i64 (n : Nat)) ∧ w' = wr.drewN nq) := hide fun nq => by
      obtain ⟨F', f1, f2, f3⟩ := hcr.dev
      have := blocks_len (f3.grown (below_drewN (Below.refl _ _) nq))
      rw [unhide HLN j] at this
      exact this
    obtain ⟨m, hm⟩ : ∃ m : Nat, m = 20 + j := ⟨_, rfl⟩
    rw [← hm] at cn
    have HM := hide hm
    clear hc4 hb4 hcr
    by_cases hlt : m < n
    · have hlt' : (m : Int) < (n : Int) := by omega
      have hjz : j < (zerX n).length := by rw [zerX_len]; omega
      have HTK : Hid ((zerX n).take (j + 1) = (zerX n).take j ++ [(m, noB)]) := hide (by
        rw [List.take_succ_eq_append_getElem hjz, zerX_get, hm])
      have STEP : Hid (∀ nq, Calls Tryz.prog 52 #[.func (.func 44) #[] #[.pointer (some ⟨xd, 0, none⟩), .pointer (some ⟨xn, 0, none⟩)], .pointer (some ⟨eb, 0, none⟩)] (wr.drewN nq) fun e w' => e = .returned (.int .i64 (wrsP (S.format 0 []) ((zerX n).take (j + 1))).1) ∧ Chn w2 w' b w0.heap.size eb F (N + 6 + 2 * (j + 1)) (wrsP (S.format 0 []) ((zerX n).take (j + 1))) ∧ w'.heap[xn]? = wr.heap[xn]?) := hide fun nq => by
        rw [unhide HTK, wrsP_snoc]
        refine (then_chn2 (M2 := N + 6 + 2 * (j + 1)) (f := fun T => T.wr (m, noB)) (unhide HC4) (below_drewN (unhide HB4) nq) hebl hEF hbs (by omega) 44 #[] _ (unhide H2) fun h0 F' hD hF' hF2 => ?_).mono ?_
        · refine (fmt2_go hD (by omega) xd xn m (by rw [unhide HLN j]; exact hlt) cdr cn ⟨by show xd < wr.heap.size; have := (unhide HB4).size; omega, fun hf => (hF' xd hf).elim hxdF fun h => by omega⟩ ⟨hx2, fun hf => by have := hF2 _ hf; omega⟩).mono ?_
          rintro e w' ⟨rfl, hw⟩
          exact ⟨rfl, hw.mono (by omega)⟩
        · rintro e w' ⟨rfl, h1, h2⟩
          exact ⟨rfl, h1, h2 xn hx1 hx2⟩
      clear hm HTK HC4 HB4
      go_wp2_with fail
      go_quiet ((go_at_call 40; exact Calls.quiet_of_same (unhide BL _)))
      go_wp2_with fail
      refine (unhide STEP _).mono ?_
      rintro e w5 ⟨rfl, hc5, hx5⟩
      have hr5 := hx5.trans (unhide HX)
      have c5 : w5.cell? ⟨xn, 0, none⟩ = some (.int .i64 (m : Int)) := by rw [unhide HM]; exact (cell_of_row _ _ _ _ _ _ hr5).trans rfl
      have HC5 := hide hc5
      have z5 := hc5.size
      have CN := hide cn
      clear hc5 hx5 hr5 STEP BL cn fn cdr HX
      go_wp2_with fail
      go_roundw
      case rel =>
        refine ⟨j + 1, w5.heap.size, w5, rfl, by have := unhide HM; omega, Nat.le_refl _, by simp, hide ?_, HC5, hide ((Below.refl _ _).alloc (Nat.le_refl _) _)⟩
        have := unhide HM
        rw [show ((20 + (j + 1) : Nat) : Int) = (m : Int) + 1 by omega]
        exact heap_alloc_self _ _
      case measure =>
        have c6 : (w5.alloc (.cells #[.int .i64 ((m : Int) + 1)] 3)).cell? ⟨w5.heap.size, 0, none⟩ = some (.int .i64 ((m : Int) + 1)) := (cell_of_row _ _ _ _ _ _ (heap_alloc_self _ _)).trans rfl
        have c7 := unhide CN
        simp only [c6, c7]
        omega
    · have hlt' : ¬ (m : Int) < (n : Int) := by omega
      have hjn : j = n - 20 := by omega
      have hc4 := unhide HC4
      rw [hjn, List.take_of_length_le (by rw [zerX_len]; exact Nat.le_refl _)] at hc4
      have STEP : Hid (∀ nq, Calls Tryz.prog 52 #[.func (.func 45) #[.pointer (some ⟨b, 0, none⟩)] #[], .pointer (some ⟨eb, 0, none⟩)] (wr.drewN nq) fun e w' => e = .returned (.int .i64 (thn (wrsP (S.format 0 []) (zerX n)) St.fl).1) ∧ Chn w2 w' b w0.heap.size eb F (N + 1100) (thn (wrsP (S.format 0 []) (zerX n)) St.fl)) := hide fun nq => by
        refine then_chn (M2 := N + 1100) hc4 (below_drewN (unhide HB4) nq) hebl hEF hbs (by omega) 45 _ #[] (unhide HFl) fun h0 F' hD hF' hF2 => ?_
        refine (flush_step hD (by omega)).mono ?_
        rintro e w' ⟨rfl, hw⟩
        exact ⟨rfl, hw.mono (by omega)⟩
      have HFJ : Hid (S.formatJ = thn (thn (wrsP (S.format 0 []) (zerX n)) St.fl) (fun T => T.store 0 (recB []))) := hide (by unfold St.formatJ; rw [← unhide HNN])
      clear hc4 HC4 HB4 HX hjn hm
      go_wp2_with fail
      go_quiet ((go_at_call 40; exact Calls.quiet_of_same (unhide BL _)))
      go_wp2_with fail
      refine (unhide STEP _).mono ?_
      rintro e w5 ⟨rfl, hc5⟩
      have cd5 := unhide HBX _ _ _ hc5
      have z5 := hc5.size
      have STEP2 : Hid (Calls Tryz.prog 52 #[.func (.func 46) #[] #[.pointer (some ⟨xd, 0, none⟩)], .pointer (some ⟨eb, 0, none⟩)] w5 fun e w' => e = .returned (.int .i64 (S.formatJ).1) ∧ Chn w2 w' b w0.heap.size eb F (N + 2000) S.formatJ) := hide (by
        rw [unhide HFJ]
        refine then_chn (M2 := N + 2000) hc5 (Below.refl _ _) hebl hEF hbs (by omega) 46 #[] _ (unhide H3) fun h0 F' hD hF' hF2 => ?_
        refine (fmt3_go hD (by omega) (unhide HC h0) xd cd5 ⟨by omega, fun hf => (hF' xd hf).elim hxdF fun h => by omega⟩).mono ?_
        rintro e w' ⟨rfl, hw⟩
        exact ⟨rfl, hw.mono (by omega)⟩)
      clear hc5 STEP BL cn fn cdr
      go_wp2_with fail
      refine (unhide STEP2).mono ?_
      rintro e w6 ⟨rfl, hc6⟩
      have HC6 := hide hc6
      clear hc6 STEP2
      go_wp2
      go_ret
      exact ⟨rfl, (unhide HC6).went (unhide HB2) hebw⟩
end Go.Proofs.YtfnhhjpebilacaaGreat

/-
  DERIVED. Without a fuse all goes well: plain.
-/
namespace Go.Proofs.YtfnhhjpebilacaaGreat
open Go.RowKit
set_option linter.unusedVariables false

/-- A device that is up and has no fuse. -/
structure Free (S : St) : Prop where
  fused : S.fused = false
  up : S.down = false
theorem Free.well {S : St} (h : Free S) : S.well := St.well_free h.fused
theorem Free.burn {S : St} (h : Free S) : Free S.burn := ⟨h.fused, by rw [St.well_up h.well]; exact h.up⟩
theorem Free.reads {S : St} (h : Free S) : S.reads := St.reads_free h.fused h.up
def FP (p : Int × St) : Prop := p.1 ≠ 2 ∧ Free p.2
theorem FP.thn {p : Int × St} {f : St → Int × St} (h : FP p) (hf : ∀ T, Free T → FP (f T)) : FP (thn p f) := by
  unfold Go.Proofs.YtfnhhjpebilacaaGreat.thn
  split
  · exact hf _ h.2
  · exact h
theorem Free.wr {S : St} (h : Free S) (x : Nat × List UInt8) : FP (S.wr x) := by
  unfold St.wr
  rw [if_neg (by rw [h.up]; decide), if_pos h.well]
  exact ⟨by simp, h.burn.fused, h.burn.up⟩
theorem Free.fl {S : St} (h : Free S) : FP S.fl := by
  unfold St.fl
  rw [if_neg (by rw [h.up]; decide), if_pos h.well]
  exact ⟨by simp, h.burn.fused, h.burn.up⟩
theorem Free.rd1 {S : St} (h : Free S) : S.rd1 = (0, S.burn) := by
  unfold St.rd1
  rw [if_neg (by rw [h.up]; decide), if_pos h.well]
theorem Free.putF {S : St} (h : Free S) (j : Nat) (L : List UInt8) : FP (S.putF j L) := by
  have h2 : Free (S.burn.wrote j L) := ⟨h.burn.fused, h.burn.up⟩
  unfold St.putF
  rw [if_pos h.well, if_pos h2.well]
  exact ⟨by simp, h2.burn.fused, h2.burn.up⟩
theorem Free.store {S : St} (h : Free S) (k : Nat) (d : List UInt8) : FP (S.store k d) := by
  unfold St.store
  rw [if_pos h.reads]
  split
  · exact h.burn.burn.putF _ _
  · exact ⟨by simp, h.burn.burn⟩
theorem FP.wrs : ∀ (xs : List (Nat × List UInt8)) {p : Int × St}, FP p → FP (wrsP p xs)
  | [], p, h => h
  | x :: xs, p, h => by
    rw [wrsP_cons]
    exact FP.wrs xs (h.thn fun T hT => hT.wr x)
theorem Free.zero {S : St} (h : Free S) : FP (0, S) := ⟨by simp, h⟩
theorem Free.lay {S : St} (h : Free S) (ps : List (Nat × List UInt8)) : FP (S.layJ ps) := ((FP.wrs _ h.zero).thn fun _ hT => hT.fl).thn fun _ hT => hT.store _ _
theorem Free.settle {S : St} (h : Free S) (ps : List (Nat × List UInt8)) : FP (S.settleJ ps) := by
  unfold St.settleJ
  split
  · exact (FP.wrs _ h.zero).thn fun _ hT => hT.fl
  · exact ((FP.wrs _ h.zero).thn fun _ hT => hT.fl).thn fun _ hT => hT.store _ _
theorem Free.commit {S : St} (h : Free S) (ps : List (Nat × List UInt8)) : FP (S.commitJ ps) := by
  unfold St.commitJ
  split
  · exact h.settle ps
  · exact (h.lay ps).thn fun _ hT => hT.settle ps
theorem Free.rds {S : St} (h : Free S) : ∀ k, FP (S.rds k)
  | 0 => h.zero
  | k + 1 => by
    rw [St.rds]
    exact (Free.rds h k).thn fun T hT => by rw [hT.rd1]; exact ⟨by simp, hT.burn⟩
theorem Free.wait {S : St} (h : Free S) (size : Int) : FP (S.waitJ size).1 := by
  unfold St.waitJ
  rw [if_pos h.reads]
  split
  · split
    · exact h.burn.burn.rds _
    · exact ⟨by simp, h.burn.burn⟩
  · exact ⟨by simp, h.burn.burn⟩
theorem Free.open {S : St} (h : Free S) (size : Int) : FP (S.openJ size) := (h.wait size).thn fun _ hT => hT.settle _
theorem Free.crash (S : St) (ps : List Int) : Free (S.crash ps) := ⟨rfl, rfl⟩
theorem Free.new (n : Nat) : Free (St.new n) := ⟨rfl, rfl⟩

/-- What a log's blocks are at first. -/
def zeros : Nat → List UInt8 := fun _ => List.replicate 512 0
theorem zerX_mem {n : Nat} {x : Nat × List UInt8} (h : x ∈ zerX n) : 20 ≤ x.1 ∧ x.2 = List.replicate 512 0 := by
  obtain ⟨i, _, rfl⟩ := List.mem_map.1 h
  exact ⟨by simp only; omega, rfl⟩
theorem over_zer (n : Nat) (f : Nat → List UInt8) (m : Nat) (hm : m < n - 20) : over (zerX n) f (20 + m) = List.replicate 512 0 := by
  rcases over_mem (zerX n) f (20 + m) with h | ⟨p, hp, _, e⟩
  · have hin : ∃ p ∈ zerX n, p.1 = 20 + m := ⟨(20 + m, List.replicate 512 0), List.mem_map.2 ⟨m, List.mem_range.2 hm, rfl⟩, rfl⟩
    have e2 := over_in (zerX n) f zeros (20 + m) hin
    rw [e2]
    rcases over_mem (zerX n) zeros (20 + m) with h3 | ⟨p, hp, _, e⟩
    · rw [h3]; rfl
    · rw [e, (zerX_mem hp).2]
  · rw [e, (zerX_mem hp).2]

theorem format_free {S : St} (h : Free S) (h1 : 64 ≤ S.safe.length) (h2 : S.safe.length ≤ 512) (ho : 0 ≤ S.ops) :
    ∃ T, S.formatJ = (0, T) ∧ Quiet T zeros ∧ (∀ n, T.pend n = []) ∧ T.safe.length = S.safe.length ∧ Free T ∧ (T.rcd 0).count ≤ 1 := by
  have hf : ∃ T0, S.format 0 [] = (0, T0) ∧ Put S T0 0 0 [] ∧ S.ops + 1 ≤ T0.ops ∧ Free T0 := by
    have hb := h.burn.burn
    have hw2 : Free (S.burn.burn.burn.wrote (S.elder 0) (S.nextB 0 0 [])) := ⟨hb.burn.fused, hb.burn.up⟩
    have := putF_good (S := S) (k := 0) (by omega) h2 h.up _ rfl hb.up (cnt := 0) (d := []) (by decide) (by decide) (by simp) hb.well hw2.well
    refine ⟨_, ?_, this.2, ?_, ⟨hw2.burn.fused, hw2.burn.up⟩⟩
    · unfold St.format
      rw [if_pos h.reads]
      exact this.1
    · show S.ops + 1 ≤ (S.burn.burn.burn.wrote (S.elder 0) (S.nextB 0 0 [])).burn.ops
      have e1 := St.well_ops h.well
      have e2 := S.burn.burn_ops
      have e3 := S.burn.burn.burn_ops
      have e4 := (S.burn.burn.burn.wrote (S.elder 0) (S.nextB 0 0 [])).burn_ops
      have e5 : (S.burn.burn.burn.wrote (S.elder 0) (S.nextB 0 0 [])).ops = S.burn.burn.burn.ops := rfl
      omega
  obtain ⟨T0, t1, t2, t3, t4⟩ := hf
  have hfp : FP (thn (wrsP (0, T0) (zerX S.safe.length)) St.fl) := (FP.wrs _ t4.zero).thn fun _ hT => hT.fl
  unfold St.formatJ
  rw [t1]
  rcases wrf_cases (zerX S.safe.length) T0 t4.up with ⟨U, u1, u2, u3, u4, u5, u6, u7⟩ | ⟨U, ys, u1, _⟩
  · rw [u1, thn_ok]
    have hlen : U.safe.length = S.safe.length := u2.trans t2.len
    have hlo : ∀ n, n < 20 → U.newest n = T0.newest n := fun n hn => by
      rw [u7 n (by rw [t2.len]; omega), over_out _ _ _ fun p hp e => by have := (zerX_mem hp).1; omega]
    have hr : U.rcd 0 = T0.rcd 0 := St.rcd_of (hlo 0 (by omega)) (hlo 1 (by omega))
    have hrc : U.rcd 0 = ⟨true, ((S.rcd 0).turn + 1) % 4294967296, 0, []⟩ := by rw [hr, t2.rec_]
    have hfu : Free U := ⟨u5.trans t4.fused, u4⟩
    have hst := hfu.store 0 (recB [])
    rcases store_all (S := U) (k := 0) (by omega) (by omega) u4 ⟨u6 _, u6 _⟩ (by rw [hrc]) (by rw [hrc]; show (0 : Int) < 9223372036854775807; decide) (recB []) (recB_len [] (by simp)) with ⟨V, v1, v2, v3⟩ | ⟨V, v1, _⟩
    · rw [v1] at hst ⊢
      have hl2 : V.safe.length = S.safe.length := v2.len.trans hlen
      refine ⟨V, rfl, ⟨by omega, by omega, v2.up, ⟨v2.pend _, v2.pend _⟩, by rw [v2.rec_], ?_, by rw [v2.rec_], ?_⟩, v2.pend, hl2, hst.2, by rw [v2.rec_, hrc]; show (0 : Int) + 1 ≤ 1; decide⟩
      · rw [v2.rec_, hrc]
        show (0 : Int) + 1 ≤ V.ops
        omega
      · rw [hl2]
        intro n hn
        rw [v2.other _ (by omega) (by omega) (by omega), u7 _ (by rw [t2.len]; omega), over_zer _ _ n hn]
        rfl
    · rw [v1] at hst
      exact absurd rfl hst.1
  · rw [u1] at hfp
    exact absurd rfl hfp.1

theorem commit_free {S : St} {c : Nat → List UInt8} (h : Quiet S c) (hf : Free S) (ps : List (Nat × List UInt8)) (hl : ps.length ≤ 16) (hin : ∀ p ∈ ps, p.1 < S.safe.length - 20) (hb : S.ops < 9223372036854775806)
    (hb2 : ∀ T, S.layJ ps = (0, T) → T.ops < 9223372036854775806) :
    ∃ T, S.commitJ ps = (0, T) ∧ Quiet T (over ps c) ∧ (∀ n, T.pend n = []) ∧ T.safe.length = S.safe.length ∧ Free T := by
  have hfp := hf.commit ps
  rcases commit_cases h ps hl hin hb hb2 with ⟨T, t1, t2, t3, t4, t5⟩ | ⟨T, t1, _⟩
  · rw [t1] at hfp
    exact ⟨T, t1, t2, t3, t4, hfp.2⟩
  · rw [t1] at hfp
    exact absurd rfl hfp.1
theorem open_free {S : St} {ns : List Nat} {c : Nat → List UInt8} (h : Sound S ns c) (hf : Free S) (hb : ∀ T, (S.waitJ (S.safe.length - 20 : Nat)).1 = (0, T) → T.ops < 9223372036854775806) :
    ∃ T, S.openJ (S.safe.length - 20 : Nat) = (0, T) ∧ Quiet T c ∧ (∀ n, T.pend n = []) ∧ T.safe.length = S.safe.length ∧ Free T := by
  have hfp := hf.open (S.safe.length - 20 : Nat)
  rcases open_cases h hf.up hb with ⟨T, t1, t2, t3, t4, t5⟩ | ⟨T, t1, _⟩
  · rw [t1] at hfp
    exact ⟨T, t1, t2, t3, t4, hfp.2⟩
  · rw [t1] at hfp
    exact absurd rfl hfp.1
theorem St.burn_le (S : St) : S.burn.ops ≤ S.ops + 1 := by
  show burnO S.fused S.fuse S.ops ≤ S.ops + 1
  unfold burnO
  split <;> omega
theorem wr_le (S : St) (x : Nat × List UInt8) : (S.wr x).2.ops ≤ S.ops + 1 := by
  have h := S.burn_le
  unfold St.wr
  split
  · simp only; omega
  split
  · exact h
  · exact h
theorem fl_le (S : St) : (S.fl).2.ops ≤ S.ops + 1 := by
  have h := S.burn_le
  unfold St.fl
  split
  · simp only; omega
  split
  · exact h
  · exact h
theorem rd1_le (S : St) : (S.rd1).2.ops ≤ S.ops + 1 := by
  have h := S.burn_le
  unfold St.rd1
  split
  · simp only; omega
  split
  · exact h
  · exact h
theorem halted_le (S : St) : S.halted.ops ≤ S.ops + 2 := by
  have h := S.burn_le
  have h2 := S.burn.burn_le
  unfold St.halted
  split
  · omega
  split <;> omega
theorem store_le (S : St) (k : Nat) (d : List UInt8) : (S.store k d).2.ops ≤ S.ops + 4 := by
  have h := S.burn_le
  have h2 := S.burn.burn_le
  have h3 := S.burn.burn.burn_le
  unfold St.store
  split
  · split
    · unfold St.putF
      split
      · have h4 := (S.burn.burn.burn.wrote (S.elder k) (S.nextB k ((S.rcd k).count + 1) d)).burn_le
        have e : (S.burn.burn.burn.wrote (S.elder k) (S.nextB k ((S.rcd k).count + 1) d)).ops = S.burn.burn.burn.ops := rfl
        split
        · show (S.burn.burn.burn.wrote (S.elder k) (S.nextB k ((S.rcd k).count + 1) d)).burn.ops ≤ _
          omega
        · show (S.burn.burn.burn.wrote (S.elder k) (S.nextB k ((S.rcd k).count + 1) d)).burn.ops ≤ _
          omega
      · show S.burn.burn.burn.ops ≤ _
        omega
    · show S.burn.burn.ops ≤ _
      omega
  · have := halted_le S
    show S.halted.ops ≤ _
    omega
theorem thn_le {p : Int × St} {f : St → Int × St} {a c : Int} (h : p.2.ops ≤ a) (hf : ∀ T : St, (f T).2.ops ≤ T.ops + c) (hc : 0 ≤ c) : (thn p f).2.ops ≤ a + c := by
  unfold thn
  split
  · have := hf p.2; omega
  · omega
theorem wrs_le : ∀ (xs : List (Nat × List UInt8)) (p : Int × St), (wrsP p xs).2.ops ≤ p.2.ops + xs.length
  | [], p => by show p.2.ops ≤ _; simp
  | x :: xs, p => by
    rw [wrsP_cons]
    have h1 := wrs_le xs (thn p (·.wr x))
    have h2 := thn_le (p := p) (f := (·.wr x)) (a := p.2.ops) (c := 1) (Int.le_refl _) (fun T => wr_le T x) (by decide)
    rw [List.length_cons]
    omega
theorem lay_le (S : St) (ps : List (Nat × List UInt8)) : (S.layJ ps).2.ops ≤ S.ops + ps.length + 5 := by
  have h1 := wrs_le (layX 2 ps) (0, S)
  rw [layX_len] at h1
  have h2 := thn_le (f := St.fl) h1 fl_le (by decide)
  have h3 := thn_le (f := fun T => T.store 0 (recB (ps.map (·.1)))) h2 (fun T => store_le T 0 _) (by decide)
  unfold St.layJ
  simp only at h3
  omega
theorem rds_le (S : St) : ∀ k : Nat, (S.rds k).2.ops ≤ S.ops + k
  | 0 => by show S.ops ≤ _; simp
  | k + 1 => by
    rw [St.rds]
    have := thn_le (rds_le S k) rd1_le (by decide)
    omega
theorem wait_le {S : St} {ns : List Nat} {c : Nat → List UInt8} (h : Sound S ns c) (T : St) (ht : (S.waitJ (S.safe.length - 20 : Nat)).1 = (0, T)) : T.ops ≤ S.ops + 20 := by
  have hb := S.burn_le
  have hb2 := S.burn.burn_le
  unfold St.waitJ at ht
  split at ht
  · have e : blkB ((S.safe.length - 20 : Nat) : Int) (S.rcd 0).data = some ns := by
      rw [h.data]
      exact blkB_recB _ (by have := h.l2; omega) ns h.ns1 fun n hn => by have := h.ns2 n hn; omega
    rw [if_pos h.laid, e] at ht
    have := rds_le S.burn.burn ns.length
    have e2 : S.burn.burn.rds ns.length = (0, T) := ht
    rw [e2] at this
    have := h.ns1
    simp only at *
    omega
  · simp only [Prod.mk.injEq] at ht
    exact absurd ht.1 (by decide)
theorem lay_cnt {S : St} {c : Nat → List UInt8} (h : Quiet S c) (hb : S.ops < 9223372036854775000) (ps : List (Nat × List UInt8)) (hl : ps.length ≤ 16) (h0 : (S.layJ ps).1 = 0) : ((S.layJ ps).2.rcd 0).count < 9223372036854775807 := by
  have h1 := h.l1
  have h2 := h.l2
  have hx := layX_mem ps 2
  have hc := h.cnt
  unfold St.layJ at h0 ⊢
  rcases wrf_cases (layX 2 ps) S h.up with ⟨U, u1, u2, u3, u4, u5, u6, u7⟩ | ⟨U, ys, u1, _⟩
  · rw [u1, thn_ok] at h0 ⊢
    have hlo : ∀ n, n < 2 → U.newest n = S.newest n := fun n hn => by rw [u7 n (by omega), over_out _ _ _ fun p hp e => by have := hx p hp; omega]
    have hr : U.rcd 0 = S.rcd 0 := St.rcd_of (hlo 0 (by omega)) (hlo 1 (by omega))
    rcases store_all (S := U) (k := 0) (by rw [u2]; omega) (by rw [u2]; exact h2) u4 ⟨u6 _, u6 _⟩ (by rw [hr]; exact h.laid) (by rw [hr]; omega) (recB (ps.map (·.1))) (recB_len _ (by rw [List.length_map]; exact hl)) with ⟨V, v1, v2, v3⟩ | ⟨V, v1, _⟩
    · rw [v1, v2.rec_, hr]
      show (S.rcd 0).count + 1 < _
      omega
    · rw [v1] at h0
      exact absurd (show (2 : Int) = 0 from h0) (by decide)
  · rw [u1, thn_down] at h0
    exact absurd (show (2 : Int) = 0 from h0) (by decide)
/-- A log that rests is sound. -/
theorem Quiet.sound {S : St} {c : Nat → List UInt8} (h : Quiet S c) (hp : ∀ n, S.pend n = []) : Sound S [] c :=
  ⟨h.l1, h.l2, hp, h.laid, h.cnt, by simp, by simp, h.data, fun n hn => h.is n hn⟩
end Go.Proofs.YtfnhhjpebilacaaGreat

/-
  DERIVED. The law's laid: a device with a log.
-/
namespace Go.Proofs.YtfnhhjpebilacaaGreat
open Go.RowKit
set_option linter.unusedVariables false
set_option maxRecDepth 20000

theorem New_n (w0 w : World) (hb : Below w0.heap.size w0 w) (n : Nat) (h1 : 64 ≤ n) (h2 : n ≤ 512) :
    Calls Tryz.prog 20 #[.int .i64 (n : Int)] w fun e w' => e = .returned (.tuple #[.pointer (some ⟨w.heap.size + 2, 0, none⟩), .int .i64 0]) ∧ Run w0 w' (w.heap.size + 2) 0 (fun k => w.heap.size ≤ k ∧ k < w'.heap.size) (St.new n) ∧ Below w.heap.size w w' := by
  refine (New_dev n w (by omega) (by omega)).mono ?_
  rintro e w' ⟨rfl, d1, b1⟩
  have := hb.size
  exact ⟨rfl, ⟨d1, fun j hj => ⟨by have := hj.1; omega, hj.2⟩, hb.trans (b1.mono hb.size)⟩, b1⟩
theorem new_len (n : Nat) : (St.new n).safe.length = n := List.length_replicate

/-- Behind the writes of noughts the record is an empty one. -/
theorem fmt_cnt {S : St} (h : Free S) (h1 : 64 ≤ S.safe.length) (h2 : S.safe.length ≤ 512) : ((thn (wrsP (S.format 0 []) (zerX S.safe.length)) St.fl).2.rcd 0).count < 9223372036854775807 := by
  have hb := h.burn.burn
  have hw2 : Free (S.burn.burn.burn.wrote (S.elder 0) (S.nextB 0 0 [])) := ⟨hb.burn.fused, hb.burn.up⟩
  have hp := putF_good (S := S) (k := 0) (by omega) h2 h.up _ rfl hb.up (cnt := 0) (d := []) (by decide) (by decide) (by simp) hb.well hw2.well
  have e : S.format 0 [] = (0, (S.burn.burn.burn.wrote (S.elder 0) (S.nextB 0 0 [])).burn.flushed) := by
    unfold St.format
    rw [if_pos h.reads]
    exact hp.1
  rw [e]
  have hf : Free (S.burn.burn.burn.wrote (S.elder 0) (S.nextB 0 0 [])).burn.flushed := ⟨hw2.burn.fused, hw2.burn.up⟩
  have hfp : FP (thn (wrsP (0, (S.burn.burn.burn.wrote (S.elder 0) (S.nextB 0 0 [])).burn.flushed) (zerX S.safe.length)) St.fl) := (FP.wrs _ hf.zero).thn fun _ hT => hT.fl
  have h0 : (thn (wrsP (0, (S.burn.burn.burn.wrote (S.elder 0) (S.nextB 0 0 [])).burn.flushed) (zerX S.safe.length)) St.fl).1 = 0 := by
    rcases wrf_cases (zerX S.safe.length) _ hf.up with ⟨U, u1, _⟩ | ⟨U, ys, u1, _⟩
    · rw [u1]
    · rw [u1] at hfp; exact absurd rfl hfp.1
  have := wrf_rcd _ (zerX S.safe.length) (fun x hx => by have := (zerX_mem hx).1; omega) (by rw [hp.2.len]; exact h1) h0
  rw [this.1, hp.2.rec_]
  show (0 : Int) < _
  decide

/-- A device with a log, just laid. -/
structure Fresh (w0 w' : World) (b lb : Nat) (F : Nat → Prop) (n : Nat) (T : St) : Prop where
  at_ : LAt w0 w' b lb 2200 F T false
  quiet : Quiet T zeros
  none : ∀ k, T.pend k = []
  len : T.safe.length = n
  free : Free T
  bw : ∀ j, F j → w0.heap.size ≤ j

set_option maxHeartbeats 4000000 in
theorem laid_go (w0 w : World) (hb : Below w0.heap.size w0 w) (n : Nat) (h1 : 64 ≤ n) (h2 : n ≤ 512) :
    Calls Tryz.prog 5 #[.int .i64 (n : Int)] w fun e w' => ∃ b lb F T, e = .returned (.tuple #[.pointer (some ⟨b, 0, none⟩), .pointer (some ⟨lb, 0, none⟩)]) ∧ Fresh w0 w' b lb F n T ∧ Below w.heap.size w w' := by
  obtain ⟨T, t1, t2, t3, t4, t5, t6⟩ := format_free (Free.new n) (by rw [new_len]; exact h1) (by rw [new_len]; exact h2) (Int.le_refl 0)
  rw [new_len] at t4
  have NW := hide (New_n w0 w hb n h1 h2)
  have HQ := hide t2
  have HP := hide t3
  have HFR := hide t5
  have HT1 := hide t1
  have h1' : (64 : Int) ≤ (n : Int) := by omega
  have h2' : (n : Int) ≤ 512 := by omega
  clear t2 t3 t5 t1 hb
  go_enter Tryz.func5, Tryz.ntmps5
  go_wp2_with fail
  refine (unhide NW).mono ?_
  rintro e w2 ⟨rfl, r2, b2⟩
  obtain ⟨b, hbb⟩ : ∃ b, b = w.heap.size + 2 := ⟨_, rfl⟩
  obtain ⟨F2, hF2⟩ : ∃ F2, F2 = (fun k => w.heap.size ≤ k ∧ k < w2.heap.size) := ⟨_, rfl⟩
  rw [← hbb, ← hF2] at r2
  rw [← hbb]
  have HF2 : Hid (∀ j, F2 j → w.heap.size ≤ j) := hide fun j hj => by rw [hF2] at hj; exact hj.1
  have FM := hide (Format_go r2 (by omega) (fun _ => by
    have := fmt_cnt (Free.new n) (by rw [new_len]; exact h1) (by rw [new_len]; exact h2)
    exact this))
  have R2 := hide r2
  have HB2 := hide b2
  rw [unhide HT1] at FM
  clear r2 b2 hbb hF2 NW HT1
  go_wp2_with fail
  refine (unhide FM).mono ?_
  rintro e w3 ⟨rfl, hw3⟩
  obtain ⟨F3, r3, f3⟩ := (unhide R2).went hw3
  have HK3 := hide hw3.1
  have hsd := (unhide HQ).sound (unhide HP)
  have OP := Open_go r3 (by omega) (by have := (unhide HQ).cnt; have := r3.devB.len; omega)
  have R3 := hide r3
  have HF3 := hide f3
  obtain ⟨T2, o1, o2, o3, o4, o5⟩ := open_free hsd (unhide HFR) (fun U hU => by have := wait_le hsd U hU; have := r3.devB.len; omega)
  rw [o1] at OP
  have HO := hide OP
  have HO2 := hide o2
  have HO3 := hide o3
  have HO5 := hide o5
  rw [t4] at o4
  clear r3 f3 hw3 hsd OP o1 o2 o3 o5 FM
  go_wp2_with fail
  refine (unhide HO).mono ?_
  rintro e w4 hp
  rcases hp with ⟨_, lb, F4, rfl, hlb, l4, f4, k4⟩ | ⟨hne, _⟩
  · have HF : Hid (Fresh w0 w4 b lb F4 n T2 ∧ Below w.heap.size w w4) := hide (by
      have hkb : Below w.heap.size w w4 := by
        have k3 := unhide HK3
        have z2 := (unhide HB2).size
        have z3 := k3.size
        refine (unhide HB2).trans ?_
        have e1 : Below w.heap.size w2 w3 := k3.below z2 fun j hj => unhide HF2 j hj
        refine e1.trans (k4.below (by omega) fun j hj => ?_)
        rcases unhide HF3 j hj with h | h
        · exact unhide HF2 j h
        · omega
      refine ⟨⟨⟨⟨l4.run.dev.mono (fun _ h => h) (by omega), l4.run.foot, l4.run.bel⟩, l4.log, l4.lo, l4.off⟩, unhide HO2, unhide HO3, o4, unhide HO5, fun j hj => (l4.run.foot j hj).1⟩, hkb⟩)
    clear l4 f4 k4
    go_wp2
    go_ret2
    exact ⟨b, lb, F4, T2, rfl, (unhide HF).1, (unhide HF).2⟩
  · exact absurd rfl hne
end Go.Proofs.YtfnhhjpebilacaaGreat

/-
  DERIVED. How an argument of bytes is opened, beside the device.
-/
namespace Go.Proofs.YtfnhhjpebilacaaGreat
open Go.ChangeShapes Go.WideShapes Go.ChangeAt Go.RowKit

theorem Tryz.bytes5 : Tryz.prog.bytesOf 5 = 1 := by kernel_rfl
theorem Tryz.cells5 : Tryz.prog.cellsOf 5 = 1 := by kernel_rfl

theorem byte_wf {n : Int} (h : (Lit.int .u8 n).wf = true) : n = ((UInt8.ofNat n.toNat).toNat : Int) := by
  have := bounds_u8 h
  simp only [UInt8.toNat_ofNat']
  omega

theorem open_bytes {H : Type} {enc : TypeId × Value → H} {W : World} {a : Option Addr} {n c : Nat} {d : DataW H} {p : List MemPlace}
    (h : DataW.Trod enc Tryz.prog W 0 (fun _ => true) true 34 (.slice a n c) d p) :
    ∃ l : List UInt8, Sl W (.slice a n c) l ∧ ((d = .nil ∧ l = []) ∨ ∃ es sp, d = .slice es sp ∧ l.length ≤ es.length + sp.length) := by
  obtain ⟨fuel, hf⟩ := h
  rcases open_ints Tryz.underlying34 Tryz.underlying5 Tryz.cells5 hf with ⟨hcs, hx⟩ | ⟨x, l, cp, zs, hcs, _, hl, hm, hz, hx, hcell, hwz⟩
  · simp [Value.cells] at hcs
    obtain ⟨rfl, rfl, rfl⟩ := hcs
    simp only [Prod.mk.injEq] at hx
    exact ⟨[], nil_sl W, .inl ⟨hx.1, rfl⟩⟩
  · simp [Value.cells] at hcs
    obtain ⟨rfl, rfl, rfl⟩ := hcs
    simp only [Prod.mk.injEq] at hx
    rw [if_pos rfl] at hz
    have hlen : ((zs.take n).map (fun z => UInt8.ofNat z.toNat)).length = n := by simp; omega
    refine ⟨(zs.take n).map (fun z => UInt8.ofNat z.toNat), ⟨some x, c, by rw [hlen], by rw [hlen]; exact hl, hm, fun hc => ?_⟩, .inr ⟨_, _, hx.1, ?_⟩⟩
    · have h0 := hcell 0 (by omega)
      have hsp := World.cell?_spot h0
      obtain ⟨b, off, sp⟩ := x
      have hsp' : sp = none := by
        cases sp with
        | none => rfl
        | some k => simp [Addr.add] at hsp
      subst hsp'
      refine ⟨b, off, rfl, ?_, fun i hi => ?_⟩
      · rw [addr_add] at h0
        exact World.block_lt_of_cell? W ⟨b, off + 0, none⟩ h0
      · have hi' : i < n := by rw [hlen] at hi; exact hi
        have := hcell i (by omega)
        rw [addr_add] at this
        rw [this]
        have hmem : zs.getD i 0 ∈ zs := by
          rw [List.getD_eq_getElem?_getD, List.getElem?_eq_getElem (by omega)]; exact List.getElem_mem _
        have hb := byte_wf (hwz _ hmem)
        have e : ((zs.take n).map (fun z => UInt8.ofNat z.toNat))[i] = UInt8.ofNat (zs.getD i 0).toNat := by
          simp [List.getD_eq_getElem?_getD, List.getElem?_eq_getElem (show i < zs.length by omega)]
        rw [e]
        show _ = some (Value.int .u8 _)
        rw [← hb]
    · rw [hlen]; simp only [lits, List.length_map, List.length_take, List.length_drop]; omega
theorem Sl.lenEq {w : World} {a : Option Addr} {n c : Nat} {l : List UInt8} (h : Sl w (.slice a n c) l) : n = l.length := by
  obtain ⟨ao, cap, e, _⟩ := h
  injection e
end Go.Proofs.YtfnhhjpebilacaaGreat

/-
  DERIVED. A record on a device with a fuse, and behind a crash.
-/
namespace Go.Proofs.YtfnhhjpebilacaaGreat
open Go.RowKit
set_option linter.unusedVariables false

theorem Ints.belowS {B : Nat} {w w' : World} {v : Value} {l : List Int} (h : Ints w v l) (hb : Below B w w') (hB : w.heap.size ≤ B) : Ints w' v l := by
  obtain ⟨ao, cap, e, h1, h2, h3⟩ := h
  refine ⟨ao, cap, e, h1, h2, fun hl => ?_⟩
  obtain ⟨pb, off, e2, h4, h5⟩ := h3 hl
  exact ⟨pb, off, e2, Nat.lt_of_lt_of_le h4 hb.size, fun i hi => (hb.cell (p := ⟨pb, off + i, none⟩) (by show pb < B; omega)).trans (h5 i hi)⟩
theorem Ints.oldS {w : World} {v : Value} {l : List Int} (h : Ints w v l) (hl : l ≠ []) : ∀ pb, v.ownBlock = some pb → pb < w.heap.size := by
  obtain ⟨ao, cap, rfl, h1, h2, h3⟩ := h
  obtain ⟨pb, off, rfl, h4, h5⟩ := h3 hl
  intro q hq
  cases hq
  exact h4

theorem Crash_run {w0 w : World} {b N : Nat} {F : Nat → Prop} {S : St} (h : Run w0 w b N F S) (hN : N < 800000) (ps : List Int) (v : Value) (hv : Ints w0 v ps) :
    Calls Tryz.prog 18 #[.pointer (some ⟨b, 0, none⟩), v] w fun e w' => e = .returned (.tuple #[]) ∧ Run w0 w' b N F (S.crash ps) ∧ Kept F w w' := by
  refine (Crash_dev h.dev (by omega) ps v (hv.belowS h.bel (Nat.le_refl _)) (fun hne pb hpb hf => by have := hv.oldS hne pb hpb; have := (h.foot pb hf).1; omega)).mono ?_
  rintro e w' ⟨rfl, d', k'⟩
  exact ⟨rfl, h.of d' (fun j hj => by have := h.foot j hj; have := k'.size; omega) k', k'⟩
theorem ints_nil (w : World) : Ints w (.slice none 0 0) [] := ⟨none, 0, rfl, by simp, by simp, fun h => absurd rfl h⟩
theorem Down_run {w0 w : World} {b N : Nat} {F : Nat → Prop} {S : St} (h : Run w0 w b N F S) :
    Calls Tryz.prog 7 #[.pointer (some ⟨b, 0, none⟩)] w fun e w' => e = .returned (.bool S.down) ∧ w = w' := by
  obtain ⟨g, c, m, vf, D, h0⟩ := h.dev
  exact Down_dev h0.dev
theorem Fuse_run {w0 w : World} {b N : Nat} {F : Nat → Prop} {S : St} (h : Run w0 w b N F S) (k : Int) (k1 : -9223372036854775808 ≤ k) (k2 : k < 9223372036854775808) :
    Calls Tryz.prog 15 #[.pointer (some ⟨b, 0, none⟩), .int .i64 k] w fun e w' => e = .returned (.int .i64 (if S.down then 2 else 0)) ∧ Run w0 w' b N F (S.fuseK k) ∧ Kept F w w' := by
  refine (Fuse_devS h.dev k k1 k2).mono ?_
  rintro e w' ⟨rfl, d', k'⟩
  exact ⟨rfl, h.of d' (fun j hj => by have := h.foot j hj; have := k'.size; omega) k', k'⟩
theorem Store_run {w0 w : World} {b N : Nat} {F : Nat → Prop} {S : St} (h : Run w0 w b N F S) (hlen : S.safe.length = 64) (k : Nat) (hk : k + 1 < 64) (hN : N < 800000) (a : Option Addr) (c : Nat) (d : List UInt8) (hv : Sl w (.slice a d.length c) d) (hva : c ≠ 0 → ∀ ad, a = some ad → ¬ F ad.block) (hl : d.length ≤ 400) (hc : (S.rcd k).count < 9223372036854775807) :
    Calls Tryz.prog 47 #[.pointer (some ⟨b, 0, none⟩), .int .i64 k, .slice a d.length c] w fun e w' => e = .returned (.int .i64 (S.store k d).1) ∧ ∃ F', Run w0 w' b (N + 6) F' (S.store k d).2 ∧ (∀ j, F' j → F j ∨ w.heap.size ≤ j) ∧ Kept F w w' := by
  refine (Store_dev h.dev h.foot h.bel.size k (by rw [hlen]; exact hk) hN a d.length c d hv hva hl rfl hc).mono ?_
  rintro e w' ⟨rfl, ⟨F', f1, f2, f3⟩, k1⟩
  exact ⟨rfl, F', h.of f3 f1 k1, f2, k1⟩

theorem St.fuseK_newest (S : St) (k : Int) (n : Nat) : (S.fuseK k).newest n = S.newest n := by unfold St.fuseK; split <;> rfl
theorem St.fuseK_rcd (S : St) (k : Int) (n : Nat) : (S.fuseK k).rcd n = S.rcd n := St.rcd_of (S.fuseK_newest k n) (S.fuseK_newest k (n + 1))
theorem St.fuseK_len (S : St) (k : Int) : (S.fuseK k).safe.length = S.safe.length := by unfold St.fuseK; split <;> rfl
theorem St.fuseK_down (S : St) (k : Int) : (S.fuseK k).down = S.down := by
  unfold St.fuseK
  split
  · rfl
  · rfl
theorem St.fuseK_pend (S : St) (k : Int) : (S.fuseK k).pend = S.pend := by unfold St.fuseK; split <;> rfl

/-- Where nothing is pending at its place a crash leaves a record. -/
theorem crash_rcd {S : St} {k : Nat} (h : S.calm k) (hk : k + 1 < S.safe.length) (ps : List Int) : (S.crash ps).rcd k = S.rcd k :=
  St.rcd_of (crash_calm S ps k (by omega) h.1) (crash_calm S ps (k + 1) hk h.2)

/-- A store that goes well, or the device is down behind it, and a crash then keeps the old record or the new one. -/
theorem store_cases {S : St} (hlen : S.safe.length = 64) (k : Nat) (hk : k + 1 < 64) (hd : S.down = false) (hcalm : S.calm k) (hla : (S.rcd k).laid = true) (hc : (S.rcd k).count < 9223372036854775807) (d : List UInt8) (hl : d.length ≤ 400) :
    ((S.store k d).1 = 0 ∧ Put S (S.store k d).2 k ((S.rcd k).count + 1) d) ∨
    ((S.store k d).1 = 2 ∧ (S.store k d).2.down = true ∧ (S.store k d).2.safe.length = 64 ∧ ∀ ps, ((S.store k d).2.crash ps).rcd k = S.rcd k ∨ ((S.store k d).2.crash ps).rcd k = ⟨true, ((S.rcd k).turn + 1) % 4294967296, (S.rcd k).count + 1, d⟩) := by
  have hc0 := (S.rcd_is k).2.1
  by_cases hr : S.reads
  · have hX : S.burn.burn.down = false := by rw [St.well_up hr.2.2, St.well_up hr.2.1]; exact hd
    have hs : S.store k d = S.burn.burn.putF (S.elder k) (S.nextB k ((S.rcd k).count + 1) d) := by unfold St.store; rw [if_pos hr, if_pos hla]
    by_cases h1 : S.burn.burn.well
    · by_cases h2 : (S.burn.burn.burn.wrote (S.elder k) (S.nextB k ((S.rcd k).count + 1) d)).well
      · left
        have := putF_good (S := S) (k := k) (by rw [hlen]; exact hk) (by rw [hlen]; decide) hd _ rfl hX (cnt := (S.rcd k).count + 1) (d := d) (by omega) (by omega) hl h1 h2
        rw [hs, this.1]
        exact ⟨rfl, this.2⟩
      · right
        have e : S.store k d = (2, (S.burn.burn.burn.wrote (S.elder k) (S.nextB k ((S.rcd k).count + 1) d)).burn) := by rw [hs]; unfold St.putF; rw [if_pos h1, if_neg h2]
        rw [e]
        exact ⟨rfl, St.unwell h2, hlen, fun ps => putF_stop (by rw [hlen]; exact hk) (by rw [hlen]; decide) hcalm (by omega) (by omega) hl _ (.inr rfl) ps⟩
    · right
      have e : S.store k d = (2, S.burn.burn.burn) := by rw [hs]; unfold St.putF; rw [if_neg h1]
      rw [e]
      exact ⟨rfl, St.unwell h1, hlen, fun ps => putF_stop (cnt := (S.rcd k).count + 1) (d := d) (by rw [hlen]; exact hk) (by rw [hlen]; decide) hcalm (by omega) (by omega) hl _ (.inl rfl) ps⟩
  · right
    have e : S.store k d = (2, S.halted) := by unfold St.store; rw [if_neg hr]
    rw [e]
    refine ⟨rfl, St.halted_down hr, by show S.halted.safe.length = 64; rw [St.halted_safe]; exact hlen, fun ps => .inl ?_⟩
    have hp := S.halted_pend
    have hn : ∀ n, S.halted.newest n = S.newest n := fun n => by unfold St.newest; rw [hp, S.halted_safe]
    exact (crash_rcd (S := S.halted) ⟨by rw [hp]; exact hcalm.1, by rw [hp]; exact hcalm.2⟩ (by rw [S.halted_safe, hlen]; exact hk) ps).trans (St.rcd_of (hn k) (hn (k + 1)))
end Go.Proofs.YtfnhhjpebilacaaGreat
