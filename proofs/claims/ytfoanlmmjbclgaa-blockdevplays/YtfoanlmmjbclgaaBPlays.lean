/-
  BlockdevPlays: for every number of blocks and every slice of calls it returns true, and its arguments read as before. Conditions: none.
-/
import Derived.Test.YtfoanlmmjbclgaaM4
import Derived.Test.YtfoanlmmjbclgaaRows
import Derived.OpenShut
namespace Go.Proofs.Ytfoanlmmjbclgaa
open Go.ChangeShapes Go.WideShapes Go.ChangeAt Go.RowKit
set_option linter.unusedVariables false
set_option maxRecDepth 20000

theorem bst_start {w w1 w2 w3 w4 w6 : World} {n b0 b1 r0 r1 sg sc sg' sc' : Nat} {pv pv' : Value} {ps ps' : List (Nat × List UInt8)} {fz fz' : Int} (hb1 : Below w.heap.size w w1)
    (d2 : Dev w2 b0 (fun k => w1.heap.size ≤ k ∧ k < w2.heap.size) 0 (St.new n)) (bl2 : Below w1.heap.size w1 w2)
    (r3 : RDAt w3 (fun q => w2.heap.size ≤ q ∧ q < w3.heap.size) r0 (St.new n) sg sc pv ps fz) (bl3 : Below w2.heap.size w2 w3)
    (d4 : Dev w4 b1 (fun k => w3.heap.size ≤ k ∧ k < w4.heap.size) (512 + 512) (St.new n)) (bl4 : Below w3.heap.size w3 w4)
    (r6 : RDAt w6 (fun q => w4.heap.size + 1 ≤ q ∧ q < w6.heap.size) r1 (St.new n) sg' sc' pv' ps' fz') (bl6 : Below (w4.heap.size + 1) (w4.alloc (.cells #[.pointer (some ⟨b0, 0, none⟩), .pointer (some ⟨b1, 0, none⟩)] 24)) w6) :
    ∃ H0 H1, Bst w (w6.alloc (.cells #[.pointer (some ⟨r0, 0, none⟩), .pointer (some ⟨r1, 0, none⟩)] 28)) w4.heap.size w6.heap.size b0 b1 r0 r1 600 H0 H1 := by
  have z1 := hb1.size
  have z2 := bl2.size
  have z3 := bl3.size
  have z4 := bl4.size
  have z5 : (w4.alloc (.cells #[.pointer (some ⟨b0, 0, none⟩), .pointer (some ⟨b1, 0, none⟩)] 24)).heap.size = w4.heap.size + 1 := by simp
  have z6 := bl6.size
  have z7 : (w6.alloc (.cells #[.pointer (some ⟨r0, 0, none⟩), .pointer (some ⟨r1, 0, none⟩)] 28)).heap.size = w6.heap.size + 1 := by simp
  have k7 : ∀ q, q < w4.heap.size → (w6.alloc (.cells #[.pointer (some ⟨r0, 0, none⟩), .pointer (some ⟨r1, 0, none⟩)] 28)).heap[q]? = w4.heap[q]? := fun q hq => by rw [Below.heap_alloc _ _ _ (by omega), bl6.block q (by omega), Below.heap_alloc _ _ _ hq]
  have k3 : ∀ q, q < w3.heap.size → (w6.alloc (.cells #[.pointer (some ⟨r0, 0, none⟩), .pointer (some ⟨r1, 0, none⟩)] 28)).heap[q]? = w3.heap[q]? := fun q hq => (k7 q (by omega)).trans (bl4.block q hq)
  refine ⟨fun q => w1.heap.size ≤ q ∧ q < w3.heap.size, fun q => (w3.heap.size ≤ q ∧ q < w4.heap.size) ∨ (w4.heap.size + 1 ≤ q ∧ q < w6.heap.size), ?_⟩
  exact
    { p0 := ⟨St.new n, fun k => w1.heap.size ≤ k ∧ k < w2.heap.size, fun q => w2.heap.size ≤ q ∧ q < w3.heap.size,
        { dev := (d2.frame fun k hk _ => by rw [k3 k (by omega), bl3.block k (by omega)]).mono (fun _ h => h) (by omega), ref := ⟨sg, sc, pv, ps, fz, r3.same fun q hq => k3 q hq.2⟩, hF := fun q hq => by omega, hG := fun q hq => by omega, ap := fun q h1 h2 => by omega, lo := fun q hq => by omega, n1 := by omega }⟩
      p1 := ⟨St.new n, fun k => w3.heap.size ≤ k ∧ k < w4.heap.size, fun q => w4.heap.size + 1 ≤ q ∧ q < w6.heap.size,
        { dev := (d4.tight (M := 600) (by omega) (by show (0 : Int) ≤ _; omega) (fun k => by show ([] : List (List UInt8)).length ≤ _; simp)).frame fun k hk _ => k7 k hk.2, ref := ⟨sg', sc', pv', ps', fz', r6.same fun q hq => Below.heap_alloc _ _ _ hq.2⟩, hF := fun q hq => .inl hq, hG := fun q hq => .inr hq, ap := fun q h1 h2 => by omega, lo := fun q hq => by omega, n1 := by omega }⟩
      ap := fun q h1 h2 => by omega
      ds := by rw [Below.heap_alloc _ _ _ (by omega), bl6.block _ (by omega)]; exact heap_alloc_self _ _
      ms := heap_alloc_self _ _
      d0 := fun h => by omega
      d1 := fun h => by omega
      m0 := fun h => by omega
      m1 := fun h => by omega
      ld := by omega
      lm := by omega
      bel := by
        have a := ((hb1.trans (bl2.mono z1)).trans (bl3.mono (by omega))).trans (bl4.mono (by omega))
        exact ((a.alloc (by omega) _).trans (bl6.mono (by omega))).alloc (by omega) _ }

set_option maxRecDepth 100000 in
set_option maxHeartbeats 32000000 in
theorem BPlays.walk (blocks : Int) (v0 : Value) (cs : List Cl) (B : Nat) (w : World) (hs : BClL w v0 cs B) (hB : B ≤ 140737488351232) :
    Calls Try.prog 3 #[.int .i64 blocks, v0] w fun e w' => e = .returned (.bool true) ∧ Below w.heap.size w w' := by
  have HS0 := hide hs
  obtain ⟨so, scap, rfl, hs1, _⟩ := hs
  obtain ⟨ns, hns⟩ : ∃ n, n = cs.length := ⟨_, rfl⟩
  rw [← hns] at hs1 HS0 ⊢
  have HNs := hide hns
  have hsi : (ns : Int) ≤ 9223372036854775807 := by omega
  clear hns
  by_cases hin : 64 ≤ blocks ∧ blocks ≤ 512
  · obtain ⟨n, hn⟩ : ∃ n : Nat, blocks = (n : Int) := ⟨blocks.toNat, by omega⟩
    subst hn
    have hn1 : 64 ≤ n := by omega
    have hn2 : n ≤ 512 := by omega
    clear hin
    go_enter Try.func3, Try.ntmps3
    go_wp2_with fail
    refine (awake_any _).mono ?_
    rintro e w1 ⟨rfl, b1⟩
    have HB1 := hide b1
    clear b1
    go_wp2_with fail
    refine (New_dev n w1 hn1 hn2).mono ?_
    rintro e w2 ⟨rfl, d2, bl2⟩
    have D2 := hide d2
    have BL2 := hide bl2
    obtain ⟨b0, hb0⟩ : ∃ b0, b0 = w1.heap.size + 2 := ⟨_, rfl⟩
    rw [← hb0] at D2 ⊢
    clear d2 bl2 hb0
    go_wp2_with fail
    refine (rNew_go w2 n hn1 hn2).mono ?_
    rintro e w3 ⟨r0, sg, sc, rfl, r3, bl3⟩
    have R3 := hide r3
    have BL3 := hide bl3
    have CD := hide (Copy_dev (((unhide D2).grown bl3).mono (M := 512) (fun _ h => h) (by omega)) (by omega))
    clear r3 bl3
    go_wp2_with fail
    refine (unhide CD).mono ?_
    rintro e w4 ⟨b1', rfl, d4, bl4⟩
    have D4 := hide d4
    have BL4 := hide bl4
    have hb5 : Below w4.heap.size w4 (w4.alloc (.cells #[.pointer (some ⟨b0, 0, none⟩), .pointer (some ⟨b1', 0, none⟩)] 24)) := (Below.refl _ _).alloc (Nat.le_refl _) _
    have CR := hide (rCopy_go (w := w4.alloc (.cells #[.pointer (some ⟨b0, 0, none⟩), .pointer (some ⟨b1', 0, none⟩)] 24)) ((unhide R3).same fun q hq => by rw [Below.heap_alloc _ _ _ (by have := bl4.size; omega), bl4.block q hq.2]) (fun q hq => by have := bl4.size; have := hb5.size; omega) (by show (0 : Int) < _; omega))
    clear d4 bl4 hb5 CD
    go_wp2_with fail
    refine (unhide CR).mono ?_
    rintro e w6 ⟨r1', sg', sc', pv', ps', fz', rfl, r6, bl6⟩
    simp only [World.size_alloc] at r6 bl6
    obtain ⟨H0, H1, st0⟩ := bst_start (unhide HB1) (unhide D2) (unhide BL2) (unhide R3) (unhide BL3) (unhide D4) (unhide BL4) r6 bl6
    have STS := hide st0
    clear r6 bl6 st0 CR D2 BL2 R3 BL3 D4 BL4 HB1
    go_wp2_with fail
    obtain ⟨db, hdb⟩ : ∃ db, db = w4.heap.size := ⟨_, rfl⟩
    obtain ⟨mb, hmb⟩ : ∃ mb, mb = w6.heap.size := ⟨_, rfl⟩
    obtain ⟨W0, hW0⟩ : ∃ W0, W0 = w6.alloc (.cells #[.pointer (some ⟨r0, 0, none⟩), .pointer (some ⟨r1', 0, none⟩)] 28) := ⟨_, rfl⟩
    rw [← hW0, ← hdb, ← hmb] at STS
    rw [← hW0, ← hdb, ← hmb]
    clear hW0 hdb hmb
    go_loopw [12] (fun i W => ∃ (j b0 b1 r0 r1 : Nat) (H0 H1 : Nat → Prop), i = .int .i64 (j : Int) ∧ j ≤ 400 ∧ Hid (Bst w W db mb b0 b1 r0 r1 (600 + 2 * j) H0 H1)) (fun i _ => 400 - (intOf i).toNat)
    case atStart => exact ⟨0, _, _, _, _, _, _, rfl, by omega, STS⟩
    case round =>
      obtain ⟨j, b0, b1, r0, r1, H0, H1, rfl, hj, ST⟩ := hrel
      clear STS
      by_cases hlt : j < ns ∧ j < 400
      · have hl1 : (j : Int) < (ns : Int) := by omega
        have hl2 : (j : Int) < 400 := by omega
        have hjl : j < cs.length := by rw [← unhide HNs]; exact hlt.1
        obtain ⟨pb, off, hso, hpb, hat, ⟨v5, hv5, in5, nf5⟩, hhd, hpl⟩ : ∃ pb off, so = some ⟨pb, off, none⟩ ∧ pb < w.heap.size ∧ ClAt w pb (off + j * 6) cs[j] ∧ (∃ v, w.cell? ⟨pb, off + j * 6 + 5, none⟩ = some v ∧ Ints w v cs[j].picks ∧ nilF v) ∧ cs[j].head.size ≤ 9223372036854775807 ∧ cs[j].picks.length * 8 ≤ B := by
          obtain ⟨ao', cap', e, _, h4⟩ := unhide HS0
          injection e with e1 e2 e3
          subst e1
          obtain ⟨pb, off, e, h5, h6⟩ := h4 (by omega)
          exact ⟨pb, off, e, h5, h6 j hjl⟩
        subst hso
        have HCC : Hid (∀ A, Below w.heap.size w A → A.cell? ⟨pb, off + j * 6, none⟩ = some (.int .i64 cs[j].kind) ∧ A.cell? ⟨pb, off + j * 6 + 1, none⟩ = some (.bool cs[j].two) ∧ A.cell? ⟨pb, off + j * 6 + 2, none⟩ = some (.int .i64 cs[j].n) ∧ A.cell? ⟨pb, off + j * 6 + 3, none⟩ = some (.int .i64 cs[j].fill) ∧ A.cell? ⟨pb, off + j * 6 + 4, none⟩ = some (.string cs[j].head) ∧ A.cell? ⟨pb, off + j * 6 + 5, none⟩ = some v5) := hide (fun A hA => ⟨(hA.cell (p := ⟨pb, _, none⟩) hpb).trans hat.c0, (hA.cell (p := ⟨pb, _, none⟩) hpb).trans hat.c1, (hA.cell (p := ⟨pb, _, none⟩) hpb).trans hat.c2, (hA.cell (p := ⟨pb, _, none⟩) hpb).trans hat.c3, (hA.cell (p := ⟨pb, _, none⟩) hpb).trans hat.c4, (hA.cell (p := ⟨pb, _, none⟩) hpb).trans hv5⟩)
        have hi2 := hat.i2
        have hi3 := hat.i3
        obtain ⟨pa, pl, pc, hv5e, hnil⟩ := nf5
        subst hv5e
        have HIN : Hid (∀ A, Below w.heap.size w A → Ints A (.slice pa pl pc) cs[j].picks) := hide (fun A hA => in5.below hA (Nat.le_refl _))
        have HHD := hide hhd
        have HPL : Hid (cs[j].picks.length * 8 ≤ 140737488351232) := hide (by omega)
        obtain ⟨kind, hkind⟩ : ∃ x, x = cs[j].kind := ⟨_, rfl⟩
        obtain ⟨two, htwo⟩ : ∃ x, x = cs[j].two := ⟨_, rfl⟩
        obtain ⟨num, hnum⟩ : ∃ x, x = cs[j].n := ⟨_, rfl⟩
        obtain ⟨fill, hfill⟩ : ∃ x, x = cs[j].fill := ⟨_, rfl⟩
        obtain ⟨hd, hhde⟩ : ∃ x, x = cs[j].head := ⟨_, rfl⟩
        obtain ⟨pk, hpk⟩ : ∃ x, x = cs[j].picks := ⟨_, rfl⟩
        rw [← hkind, ← htwo, ← hnum, ← hfill, ← hhde] at HCC
        rw [← hnum] at hi2
        rw [← hfill] at hi3
        rw [← hhde] at HHD
        rw [← hpk] at HIN HPL
        obtain ⟨d0, d1, d2, d3, d4, d5⟩ := unhide HCC wr (unhide ST).bel
        obtain ⟨x0, x1, y0, y1⟩ := (unhide ST).cells
        have HBW := hide (unhide ST).bel.size
        clear hat hv5 in5 hhd hpl hkind htwo hnum hfill hhde hpk hlt
        cases two with
        | false =>
          obtain ⟨S, p⟩ := (unhide ST).p0
          have PP := hide p
          clear p
          by_cases k7 : kind = 7
          · subst k7
            obtain ⟨F, G, pp⟩ := unhide PP
            obtain ⟨sg, sc, pv, ps, fz, hr⟩ := pp.ref
            have hob := pp.dev.bnd.1
            have CD := hide (Copy_dev pp.dev (by omega))
            have HR := hide hr
            have HGL : Hid (∀ q, G q → q < wr.heap.size ∧ q ≠ db ∧ q ≠ mb) := hide (fun q hq => ⟨(pp.lo q (pp.hG q hq)).2, fun e => (unhide ST).d0 (e ▸ pp.hG q hq), fun e => (unhide ST).m0 (e ▸ pp.hG q hq)⟩)
            clear pp hr
            go_wp2_with fail
            refine (unhide CD).mono ?_
            rintro e w2 ⟨b2, rfl, dd2, bl2⟩
            have DD2 := hide dd2
            have BL2 := hide bl2
            have hds2 := (bl2.block db (lt_of_block (unhide ST).ds)).trans (unhide ST).ds
            have c2 : w2.cell? ⟨db, 1, none⟩ = some (.pointer (some ⟨b1, 0, none⟩)) := (cell_of_row _ _ _ _ _ _ hds2).trans rfl
            have f2 := frozen_of_row w2 db 1 _ _ hds2
            obtain ⟨W3, hW3⟩ : ∃ W3, W3 = w2.setCell ⟨db, 1, none⟩ (.pointer (some ⟨b2, 0, none⟩)) := ⟨_, rfl⟩
            have z3 : W3.heap.size = w2.heap.size := by rw [hW3]; simp [World.setCell]
            have hms3 : W3.heap[mb]? = _ := (by rw [hW3, heap_setCell_other _ _ _ _ (show mb ≠ db from fun e => by
                have h1 := (unhide ST).ds
                have h2 := (unhide ST).ms
                rw [e, h1] at h2
                simp only [Option.some.injEq, Obj.cells.injEq] at h2
                exact absurd h2.2.1 (by decide)), bl2.block mb (lt_of_block (unhide ST).ms)] : W3.heap[mb]? = wr.heap[mb]?).trans (unhide ST).ms
            have m3 : W3.cell? ⟨mb, 0, none⟩ = some (.pointer (some ⟨r0, 0, none⟩)) := (cell_of_row _ _ _ _ _ _ hms3).trans rfl
            have CR := hide (rCopy_go (w := W3) ((unhide HR).same fun q hq => by rw [hW3, heap_setCell_other _ _ _ _ (unhide HGL q hq).2.1, bl2.block q (unhide HGL q hq).1]) (fun q hq => by have := (unhide HGL q hq).1; have := bl2.size; omega) (by omega))
            have HMS := hide hms3
            have HW3 := hide hW3
            clear dd2 bl2 hds2 z3 hms3 CD d0 d1 d2 d3 d4 d5 hW3
            go_upto_region 18 with fail
            rw [← unhide HW3]
            clear c2 f2 x0 x1 y0 y1
            go_wp2_with fail
            refine (unhide CR).mono ?_
            rintro e w4 ⟨r2, sg', sc', pv', ps', fz', rfl, r4, bl4⟩
            have hms4 := (bl4.block mb (lt_of_block (unhide HMS))).trans (unhide HMS)
            have c4 : w4.cell? ⟨mb, 1, none⟩ = some (.pointer (some ⟨r1, 0, none⟩)) := (cell_of_row _ _ _ _ _ _ hms4).trans rfl
            have f4 := frozen_of_row w4 mb 1 _ _ hms4
            have NX : Hid (∃ H', Bst w (w4.setCell ⟨mb, 1, none⟩ (.pointer (some ⟨r2, 0, none⟩))) db mb b0 b2 r0 r2 (600 + 2 * j) H0 H') := hide ((unhide ST).copy1 (unhide PP) (unhide DD2) (unhide BL2) (unhide HW3) r4 bl4 rfl)
            clear r4 bl4 hms4 CR m3
            go_wp2
            go_roundw
            case rel =>
              obtain ⟨H', nx⟩ := unhide NX
              exact ⟨j + 1, _, _, _, _, _, _, rfl, by omega, hide (nx.mono (by omega))⟩
            case measure => simp [intOf]; omega
          · have kb7 : (kind == 7) = false := beq_eq_false_iff_ne.2 k7
            have DO : Hid (Calls Try.prog 9 #[.pointer (some ⟨b0, 0, none⟩), .pointer (some ⟨r0, 0, none⟩), .agg #[.int .i64 kind, .bool false, .int .i64 num, .int .i64 fill, .string hd, .slice pa pl pc]] wr.drew (DoPost w wr.drew b0 r0 (600 + 2 * j) H0)) := hide (do_any (((unhide PP).same (W' := wr.drew) (Nat.le_refl _) fun _ _ => rfl)) (by omega) (unhide HBW) kind false num fill hi2.1 hi2.2 hi3.1 hi3.2 hd (unhide HHD) pa pl pc pk (fun A hA => unhide HIN A (kept_below (W := wr.drew) (unhide ST).bel.drew hA fun q hq => ((unhide PP).lo q hq).1)) hnil (unhide HPL))
            have S0 : Hid (wr.drew.cell? ⟨db, 0, none⟩ = some (.pointer (some ⟨b0, 0, none⟩)) ∧ wr.drew.cell? ⟨mb, 0, none⟩ = some (.pointer (some ⟨r0, 0, none⟩)) ∧ wr.drew.cell? ⟨pb, off + j * 6, none⟩ = some (.int .i64 kind) ∧ wr.drew.cell? ⟨pb, off + j * 6 + 1, none⟩ = some (.bool false) ∧ wr.drew.cell? ⟨pb, off + j * 6 + 2, none⟩ = some (.int .i64 num) ∧ wr.drew.cell? ⟨pb, off + j * 6 + 3, none⟩ = some (.int .i64 fill) ∧ wr.drew.cell? ⟨pb, off + j * 6 + 4, none⟩ = some (.string hd) ∧ wr.drew.cell? ⟨pb, off + j * 6 + 5, none⟩ = some (.slice pa pl pc)) := hide ⟨x0, y0, d0, d1, d2, d3, d4, d5⟩
            have NXT : Hid (∀ W', Did w wr.drew W' b0 r0 (600 + 2 * j) H0 → (∃ H', Bst w W' db mb b0 b1 r0 r1 (600 + 2 * (j + 1)) H' H1) ∧ (W'.cell? ⟨db, 0, none⟩ = some (.pointer (some ⟨b0, 0, none⟩)) ∧ W'.cell? ⟨mb, 0, none⟩ = some (.pointer (some ⟨r0, 0, none⟩)) ∧ W'.cell? ⟨pb, off + j * 6, none⟩ = some (.int .i64 kind) ∧ W'.cell? ⟨pb, off + j * 6 + 1, none⟩ = some (.bool false) ∧ W'.cell? ⟨pb, off + j * 6 + 2, none⟩ = some (.int .i64 num) ∧ W'.cell? ⟨pb, off + j * 6 + 3, none⟩ = some (.int .i64 fill) ∧ W'.cell? ⟨pb, off + j * 6 + 4, none⟩ = some (.string hd) ∧ W'.cell? ⟨pb, off + j * 6 + 5, none⟩ = some (.slice pa pl pc))) := hide (fun W' hdd => by
              obtain ⟨H', nx⟩ := ((unhide ST).grown (W' := wr.drew) (Below.refl _ _).drew).did0 hdd
              refine ⟨⟨H', nx.mono (by omega)⟩, ?_⟩
              obtain ⟨q0, q1, q2, q3⟩ := nx.cells
              obtain ⟨e0, e1, e2, e3, e4, e5⟩ := unhide HCC W' nx.bel
              exact ⟨q0, q2, e0, e1, e2, e3, e4, e5⟩)
            have j0 : (0 : Int) ≤ (j : Int) := Int.natCast_nonneg _
            go_upto_region 19 with fail
            clear x0 x1 y0 y1 d0 d1 d2 d3 d4 d5
            go_region_held3 (fun w' => w'.cell? ⟨db, 0, none⟩ = some (.pointer (some ⟨b0, 0, none⟩)) ∧ w'.cell? ⟨mb, 0, none⟩ = some (.pointer (some ⟨r0, 0, none⟩)) ∧ w'.cell? ⟨pb, off + j * 6, none⟩ = some (.int .i64 kind) ∧ w'.cell? ⟨pb, off + j * 6 + 1, none⟩ = some (.bool false) ∧ w'.cell? ⟨pb, off + j * 6 + 2, none⟩ = some (.int .i64 num) ∧ w'.cell? ⟨pb, off + j * 6 + 3, none⟩ = some (.int .i64 fill) ∧ w'.cell? ⟨pb, off + j * 6 + 4, none⟩ = some (.string hd) ∧ w'.cell? ⟨pb, off + j * 6 + 5, none⟩ = some (.slice pa pl pc))
              (first | exact unhide S0 | exact unhide S2)
              ((go_at_call 9; refine (unhide DO).mono ?_; rintro e w5 hdp; have he := hdp.1; subst he; have NX := hide (unhide NXT w5 hdp.2).1; have S2 := hide (unhide NXT w5 hdp.2).2; clear hdp))
            all_goals
              clear S0 NXT DO
              go_wp2
              go_roundw
              case rel =>
                obtain ⟨H', nx⟩ := unhide NX
                exact ⟨j + 1, _, _, _, _, _, _, rfl, by omega, hide nx⟩
              case measure => simp [intOf]; omega
        | true =>
          obtain ⟨S, p⟩ := (unhide ST).p1
          have PP := hide p
          clear p
          by_cases k7 : kind = 7
          · subst k7
            obtain ⟨F, G, pp⟩ := unhide PP
            obtain ⟨sg, sc, pv, ps, fz, hr⟩ := pp.ref
            have hob := pp.dev.bnd.1
            have CD := hide (Copy_dev pp.dev (by omega))
            have HR := hide hr
            have HGL : Hid (∀ q, G q → q < wr.heap.size ∧ q ≠ db ∧ q ≠ mb) := hide (fun q hq => ⟨(pp.lo q (pp.hG q hq)).2, fun e => (unhide ST).d1 (e ▸ pp.hG q hq), fun e => (unhide ST).m1 (e ▸ pp.hG q hq)⟩)
            clear pp hr
            go_wp2_with fail
            refine (unhide CD).mono ?_
            rintro e w2 ⟨b2, rfl, dd2, bl2⟩
            have DD2 := hide dd2
            have BL2 := hide bl2
            have hds2 := (bl2.block db (lt_of_block (unhide ST).ds)).trans (unhide ST).ds
            have c2 : w2.cell? ⟨db, 0, none⟩ = some (.pointer (some ⟨b0, 0, none⟩)) := (cell_of_row _ _ _ _ _ _ hds2).trans rfl
            have f2 := frozen_of_row w2 db 0 _ _ hds2
            obtain ⟨W3, hW3⟩ : ∃ W3, W3 = w2.setCell ⟨db, 0, none⟩ (.pointer (some ⟨b2, 0, none⟩)) := ⟨_, rfl⟩
            have z3 : W3.heap.size = w2.heap.size := by rw [hW3]; simp [World.setCell]
            have hms3 : W3.heap[mb]? = _ := (by rw [hW3, heap_setCell_other _ _ _ _ (show mb ≠ db from fun e => by
                have h1 := (unhide ST).ds
                have h2 := (unhide ST).ms
                rw [e, h1] at h2
                simp only [Option.some.injEq, Obj.cells.injEq] at h2
                exact absurd h2.2.1 (by decide)), bl2.block mb (lt_of_block (unhide ST).ms)] : W3.heap[mb]? = wr.heap[mb]?).trans (unhide ST).ms
            have m3 : W3.cell? ⟨mb, 1, none⟩ = some (.pointer (some ⟨r1, 0, none⟩)) := (cell_of_row _ _ _ _ _ _ hms3).trans rfl
            have CR := hide (rCopy_go (w := W3) ((unhide HR).same fun q hq => by rw [hW3, heap_setCell_other _ _ _ _ (unhide HGL q hq).2.1, bl2.block q (unhide HGL q hq).1]) (fun q hq => by have := (unhide HGL q hq).1; have := bl2.size; omega) (by omega))
            have HMS := hide hms3
            have HW3 := hide hW3
            clear dd2 bl2 hds2 z3 hms3 CD d0 d1 d2 d3 d4 d5 hW3
            go_upto_region 18 with fail
            rw [← unhide HW3]
            clear c2 f2 x0 x1 y0 y1
            go_wp2_with fail
            refine (unhide CR).mono ?_
            rintro e w4 ⟨r2, sg', sc', pv', ps', fz', rfl, r4, bl4⟩
            have hms4 := (bl4.block mb (lt_of_block (unhide HMS))).trans (unhide HMS)
            have c4 : w4.cell? ⟨mb, 0, none⟩ = some (.pointer (some ⟨r0, 0, none⟩)) := (cell_of_row _ _ _ _ _ _ hms4).trans rfl
            have f4 := frozen_of_row w4 mb 0 _ _ hms4
            have NX : Hid (∃ H', Bst w (w4.setCell ⟨mb, 0, none⟩ (.pointer (some ⟨r2, 0, none⟩))) db mb b2 b1 r2 r1 (600 + 2 * j) H' H1) := hide ((unhide ST).copy0 (unhide PP) (unhide DD2) (unhide BL2) (unhide HW3) r4 bl4 rfl)
            clear r4 bl4 hms4 CR m3
            go_wp2
            go_roundw
            case rel =>
              obtain ⟨H', nx⟩ := unhide NX
              exact ⟨j + 1, _, _, _, _, _, _, rfl, by omega, hide (nx.mono (by omega))⟩
            case measure => simp [intOf]; omega
          · have kb7 : (kind == 7) = false := beq_eq_false_iff_ne.2 k7
            have DO : Hid (Calls Try.prog 9 #[.pointer (some ⟨b1, 0, none⟩), .pointer (some ⟨r1, 0, none⟩), .agg #[.int .i64 kind, .bool true, .int .i64 num, .int .i64 fill, .string hd, .slice pa pl pc]] wr.drew (DoPost w wr.drew b1 r1 (600 + 2 * j) H1)) := hide (do_any (((unhide PP).same (W' := wr.drew) (Nat.le_refl _) fun _ _ => rfl)) (by omega) (unhide HBW) kind true num fill hi2.1 hi2.2 hi3.1 hi3.2 hd (unhide HHD) pa pl pc pk (fun A hA => unhide HIN A (kept_below (W := wr.drew) (unhide ST).bel.drew hA fun q hq => ((unhide PP).lo q hq).1)) hnil (unhide HPL))
            have S0 : Hid (wr.drew.cell? ⟨db, 1, none⟩ = some (.pointer (some ⟨b1, 0, none⟩)) ∧ wr.drew.cell? ⟨mb, 1, none⟩ = some (.pointer (some ⟨r1, 0, none⟩)) ∧ wr.drew.cell? ⟨pb, off + j * 6, none⟩ = some (.int .i64 kind) ∧ wr.drew.cell? ⟨pb, off + j * 6 + 1, none⟩ = some (.bool true) ∧ wr.drew.cell? ⟨pb, off + j * 6 + 2, none⟩ = some (.int .i64 num) ∧ wr.drew.cell? ⟨pb, off + j * 6 + 3, none⟩ = some (.int .i64 fill) ∧ wr.drew.cell? ⟨pb, off + j * 6 + 4, none⟩ = some (.string hd) ∧ wr.drew.cell? ⟨pb, off + j * 6 + 5, none⟩ = some (.slice pa pl pc)) := hide ⟨x1, y1, d0, d1, d2, d3, d4, d5⟩
            have NXT : Hid (∀ W', Did w wr.drew W' b1 r1 (600 + 2 * j) H1 → (∃ H', Bst w W' db mb b0 b1 r0 r1 (600 + 2 * (j + 1)) H0 H') ∧ (W'.cell? ⟨db, 1, none⟩ = some (.pointer (some ⟨b1, 0, none⟩)) ∧ W'.cell? ⟨mb, 1, none⟩ = some (.pointer (some ⟨r1, 0, none⟩)) ∧ W'.cell? ⟨pb, off + j * 6, none⟩ = some (.int .i64 kind) ∧ W'.cell? ⟨pb, off + j * 6 + 1, none⟩ = some (.bool true) ∧ W'.cell? ⟨pb, off + j * 6 + 2, none⟩ = some (.int .i64 num) ∧ W'.cell? ⟨pb, off + j * 6 + 3, none⟩ = some (.int .i64 fill) ∧ W'.cell? ⟨pb, off + j * 6 + 4, none⟩ = some (.string hd) ∧ W'.cell? ⟨pb, off + j * 6 + 5, none⟩ = some (.slice pa pl pc))) := hide (fun W' hdd => by
              obtain ⟨H', nx⟩ := ((unhide ST).grown (W' := wr.drew) (Below.refl _ _).drew).did1 hdd
              refine ⟨⟨H', nx.mono (by omega)⟩, ?_⟩
              obtain ⟨q0, q1, q2, q3⟩ := nx.cells
              obtain ⟨e0, e1, e2, e3, e4, e5⟩ := unhide HCC W' nx.bel
              exact ⟨q1, q3, e0, e1, e2, e3, e4, e5⟩)
            have j0 : (0 : Int) ≤ (j : Int) := Int.natCast_nonneg _
            go_upto_region 19 with fail
            clear x0 x1 y0 y1 d0 d1 d2 d3 d4 d5
            go_region_held3 (fun w' => w'.cell? ⟨db, 1, none⟩ = some (.pointer (some ⟨b1, 0, none⟩)) ∧ w'.cell? ⟨mb, 1, none⟩ = some (.pointer (some ⟨r1, 0, none⟩)) ∧ w'.cell? ⟨pb, off + j * 6, none⟩ = some (.int .i64 kind) ∧ w'.cell? ⟨pb, off + j * 6 + 1, none⟩ = some (.bool true) ∧ w'.cell? ⟨pb, off + j * 6 + 2, none⟩ = some (.int .i64 num) ∧ w'.cell? ⟨pb, off + j * 6 + 3, none⟩ = some (.int .i64 fill) ∧ w'.cell? ⟨pb, off + j * 6 + 4, none⟩ = some (.string hd) ∧ w'.cell? ⟨pb, off + j * 6 + 5, none⟩ = some (.slice pa pl pc))
              (first | exact unhide S0 | exact unhide S2)
              ((go_at_call 9; refine (unhide DO).mono ?_; rintro e w5 hdp; have he := hdp.1; subst he; have NX := hide (unhide NXT w5 hdp.2).1; have S2 := hide (unhide NXT w5 hdp.2).2; clear hdp))
            all_goals
              clear S0 NXT DO
              go_wp2
              go_roundw
              case rel =>
                obtain ⟨H', nx⟩ := unhide NX
                exact ⟨j + 1, _, _, _, _, _, _, rfl, by omega, hide nx⟩
              case measure => simp [intOf]; omega
      · have ST := hide ((unhide ST).mono (show 600 + 2 * j ≤ 1400 by omega))
        have HLL : Hid (∀ K : Prop, ((¬ (j : Int) < (ns : Int)) → K) → (((j : Int) < (ns : Int) ∧ ¬ (j : Int) < 400) → K) → K) := hide (fun K h1 h2 => by
          by_cases e : (j : Int) < (ns : Int)
          · exact h2 ⟨e, fun h => hlt ⟨by omega, by omega⟩⟩
          · exact h1 e)
        clear hlt hj
        refine unhide HLL _ ?_ ?_
        all_goals intro hx
        all_goals try obtain ⟨hx1, hx2⟩ := hx
        all_goals go_wp2_with fail
        all_goals
          go_loopw [15] (fun i W => ∃ (k b0 b1 r0 r1 : Nat) (H0 H1 : Nat → Prop), i = .int .i64 (k : Int) ∧ k ≤ 2 ∧ Hid (Bst w W db mb b0 b1 r0 r1 (1400 + 1100 * k) H0 H1)) (fun i _ => 2 - (intOf i).toNat)
          case atStart => exact ⟨0, _, _, _, _, _, _, rfl, by omega, ST⟩
          case round =>
            obtain ⟨k, b0, b1, r0, r1, H0, H1, rfl, hk, ST⟩ := hrel
            obtain hk0 | hk1 | hk2 : k = 0 ∨ k = 1 ∨ k = 2 := by omega
            · subst hk0
              obtain ⟨S, p⟩ := (unhide ST).p0
              have PP := hide p
              obtain ⟨x0, x1, y0, y1⟩ := (unhide ST).cells
              have AS : Hid (Calls Try.prog 10 #[.pointer (some ⟨b0, 0, none⟩), .pointer (some ⟨r0, 0, none⟩)] wr.drew (AskPost wr.drew)) := hide (asked_go (p.same (W' := wr.drew) (Nat.le_refl _) fun _ _ => rfl) (by omega))
              have S0 : Hid (wr.drew.cell? ⟨db, 0, none⟩ = some (.pointer (some ⟨b0, 0, none⟩)) ∧ wr.drew.cell? ⟨mb, 0, none⟩ = some (.pointer (some ⟨r0, 0, none⟩))) := hide ⟨x0, y0⟩
              have NXT : Hid (∀ W', Below wr.heap.size wr.drew W' → Bst w W' db mb b0 b1 r0 r1 1400 H0 H1 ∧ Pr w W' b0 r0 1400 S H0 ∧ (W'.cell? ⟨db, 0, none⟩ = some (.pointer (some ⟨b0, 0, none⟩)) ∧ W'.cell? ⟨mb, 0, none⟩ = some (.pointer (some ⟨r0, 0, none⟩)))) := hide (fun W' hb => by
                have hb2 : Below wr.heap.size wr W' := (Below.refl _ _).drew.trans hb
                have st2 := (unhide ST).grown hb2
                obtain ⟨q0, q1, q2, q3⟩ := st2.cells
                exact ⟨st2, (unhide PP).grown hb2, q0, q2⟩)
              clear p
              go_upto_region 25 with fail
              clear x0 x1 y0 y1
              go_region_held3 (fun w' => w'.cell? ⟨db, 0, none⟩ = some (.pointer (some ⟨b0, 0, none⟩)) ∧ w'.cell? ⟨mb, 0, none⟩ = some (.pointer (some ⟨r0, 0, none⟩)))
                (first | exact unhide S0 | exact unhide S2)
                ((go_at_call 10; refine (unhide AS).mono ?_; rintro e w5 hdp; have he := hdp.1; subst he; have ST5 := hide (unhide NXT w5 hdp.2).1; have P5 := hide (unhide NXT w5 hdp.2).2.1; have S2 := hide (unhide NXT w5 hdp.2).2.2; clear hdp))
              all_goals
                clear S0 NXT AS PP ST
                obtain ⟨x0, y0⟩ := unhide S2
                have CB := hide (Crash_both (unhide P5) (by omega) [] (.slice none 0 0) ⟨none, 0, rfl, by simp, by simp, fun h => absurd rfl h⟩ (fun h => absurd rfl h))
                go_wp2_with fail
                refine (unhide CB).mono ?_
                rintro e w6 ⟨rfl, k6, c6⟩
                have C6 := hide (c6 none 0 0 (fun A hA => ⟨none, 0, rfl, by simp, by simp, fun h => absurd rfl h⟩))
                have hds6 := (k6.block db (lt_of_block (unhide ST5).ds) (unhide ST5).d0).trans (unhide ST5).ds
                have hms6 := (k6.block mb (lt_of_block (unhide ST5).ms) (unhide ST5).m0).trans (unhide ST5).ms
                have m6 : w6.cell? ⟨mb, 0, none⟩ = some (.pointer (some ⟨r0, 0, none⟩)) := (cell_of_row _ _ _ _ _ _ hms6).trans rfl
                clear c6 k6 CB hds6 hms6 x0 y0
                go_wp2_with fail
                refine (unhide C6).mono ?_
                rintro e w7 ⟨rfl, T7, p7, k7⟩
                obtain ⟨H7, st7⟩ := (unhide ST5).did0 ⟨T7, H0, p7, k7, fun q hq => .inl hq⟩
                have ST7 := hide st7
                clear st7 p7 k7 C6 m6 S2 P5 ST5
                go_wp2_with fail
                go_loopw [16, 17] (fun o i W => ∃ (n : Nat) (H' : Nat → Prop), o = .bool true ∧ i = .int .i64 (n : Int) ∧ n ≤ 512 ∧ Hid (Bst w W db mb b0 b1 r0 r1 (1400 + 2 + 2 * n) H' H1)) (fun _ i _ => 512 - (intOf i).toNat)
                case atStart => exact ⟨0, _, rfl, rfl, by omega, ST7⟩
                case round =>
                  obtain ⟨n, H', rfl, rfl, hn, SN⟩ := hrel
                  clear ST7
                  obtain ⟨Sn, pn⟩ := (unhide SN).p0
                  have PN := hide pn
                  obtain ⟨_, ⟨G, sg, sc, pv, ps, fz, hr⟩, hl5, _⟩ := pn.parts
                  have h0 := hr.head.1
                  obtain ⟨x0, x1, y0, y1⟩ := (unhide SN).cells
                  obtain ⟨Ls, hLs⟩ : ∃ Ls, Ls = Sn.safe.length := ⟨_, rfl⟩
                  rw [← hLs] at h0 hl5
                  have hLI : (Ls : Int) ≤ 512 := by omega
                  have HBW := hide (unhide SN).bel.size
                  clear pn hr hLs
                  by_cases hlt : n < Ls
                  · have hltI : (n : Int) < (Ls : Int) := by omega
                    have DO : Hid (Calls Try.prog 9 #[.pointer (some ⟨b0, 0, none⟩), .pointer (some ⟨r0, 0, none⟩), .agg #[.int .i64 1, .bool false, .int .i64 (n : Int), .int .i64 0, .string ⟨#[]⟩, .slice none 0 0]] wr.drew (DoPost w wr.drew b0 r0 (1400 + 2 + 2 * n) H')) := hide (do_any (((unhide PN).same (W' := wr.drew) (Nat.le_refl _) fun _ _ => rfl)) (by omega) (unhide HBW) 1 false (n : Int) 0 (by omega) (by omega) (by omega) (by omega) ⟨#[]⟩ (by decide) none 0 0 [] (fun A hA => ⟨none, 0, rfl, by simp, by simp, fun h => absurd rfl h⟩) (fun _ => ⟨rfl, rfl⟩) (by simp))
                    have S0 : Hid (wr.drew.cell? ⟨db, 0, none⟩ = some (.pointer (some ⟨b0, 0, none⟩)) ∧ wr.drew.cell? ⟨mb, 0, none⟩ = some (.pointer (some ⟨r0, 0, none⟩))) := hide ⟨x0, y0⟩
                    have NXT : Hid (∀ W', Did w wr.drew W' b0 r0 (1400 + 2 + 2 * n) H' → (∃ H'', Bst w W' db mb b0 b1 r0 r1 (1400 + 2 + 2 * (n + 1)) H'' H1) ∧ (W'.cell? ⟨db, 0, none⟩ = some (.pointer (some ⟨b0, 0, none⟩)) ∧ W'.cell? ⟨mb, 0, none⟩ = some (.pointer (some ⟨r0, 0, none⟩)))) := hide (fun W' hdd => by
                      obtain ⟨H'', nx⟩ := ((unhide SN).grown (W' := wr.drew) (Below.refl _ _).drew).did0 hdd
                      obtain ⟨q0, q1, q2, q3⟩ := nx.cells
                      exact ⟨⟨H'', nx.mono (by omega)⟩, q0, q2⟩)
                    go_upto_region 31 with fail
                    clear x0 x1 y0 y1 h0
                    go_region_held3 (fun w' => w'.cell? ⟨db, 0, none⟩ = some (.pointer (some ⟨b0, 0, none⟩)) ∧ w'.cell? ⟨mb, 0, none⟩ = some (.pointer (some ⟨r0, 0, none⟩)))
                      (first | exact unhide S0 | exact unhide S2)
                      ((go_at_call 9; refine (unhide DO).mono ?_; rintro e w5 hdp; have he := hdp.1; subst he; have NX := hide (unhide NXT w5 hdp.2).1; have S2 := hide (unhide NXT w5 hdp.2).2; clear hdp))
                    all_goals
                      clear S0 NXT DO
                      go_wp2
                      go_roundw
                      case rel =>
                        obtain ⟨H'', nx⟩ := unhide NX
                        exact ⟨n + 1, H'', rfl, by go_num, by omega, hide nx⟩
                      case measure => simp [intOf]; omega
                  · have hltI : ¬ (n : Int) < (Ls : Int) := by omega
                    have SN2 : Hid (Bst w wr db mb b0 b1 r0 r1 2500 H' H1) := hide ((unhide SN).mono (by omega))
                    go_wp2
                    go_roundw
                    case rel => exact ⟨1, _, _, _, _, _, _, rfl, by omega, SN2⟩
                    case measure => simp [intOf]
            · subst hk1
              obtain ⟨S, p⟩ := (unhide ST).p1
              have PP := hide p
              obtain ⟨x0, x1, y0, y1⟩ := (unhide ST).cells
              have AS : Hid (Calls Try.prog 10 #[.pointer (some ⟨b1, 0, none⟩), .pointer (some ⟨r1, 0, none⟩)] wr.drew (AskPost wr.drew)) := hide (asked_go (p.same (W' := wr.drew) (Nat.le_refl _) fun _ _ => rfl) (by omega))
              have S0 : Hid (wr.drew.cell? ⟨db, 1, none⟩ = some (.pointer (some ⟨b1, 0, none⟩)) ∧ wr.drew.cell? ⟨mb, 1, none⟩ = some (.pointer (some ⟨r1, 0, none⟩))) := hide ⟨x1, y1⟩
              have NXT : Hid (∀ W', Below wr.heap.size wr.drew W' → Bst w W' db mb b0 b1 r0 r1 2500 H0 H1 ∧ Pr w W' b1 r1 2500 S H1 ∧ (W'.cell? ⟨db, 1, none⟩ = some (.pointer (some ⟨b1, 0, none⟩)) ∧ W'.cell? ⟨mb, 1, none⟩ = some (.pointer (some ⟨r1, 0, none⟩)))) := hide (fun W' hb => by
                have hb2 : Below wr.heap.size wr W' := (Below.refl _ _).drew.trans hb
                have st2 := (unhide ST).grown hb2
                obtain ⟨q0, q1, q2, q3⟩ := st2.cells
                exact ⟨st2, (unhide PP).grown hb2, q1, q3⟩)
              clear p
              go_upto_region 25 with fail
              clear x0 x1 y0 y1
              go_region_held3 (fun w' => w'.cell? ⟨db, 1, none⟩ = some (.pointer (some ⟨b1, 0, none⟩)) ∧ w'.cell? ⟨mb, 1, none⟩ = some (.pointer (some ⟨r1, 0, none⟩)))
                (first | exact unhide S0 | exact unhide S2)
                ((go_at_call 10; refine (unhide AS).mono ?_; rintro e w5 hdp; have he := hdp.1; subst he; have ST5 := hide (unhide NXT w5 hdp.2).1; have P5 := hide (unhide NXT w5 hdp.2).2.1; have S2 := hide (unhide NXT w5 hdp.2).2.2; clear hdp))
              all_goals
                clear S0 NXT AS PP ST
                obtain ⟨x0, y0⟩ := unhide S2
                have CB := hide (Crash_both (unhide P5) (by omega) [] (.slice none 0 0) ⟨none, 0, rfl, by simp, by simp, fun h => absurd rfl h⟩ (fun h => absurd rfl h))
                go_wp2_with fail
                refine (unhide CB).mono ?_
                rintro e w6 ⟨rfl, k6, c6⟩
                have C6 := hide (c6 none 0 0 (fun A hA => ⟨none, 0, rfl, by simp, by simp, fun h => absurd rfl h⟩))
                have hds6 := (k6.block db (lt_of_block (unhide ST5).ds) (unhide ST5).d1).trans (unhide ST5).ds
                have hms6 := (k6.block mb (lt_of_block (unhide ST5).ms) (unhide ST5).m1).trans (unhide ST5).ms
                have m6 : w6.cell? ⟨mb, 1, none⟩ = some (.pointer (some ⟨r1, 0, none⟩)) := (cell_of_row _ _ _ _ _ _ hms6).trans rfl
                clear c6 k6 CB hds6 hms6 x0 y0
                go_wp2_with fail
                refine (unhide C6).mono ?_
                rintro e w7 ⟨rfl, T7, p7, k7⟩
                obtain ⟨H7, st7⟩ := (unhide ST5).did1 ⟨T7, H1, p7, k7, fun q hq => .inl hq⟩
                have ST7 := hide st7
                clear st7 p7 k7 C6 m6 S2 P5 ST5
                go_wp2_with fail
                go_loopw [16, 17] (fun o i W => ∃ (n : Nat) (H' : Nat → Prop), o = .bool true ∧ i = .int .i64 (n : Int) ∧ n ≤ 512 ∧ Hid (Bst w W db mb b0 b1 r0 r1 (2500 + 2 + 2 * n) H0 H')) (fun _ i _ => 512 - (intOf i).toNat)
                case atStart => exact ⟨0, _, rfl, rfl, by omega, ST7⟩
                case round =>
                  obtain ⟨n, H', rfl, rfl, hn, SN⟩ := hrel
                  clear ST7
                  obtain ⟨Sn, pn⟩ := (unhide SN).p1
                  have PN := hide pn
                  obtain ⟨_, ⟨G, sg, sc, pv, ps, fz, hr⟩, hl5, _⟩ := pn.parts
                  have h0 := hr.head.1
                  obtain ⟨x0, x1, y0, y1⟩ := (unhide SN).cells
                  obtain ⟨Ls, hLs⟩ : ∃ Ls, Ls = Sn.safe.length := ⟨_, rfl⟩
                  rw [← hLs] at h0 hl5
                  have hLI : (Ls : Int) ≤ 512 := by omega
                  have HBW := hide (unhide SN).bel.size
                  clear pn hr hLs
                  by_cases hlt : n < Ls
                  · have hltI : (n : Int) < (Ls : Int) := by omega
                    have DO : Hid (Calls Try.prog 9 #[.pointer (some ⟨b1, 0, none⟩), .pointer (some ⟨r1, 0, none⟩), .agg #[.int .i64 1, .bool false, .int .i64 (n : Int), .int .i64 0, .string ⟨#[]⟩, .slice none 0 0]] wr.drew (DoPost w wr.drew b1 r1 (2500 + 2 + 2 * n) H')) := hide (do_any (((unhide PN).same (W' := wr.drew) (Nat.le_refl _) fun _ _ => rfl)) (by omega) (unhide HBW) 1 false (n : Int) 0 (by omega) (by omega) (by omega) (by omega) ⟨#[]⟩ (by decide) none 0 0 [] (fun A hA => ⟨none, 0, rfl, by simp, by simp, fun h => absurd rfl h⟩) (fun _ => ⟨rfl, rfl⟩) (by simp))
                    have S0 : Hid (wr.drew.cell? ⟨db, 1, none⟩ = some (.pointer (some ⟨b1, 0, none⟩)) ∧ wr.drew.cell? ⟨mb, 1, none⟩ = some (.pointer (some ⟨r1, 0, none⟩))) := hide ⟨x1, y1⟩
                    have NXT : Hid (∀ W', Did w wr.drew W' b1 r1 (2500 + 2 + 2 * n) H' → (∃ H'', Bst w W' db mb b0 b1 r0 r1 (2500 + 2 + 2 * (n + 1)) H0 H'') ∧ (W'.cell? ⟨db, 1, none⟩ = some (.pointer (some ⟨b1, 0, none⟩)) ∧ W'.cell? ⟨mb, 1, none⟩ = some (.pointer (some ⟨r1, 0, none⟩)))) := hide (fun W' hdd => by
                      obtain ⟨H'', nx⟩ := ((unhide SN).grown (W' := wr.drew) (Below.refl _ _).drew).did1 hdd
                      obtain ⟨q0, q1, q2, q3⟩ := nx.cells
                      exact ⟨⟨H'', nx.mono (by omega)⟩, q1, q3⟩)
                    go_upto_region 31 with fail
                    clear x0 x1 y0 y1 h0
                    go_region_held3 (fun w' => w'.cell? ⟨db, 1, none⟩ = some (.pointer (some ⟨b1, 0, none⟩)) ∧ w'.cell? ⟨mb, 1, none⟩ = some (.pointer (some ⟨r1, 0, none⟩)))
                      (first | exact unhide S0 | exact unhide S2)
                      ((go_at_call 9; refine (unhide DO).mono ?_; rintro e w5 hdp; have he := hdp.1; subst he; have NX := hide (unhide NXT w5 hdp.2).1; have S2 := hide (unhide NXT w5 hdp.2).2; clear hdp))
                    all_goals
                      clear S0 NXT DO
                      go_wp2
                      go_roundw
                      case rel =>
                        obtain ⟨H'', nx⟩ := unhide NX
                        exact ⟨n + 1, H'', rfl, by go_num, by omega, hide nx⟩
                      case measure => simp [intOf]; omega
                  · have hltI : ¬ (n : Int) < (Ls : Int) := by omega
                    have SN2 : Hid (Bst w wr db mb b0 b1 r0 r1 3600 H0 H') := hide ((unhide SN).mono (by omega))
                    go_wp2
                    go_roundw
                    case rel => exact ⟨2, _, _, _, _, _, _, rfl, by omega, SN2⟩
                    case measure => simp [intOf]
            · subst hk2
              have HBE := hide (unhide ST).bel
              go_wp2
              go_ret
              exact ⟨rfl, unhide HBE⟩
  · go_enter Try.func3, Try.ntmps3
    go_wp2_with fail
    refine (awake_any _).mono ?_
    rintro e w1 ⟨rfl, b1⟩
    have HB1 := hide b1
    clear b1
    go_wp2_with fail
    refine (New_bad blocks w1 (by omega)).mono ?_
    rintro e w2 ⟨rfl, rfl⟩
    go_wp2_with fail
    refine (rNew_no w1 blocks hin).mono ?_
    rintro e w3 ⟨rfl, rfl⟩
    go_wp2
    go_ret
    exact ⟨rfl, unhide HB1⟩

set_option maxRecDepth 100000 in
theorem BPlays.lifted (os : Os) (started : os.Started) (H : Type) (enc : TypeId × Value → H) :
    ReturnsInHanded {} Try.checked os 3 .any (Rows.blockdevPlaysSpec.pre6 enc Try.prog Try.f3 Rows.blockdevPlaysRow.domain false) (Rows.blockdevPlaysSpec.post enc Try.prog Try.f3 false true false false) := by
  refine returnsInHanded_of_change_sized (C := Try.checked) own_knob started (by kernel_rfl) Try.func3
    (ChangeSpec.witness6 (enc := enc) (C := Try.checked) false ⟨#[], #[.int .i64 0, .slice none 0 0], []⟩ 8 (by kernel_rfl) (by kernel_rfl) (by kernel_rfl) (by kernel_rfl)) ?_
  intro W base args ds gs before hval0 hW hcnd hsz0 hholds
  have hval : ∀ (j : Nat) t v, Try.f3.params[j]? = some t → args[j]? = some v → Value.okWide Try.prog W .any base t v := hval0
  have hsz : (DataW.weightsEach Try.prog (Try.f3.params.toList ++ Rows.blockdevPlaysSpec.plain.varTypes Try.prog) (ds ++ gs)).all (· ≤ reachBytes) = true := hsz0
  have hW' := hW
  obtain ⟨p, q, hA0, hV, rfl, hfz, hnd⟩ := hW
  have hA : DataW.TrodAll enc Try.prog W 0 (fun _ => true) true Try.f3.params.toList args.toList ds p := hA0
  rw [Try.params3] at hA hval hsz
  obtain ⟨v0, vs0, d0, ds0, p0, q0, e0, rfl, rfl, h0, hA⟩ := trodAll_cons hA
  obtain ⟨v1, vs1, d1, ds1, p1, q1, rfl, rfl, rfl, h1, hA⟩ := trodAll_cons hA
  obtain ⟨rfl, rfl, rfl⟩ := trodAll_nil hA
  obtain rfl : args = #[v0, v1] := by cases args; simp_all
  obtain ⟨rfl, rfl⟩ := trodVars_none hV
  obtain ⟨x0, rfl, rfl, rfl, w0⟩ := open_int Try.underlying3 (hval 0 3 v0 rfl rfl) h0
  obtain ⟨a1, len1, cap1, rfl⟩ := okWide_slice Try.underlying22 (hval 1 22 v1 rfl rfl)
  have k1 := h1
  have lt1 : ∀ x ∈ p1, x.block < W.heap.size := by obtain ⟨m, hm⟩ := k1; exact DataW.trod_lt m _ _ _ hm
  have hB : ∀ x ∈ d1.weights Try.prog 22, x ≤ 140737488351232 := fun x hx => by
    have := List.all_eq_true.1 hsz x (DataW.weights_mem_each (j := 1) (t := 22) rfl rfl x hx)
    have := of_decide_eq_true this
    simp only [reachBytes] at this
    omega
  obtain ⟨l, hl⟩ := open_callsB h1 hB
  clear hA0 hval0 hsz0
  refine (BPlays.walk x0 _ l _ W hl (Nat.le_refl _)).mono fun e W' ⟨he, bel⟩ => ?_
  subst he
  exact ⟨_, rfl, _, _, _, [], _, [], hW', trodAll_mk1 (shut_bool Try.underlying4 _), (trodAll_cons_mk (shut_int Try.underlying3 w0) (trodAll_cons_mk (Below.trod laid_out (by kernel_rfl) (of_decide_eq_true (by kernel_rfl)) k1 bel lt1) trodAll_mk0)), rfl, bel.frame _, fun h => by cases h⟩

theorem blockdevPlays_holds : Rows.BlockdevPlaysSaid :=
  OpenClaim.holds_of_wide 3 Try.f3 rfl rfl rfl rfl rfl rfl rfl ⟨rfl, rfl, rfl, rfl, rfl⟩ rfl rfl rfl rfl rfl (by kernel_rfl) Try.func3 (by kernel_rfl)
    (of_decide_eq_true (by kernel_rfl)) (by unfold Func.isWrapper; first | (rw [if_pos (by decide +kernel)]; kernel_rfl) | (rw [if_neg (by decide +kernel)]; exact ⟨rfl, rfl⟩))
    (fun os started H enc _ => BPlays.lifted os started H enc)
#print axioms blockdevPlays_holds
end Go.Proofs.Ytfoanlmmjbclgaa
