/-
  JournalAgain: for every slice of raw blocks, every int and every two slices of ints it returns true, and its arguments read as before. Conditions: none.
-/
import Derived.Test.YtgehefnkbcbldabM7
namespace Go.Proofs.Ytgehefnkbcbldab
open Go.ChangeShapes Go.WideShapes Go.ChangeAt Go.RowKit
set_option linter.unusedVariables false

theorem Pick_60 (p : Int) (w : World) (p1 : -9223372036854775808 ≤ p) (p2 : p < 9223372036854775808) :
    Calls Try.prog 8 #[.int .i64 p, .int .i64 60] w fun e w' => e = .returned (.int .i64 (pickR p 59 : Nat)) ∧ w = w' := Pick_eq p 59 w p1 p2 (by omega)
theorem Pick_30 (p : Int) (w : World) (p1 : -9223372036854775808 ≤ p) (p2 : p < 9223372036854775808) :
    Calls Try.prog 8 #[.int .i64 p, .int .i64 30] w fun e w' => e = .returned (.int .i64 (pickR p 29 : Nat)) ∧ w = w' := Pick_eq p 29 w p1 p2 (by omega)
theorem Fuse_d {w0 w : World} {b N : Nat} {G : Nat → Prop} {S : St} (h : RstD w0 w b N G S) (k : Int) (k1 : -9223372036854775808 ≤ k) (k2 : k < 9223372036854775808) :
    Calls Try.prog 7 #[.pointer (some ⟨b, 0, none⟩), .int .i64 k] w fun e w' => e = .returned (.int .i64 (if S.down then 2 else 0)) ∧ RstD w0 w' b N G (S.fuseK k) ∧ SameG G w w' := by
  obtain ⟨F, h1, h2⟩ := h
  refine (Fuse_run h1 k k1 k2).mono ?_
  rintro e w' ⟨rfl, r1, kk⟩
  have hs := kk.size
  exact ⟨rfl, ⟨F, r1, fun j hj => ⟨by have := (h2 j hj).1; omega, (h2 j hj).2⟩⟩, kk.size, fun q hq => kk.block q (h2 q hq).1 (h2 q hq).2⟩
/-- An opening, wherever it stops: behind a crash all is as it was. -/
theorem Open_any {w0 w : World} {b N : Nat} {G : Nat → Prop} {S : St} {ns : List Nat} {c : Nat → List UInt8} (h : RstD w0 w b N G S) (hs : Sound S ns c) (hd : S.down = false) (hl : S.safe.length = 64) (hN : N < 400000) :
    Calls Try.prog 11 #[.pointer (some ⟨b, 0, none⟩)] w fun e w' => SameG G w w' ∧ ∃ T, RstD w0 w' b (N + 100) G T ∧ (∀ cr, ∃ ns', Sound (T.crash cr) ns' c) ∧ T.safe.length = 64 ∧ ((∃ lb, e = .returned (.tuple #[.pointer (some ⟨lb, 0, none⟩), .int .i64 0])) ∨ e = .returned (.tuple #[.pointer none, .int .i64 2])) := by
  have ho := h.ops
  have hoc := open_cases hs hd fun U hU => by have := wait_le hs U hU; omega
  refine (Open_r h hs hN).mono ?_
  rintro e w' ⟨sg, hp⟩
  rcases hoc with ⟨T, t1, t2, t3, t4, t5⟩ | ⟨T, t1, t2, t3, t4⟩
  · rw [t1] at hp
    rcases hp with ⟨_, lb, rfl, r⟩ | ⟨hne, _⟩
    · exact ⟨sg, T, r.dev, fun cr => ⟨[], (t2.sound t3).crash cr⟩, t4.trans hl, .inl ⟨lb, rfl⟩⟩
    · exact absurd rfl hne
  · rw [t1] at hp
    rcases hp with ⟨he, _⟩ | ⟨_, rfl, r⟩
    · exact absurd (show (2 : Int) = 0 from he) (by decide)
    · exact ⟨sg, T, r, t4, t3.trans hl, .inr rfl⟩
/-- The blocks' bytes, one behind the other. -/
def catF (c : Nat → List UInt8) : Nat → List UInt8
  | 0 => []
  | j + 1 => catF c j ++ c j
theorem catF_len (c : Nat → List UInt8) : ∀ j, (∀ n, n < j → (c n).length = 512) → (catF c j).length = j * 512
  | 0, _ => rfl
  | j + 1, h => by rw [catF, List.length_append, catF_len c j (fun n hn => h n (by omega)), h j (by omega)]; omega
theorem catF_at (c : Nat → List UInt8) : ∀ j, (∀ n, n < j → (c n).length = 512) → ∀ m, m < j → ((catF c j).drop (512 * m)).take 512 = c m
  | 0, _, m, hm => by omega
  | j + 1, h, m, hm => by
    have hl := catF_len c j fun n hn => h n (by omega)
    rw [catF]
    by_cases e : m = j
    · subst e
      rw [List.drop_append_of_le_length (by rw [hl]; omega), List.drop_eq_nil_of_le (by rw [hl]; omega), List.nil_append, List.take_of_length_le (by rw [h m (by omega)]; omega)]
    · have ih := catF_at c j (fun n hn => h n (by omega)) m (by omega)
      rw [List.drop_append_of_le_length (by rw [hl]; omega), List.take_append_of_le_length (by rw [List.length_drop, hl]; omega)]
      exact ih
theorem cat_str (l m : List UInt8) : (⟨l.toArray⟩ : ByteArray) ++ ⟨m.toArray⟩ = ⟨(l ++ m).toArray⟩ := by
  apply ByteArray.ext
  simp [ByteArray.data_append]
theorem cut_str (l : List UInt8) (i : Nat) : (⟨l.toArray⟩ : ByteArray).extract i (i + 512) = ⟨((l.drop i).take 512).toArray⟩ := by
  apply ByteArray.ext
  simp [ByteArray.data_extract, List.extract_toArray]
theorem below_drewN (w : World) (n : Nat) : Below w.heap.size w (w.drewN n) :=
  have h := Below.refl w.heap.size w
  ⟨h.os, h.tape, h.output, h.size, h.block⟩
theorem same_drewN (G : Nat → Prop) (w : World) (n : Nat) : SameG G w (w.drewN n) := ⟨Nat.le_refl _, fun _ _ => rfl⟩
/-- What was written last is there. -/
theorem over_last (ws : List (Int × List UInt8)) (f : Nat → List UInt8) (i : Nat) (hi : i < ws.length) (hin : ∀ p ∈ ws, 0 ≤ p.1) (hlast : ∀ t (ht : t < ws.length), i < t → ws[t].1 ≠ ws[i].1) : over (prtW ws) f ws[i].1.toNat = ws[i].2 := by
  have hsp : ws = ws.take i ++ ws[i] :: ws.drop (i + 1) := by
    rw [List.getElem_cons_drop, List.take_append_drop]
  have e : prtW ws = prtW (ws.take i) ++ (ws[i].1.toNat, ws[i].2) :: prtW (ws.drop (i + 1)) :=
    (congrArg prtW hsp).trans (by unfold prtW; rw [List.map_append, List.map_cons])
  have e2 : over (prtW ws) f = over (prtW (ws.drop (i + 1))) (fun m => if m = ws[i].1.toNat then ws[i].2 else over (prtW (ws.take i)) f m) := by
    rw [e]
    unfold over
    rw [List.foldl_append, List.foldl_cons]
  rw [e2, over_out _ _ _ fun p hp he => ?_, if_pos rfl]
  obtain ⟨x, hx, rfl⟩ := List.mem_map.1 hp
  obtain ⟨t, ht, rfl⟩ := List.getElem_of_mem hx
  rw [List.length_drop] at ht
  rw [List.getElem_drop] at he
  have h1 := hin _ (List.getElem_mem (show i + 1 + t < ws.length by omega))
  have h2 := hin _ (List.getElem_mem hi)
  exact hlast (i + 1 + t) (by omega) (by omega) (by simp only at he; omega)

set_option maxRecDepth 100000 in
set_option maxHeartbeats 8000000 in
theorem JAgain.go (w : World) (v1 : Value) (o1 : List On) (h1 : OnL w v1 o1) (k : Int) (k0 : -9223372036854775808 ≤ k) (k1 : k < 9223372036854775808) (v3 : Value) (qs : List Int) (h3 : Ints w v3 qs) (v4 : Value) (ps : List Int) (h4 : Ints w v4 ps) :
    Calls Try.prog 3 #[v1, .int .i64 k, v3, v4] w fun e w' => e = .returned (.bool true) ∧ Below w.heap.size w w' := by
  have H1 := hide h1
  have H3 := hide h3
  have H4 := hide h4
  obtain ⟨sa, scap, hs1, hs2, hs3, hs4⟩ := h3
  obtain ⟨ns, hns⟩ : ∃ ns, ns = qs.length := ⟨_, rfl⟩
  rw [← hns] at hs1 hs2
  subst hs1
  have HNS := hide hns
  have HS3 := hide hs3
  have HS4 := hide hs4
  have hnsI : (ns : Int) ≤ 9223372036854775807 := by omega
  clear h1 h4 hns hs3 hs4
  go_enter Try.func3, Try.ntmps3
  go_wp2_with fail
  refine (Jawake_any _).mono ?_
  rintro e w1 ⟨rfl, b1⟩
  have HB1 := hide b1
  clear b1
  go_wp2_with fail
  refine (laid_l w w1 (unhide HB1)).mono ?_
  rintro e w2 ⟨b, lb, T0, rfl, l2⟩
  have L2 := hide l2
  have B2 := hide l2.rst.bel
  clear l2 HB1
  go_wp2_with fail
  refine (within_go w2 v1 o1 ((unhide H1).below (unhide B2) (Nat.le_refl _))).mono ?_
  rintro e w3 ⟨u1, rfl, g3, b3⟩
  obtain ⟨G, hG⟩ : ∃ G : Nat → Prop, G = fun j => w2.heap.size ≤ j ∧ j < w3.heap.size := ⟨_, rfl⟩
  rw [← hG] at g3
  have V3 := hide g3
  have L3 : Hid (Lull w w3 b lb 2200 G T0 zeros) := hide ((unhide L2).grown b3 fun j hj => .inr (by rw [hG] at hj; exact hj))
  clear g3 b3 L2 B2 hG
  go_wp2_with fail
  refine (Pick_60 k w3 k0 k1).mono ?_
  rintro e wA ⟨rfl, rfl⟩
  have hpk := pickR_lt k 59
  obtain ⟨m, hm⟩ : ∃ m, m = pickR k 59 := ⟨_, rfl⟩
  rw [← hm] at hpk ⊢
  clear hm
  go_wp2_with fail
  refine (Fuse_r (unhide L3).rst (m : Int) (by omega) (by omega)).mono ?_
  rintro e wB ⟨rfl, rB, gB⟩
  rw [(unhide L3).free.up]
  have hqB := (unhide L3).quiet.fuseK (m : Int)
  have hoB := rB.ops
  have hnB : ∀ k, (T0.fuseK (m : Int)).pend k = [] := fun k => by rw [St.fuseK_pend]; exact (unhide L3).none k
  have hlB : (T0.fuseK (m : Int)).safe.length = 64 := by rw [St.fuseK_len]; exact (unhide L3).len
  obtain ⟨c, hh⟩ := half_of hqB hnB hlB (by omega) (withL o1) (okW_with o1).2 (okW_with o1).1 ps
  have VB := hide ((unhide V3).same gB)
  have CM := hide (Commit_r rB hqB (by omega) _ _ (unhide VB).here)
  have HH := hide hh
  clear rB gB hqB hoB hnB hlB hh V3
  go_wp2_with fail
  refine (unhide CM).mono ?_
  rintro e wC ⟨rfl, rC, gC⟩
  have RC := hide rC.dev
  have VC := hide ((unhide VB).same gC)
  obtain ⟨pr, hpr⟩ : ∃ pr, pr = comE (T0.fuseK (m : Int)) (withL o1) := ⟨_, rfl⟩
  rw [← hpr] at HH RC ⊢
  clear rC gC CM VB hpr L3
  go_wp2_with fail
  refine (Crash_r (unhide RC) (by omega) ps v4 (unhide H4)).mono ?_
  rintro e wD ⟨rfl, rD, gD⟩
  have VD := hide ((unhide VC).same gD)
  obtain ⟨ns1, hsd⟩ := (unhide HH).sound
  have RD := hide rD
  have SD := hide hsd
  have LD := hide (unhide HH).len
  have AD : Hid ((pr.1 = 0 ∧ ∀ n, n < 44 → c n = over (prtW (withL o1)) zeros n) ∨ pr.1 = 2) := hide (by
    rcases (unhide HH).ans with ⟨a1, _, a3⟩ | ⟨a1, _⟩
    · exact .inl ⟨a1, a3⟩
    · exact .inr a1)
  obtain ⟨S1, hS1⟩ : ∃ S1, S1 = pr.2.crash ps := ⟨_, rfl⟩
  have FD : Hid (Free S1) := hide (by rw [hS1]; exact Free.crash _ _)
  rw [← hS1] at RD SD LD
  obtain ⟨pe, hpe⟩ : ∃ pe, pe = pr.1 := ⟨_, rfl⟩
  rw [← hpe] at AD ⊢
  clear rD gD hsd HH RC VC hS1 hpe
  go_wp2_with fail
  go_loopw [14] (fun i wr => ∃ (j : Nat) (S : St) (nn : List Nat), i = .int .i64 (j : Int) ∧ j ≤ ns ∧ j ≤ 8 ∧ Hid (RstD w wr b (2400 + 100 * j) G S) ∧ Hid (Sound S nn c) ∧ Hid (Free S) ∧ Hid (S.safe.length = 64) ∧ Hid (WrsG wr G u1 (withL o1))) (fun i _ => 8 - (intOf i).toNat)
  case atStart => exact ⟨0, S1, ns1, rfl, by omega, by omega, RD, SD, FD, LD, VD⟩
  case round =>
    obtain ⟨j, S, nn, rfl, hj, hj8, HR, HS, HF, HL, HV⟩ := hrel
    clear RD SD FD LD VD
    by_cases hlt : j < ns
    · have hlt' : (j : Int) < (ns : Int) := by omega
      by_cases h8 : j < 8
      · have h8' : (j : Int) < 8 := by omega
        have hjq : j < qs.length := by rw [← unhide HNS]; exact hlt
        obtain ⟨pb, off, hpa, hpl, hpc⟩ := unhide HS4 (fun e => by rw [e] at hjq; simp at hjq)
        subst hpa
        have cq : wr.cell? ⟨pb, off + j, none⟩ = some (.int .i64 qs[j]) := ((unhide HR).bel.cell (p := ⟨pb, off + j, none⟩) hpl).trans (hpc j hjq)
        have hqr := unhide HS3 _ (List.getElem_mem hjq)
        obtain ⟨x, hx⟩ : ∃ x, x = qs[j] := ⟨_, rfl⟩
        rw [← hx] at cq hqr
        clear hx hpc
        go_wp2_with fail
        refine (Pick_30 x wr hqr.1 hqr.2).mono ?_
        rintro e w6 ⟨rfl, rfl⟩
        have hpk2 := pickR_lt x 29
        obtain ⟨m2, hm2⟩ : ∃ m, m = pickR x 29 := ⟨_, rfl⟩
        rw [← hm2] at hpk2 ⊢
        clear hm2
        go_wp2_with fail
        refine (Fuse_d (unhide HR) (m2 : Int) (by omega) (by omega)).mono ?_
        rintro e w7 ⟨rfl, r7, g7⟩
        rw [(unhide HF).up]
        have s7 : Sound (S.fuseK (m2 : Int)) nn c := (unhide HS).alike ((Alike.refl S).fuseK _)
        have OP := hide (Open_any r7 s7 (by rw [St.fuseK_down]; exact (unhide HF).up) (by rw [St.fuseK_len]; exact unhide HL) (by omega))
        have V7 := hide ((unhide HV).same g7)
        clear r7 g7 s7 HR HS HF HL HV
        go_wp2_with fail
        refine (unhide OP).mono ?_
        rintro e w8 ⟨g8, T, r8, s8, l8, hee⟩
        have R8 := hide r8
        have S8 := hide s8
        have L8 := hide l8
        have V8 := hide ((unhide V7).same g8)
        clear g8 r8 s8 l8 V7 OP
        rcases hee with ⟨lb2, rfl⟩ | rfl
        · go_wp2_with fail
          refine (Crash_r (unhide R8) (by omega) ps v4 (unhide H4)).mono ?_
          rintro e w9 ⟨rfl, r9, g9⟩
          obtain ⟨ns9, s9⟩ := unhide S8 ps
          have R9 := hide r9
          have S9 := hide s9
          have V9 := hide ((unhide V8).same g9)
          have L9 : Hid ((T.crash ps).safe.length = 64) := hide (by rw [crash_len]; exact unhide L8)
          clear r9 g9 s9 R8 S8 L8 V8
          go_wp2
          go_roundw
          case rel => exact ⟨j + 1, T.crash ps, ns9, by go_num, by omega, by omega, hide ((unhide R9).mono (by omega)), S9, hide (Free.crash _ _), L9, V9⟩
          case measure => simp [intOf]; omega
        · go_wp2_with fail
          refine (Crash_r (unhide R8) (by omega) ps v4 (unhide H4)).mono ?_
          rintro e w9 ⟨rfl, r9, g9⟩
          obtain ⟨ns9, s9⟩ := unhide S8 ps
          have R9 := hide r9
          have S9 := hide s9
          have V9 := hide ((unhide V8).same g9)
          have L9 : Hid ((T.crash ps).safe.length = 64) := hide (by rw [crash_len]; exact unhide L8)
          clear r9 g9 s9 R8 S8 L8 V8
          go_wp2
          go_roundw
          case rel => exact ⟨j + 1, T.crash ps, ns9, by go_num, by omega, by omega, hide ((unhide R9).mono (by omega)), S9, hide (Free.crash _ _), L9, V9⟩
          case measure => simp [intOf]; omega
      · have h8' : ¬ (j : Int) < 8 := by omega
        have HR := hide ((unhide HR).mono (show 2400 + 100 * j ≤ 3200 by omega))
        have OP1 := hide (Open_l (unhide HR) (unhide HS) (unhide HF) (unhide HL) (by omega))
        go_wp2_with fail
        refine (unhide OP1).mono ?_
        rintro e wE ⟨gE, mb, T1, rfl, lE⟩
        have LE := hide lE
        have VE := hide ((unhide HV).same gE)
        clear gE lE OP1 HR HS HF HL HV
        go_wp2_with fail
        go_loopw [19, 20] (fun a i wr => ∃ (j : Nat) (S : St), a = .string ⟨(catF c j).toArray⟩ ∧ i = .int .i64 (j : Int) ∧ j ≤ 44 ∧ Hid (Lull w wr b mb (3300 + 2 * j) G S c) ∧ Hid (∀ n, n < j → (c n).length = 512) ∧ Hid (WrsG wr G u1 (withL o1))) (fun _ i _ => 44 - (intOf i).toNat)
        case atStart => exact ⟨0, _, rfl, rfl, by omega, LE, hide (fun n hn => by omega), VE⟩
        case round =>
          obtain ⟨j, S, rfl, rfl, hj, HL, HW, HV⟩ := hrel
          clear VE LE
          by_cases hlt : j < 44
          · have hlt' : (j : Int) < 44 := by omega
            go_wp2_with fail
            refine (Read_l (unhide HL) (by omega) j hlt).mono ?_
            rintro e w7 ⟨sg, q, rfl, hq, hr, h5, l7⟩
            have v7 := (sl_block hr h5).strJ
            have HF7 : Hid (Lull w w7 b mb (3300 + 2 * (j + 1)) G S.burn c ∧ (∀ n, n < j + 1 → (c n).length = 512) ∧ WrsG w7 G u1 (withL o1)) := hide ⟨l7.mono (by omega), fun n hn => by
              by_cases e : n = j
              · rw [e]; exact h5
              · exact unhide HW n (by omega), (unhide HV).same sg⟩
            have hcl := catF_len c j (unhide HW)
            have hsz : (⟨(catF c j).toArray⟩ : ByteArray).size = j * 512 := by show (catF c j).toArray.size = _; rw [List.size_toArray]; exact hcl
            have hsz2 : (⟨(c j).toArray⟩ : ByteArray).size = 512 := by show (c j).toArray.size = _; rw [List.size_toArray]; exact h5
            have HCT : Hid (catF c (j + 1) = catF c j ++ c j) := hide rfl
            obtain ⟨cj, hcj⟩ : ∃ cj, cj = c j := ⟨_, rfl⟩
            obtain ⟨al, hal⟩ : ∃ al, al = catF c j := ⟨_, rfl⟩
            rw [← hcj] at v7 hsz2 HCT
            rw [← hal] at hsz HCT ⊢
            have hcat := cat_str al cj
            clear hr h5 l7 sg HL HW HV hq hcj hal hcl
            go_wp2
            go_roundw
            case rel => exact ⟨j + 1, S.burn, by rw [unhide HCT], by go_num, by omega, hide (unhide HF7).1, hide (unhide HF7).2.1, hide (unhide HF7).2.2⟩
            case measure => simp [intOf]; omega
          · have hlt' : ¬ (j : Int) < 44 := by omega
            obtain rfl : j = 44 := by omega
            obtain ⟨al, hal⟩ : ∃ al, al = (⟨(catF c 44).toArray⟩ : ByteArray) := ⟨_, rfl⟩
            rw [← hal]
            have HAL := hide hal
            have SX := hide (((unhide HL).quiet.sound (unhide HL).none).crash [])
            have LX : Hid ((S.crash []).safe.length = 64) := hide (by rw [crash_len]; exact (unhide HL).len)
            have CX := hide (Crash_r (unhide HL).rst.dev (by omega) [] _ (ints_nil w))
            clear hal hlt hj
            go_wp2_with fail
            refine (unhide CX).mono ?_
            rintro e wF ⟨rfl, rF, gF⟩
            have VF := hide ((unhide HV).same gF)
            have OP2 := hide (Open_l rF (unhide SX) (Free.crash _ _) (unhide LX) (by omega))
            clear rF gF SX LX CX HL HV
            go_wp2_with fail
            refine (unhide OP2).mono ?_
            rintro e wG ⟨gG, pb2, T2, rfl, lG⟩
            have LE := hide lG
            have VE := hide ((unhide VF).same gG)
            clear gG lG OP2 VF HW
            go_wp2_with fail
            go_loopw [25, 26] (fun a i wr => ∃ (j : Nat) (S : St), a = .string ⟨(catF c j).toArray⟩ ∧ i = .int .i64 (j : Int) ∧ j ≤ 44 ∧ Hid (Lull w wr b pb2 (3488 + 2 * j) G S c) ∧ Hid (∀ n, n < j → (c n).length = 512) ∧ Hid (WrsG wr G u1 (withL o1))) (fun _ i _ => 44 - (intOf i).toNat)
            case atStart => exact ⟨0, _, rfl, rfl, by omega, LE, hide (fun n hn => by omega), VE⟩
            case round =>
              obtain ⟨j, S, rfl, rfl, hj, HL, HW, HV⟩ := hrel
              clear VE LE
              by_cases hlt : j < 44
              · have hlt' : (j : Int) < 44 := by omega
                go_wp2_with fail
                refine (Read_l (unhide HL) (by omega) j hlt).mono ?_
                rintro e w7 ⟨sg, q, rfl, hq, hr, h5, l7⟩
                have v7 := (sl_block hr h5).strJ
                have HF7 : Hid (Lull w w7 b pb2 (3488 + 2 * (j + 1)) G S.burn c ∧ (∀ n, n < j + 1 → (c n).length = 512) ∧ WrsG w7 G u1 (withL o1)) := hide ⟨l7.mono (by omega), fun n hn => by
                  by_cases e : n = j
                  · rw [e]; exact h5
                  · exact unhide HW n (by omega), (unhide HV).same sg⟩
                have hcl := catF_len c j (unhide HW)
                have hsz : (⟨(catF c j).toArray⟩ : ByteArray).size = j * 512 := by show (catF c j).toArray.size = _; rw [List.size_toArray]; exact hcl
                have hsz2 : (⟨(c j).toArray⟩ : ByteArray).size = 512 := by show (c j).toArray.size = _; rw [List.size_toArray]; exact h5
                have HCT : Hid (catF c (j + 1) = catF c j ++ c j) := hide rfl
                obtain ⟨cj, hcj⟩ : ∃ cj, cj = c j := ⟨_, rfl⟩
                obtain ⟨al, hal⟩ : ∃ al, al = catF c j := ⟨_, rfl⟩
                rw [← hcj] at v7 hsz2 HCT
                rw [← hal] at hsz HCT ⊢
                have hcat := cat_str al cj
                clear hr h5 l7 sg HL HW HV hq hcj hal hcl
                go_wp2
                go_roundw
                case rel => exact ⟨j + 1, S.burn, by rw [unhide HCT], by go_num, by omega, hide (unhide HF7).1, hide (unhide HF7).2.1, hide (unhide HF7).2.2⟩
                case measure => simp [intOf]; omega
              · have hlt' : ¬ (j : Int) < 44 := by omega
                obtain rfl : j = 44 := by omega
                have HAL2 := HAL
                rw [← unhide HAL]
                have HW := HW
                rcases unhide AD with ⟨ad1, ad2⟩ | ad1
                · have AD2 := hide ad2
                  subst ad1
                  clear ad2 AD
                  obtain ⟨ao, cap, hu2, hw1, hw2, hw3, hw4⟩ := (unhide HV).here
                  obtain ⟨n2, hn2⟩ : ∃ n2, n2 = (withL o1).length := ⟨_, rfl⟩
                  have h16 : n2 ≤ 16 := by rw [hn2]; exact (okW_with o1).2
                  rw [← hn2] at hu2
                  have HN3 := hide hn2
                  have hn2I : (n2 : Int) ≤ 16 := by omega
                  subst hu2
                  clear hw1 hw2 hw3 hw4 hn2 hlt hj
                  rename World => W0
                  go_wp2_with fail
                  go_loopw [29] (fun i wr => ∃ (j : Nat), i = .int .i64 (j : Int) ∧ j ≤ n2 ∧ Hid (Lull w wr b pb2 3576 G S c) ∧ Hid (WrsG wr G (.slice ao n2 cap) (withL o1))) (fun i _ => n2 - (intOf i).toNat)
                  case atStart => exact ⟨0, rfl, by omega, HL, HV⟩
                  case round =>
                    obtain ⟨j, rfl, hj, HL, HV⟩ := hrel
                    by_cases hlt : j < n2
                    · have hlt' : (j : Int) < (n2 : Int) := by omega
                      have hjw : j < (withL o1).length := by rw [← unhide HN3]; exact hlt
                      go_wp2_with fail
                      go_loopw [30, 31] (fun l i wr => ∃ (t : Nat) (q : Bool), l = .bool q ∧ i = .int .i64 (t : Int) ∧ j < t ∧ t ≤ n2 ∧ Hid (q = true → ∀ s (hs : s < (withL o1).length), j < s → s < t → (withL o1)[s].1 ≠ (withL o1)[j].1) ∧ Hid (Lull w wr b pb2 3576 G S c) ∧ Hid (WrsG wr G (.slice ao n2 cap) (withL o1))) (fun _ i _ => n2 - (intOf i).toNat)
                      case atStart => exact ⟨j + 1, true, rfl, by go_num, by omega, by omega, hide (fun _ s hs h1 h2 => by omega), HL, HV⟩
                      case round =>
                        obtain ⟨t, q, rfl, rfl, htj, ht, HQ, HL, HV⟩ := hrel
                        by_cases hltt : t < n2
                        · have hltt' : (t : Int) < (n2 : Int) := by omega
                          have htw : t < (withL o1).length := by rw [← unhide HN3]; exact hltt
                          obtain ⟨ao', cap', e, _, _, _, h4⟩ := (unhide HV).here
                          rw [← unhide HN3] at e
                          injection e with e1 e2 e3
                          clear e2 e3
                          obtain ⟨g, off, hao, hgl, hcl⟩ := h4 (by rw [← unhide HN3]; omega)
                          obtain ⟨a, cc, d0, d1, sl⟩ := hcl j hjw
                          obtain ⟨a', c', d0', d1', sl'⟩ := hcl t htw
                          have hok := (okW_with o1).1 _ (List.getElem_mem hjw)
                          have hok' := (okW_with o1).1 _ (List.getElem_mem htw)
                          have HXQ : Hid (∀ (r : Bool), (r = true → q = true ∧ (withL o1)[t].1 ≠ (withL o1)[j].1) → (r = true → ∀ s (hs : s < (withL o1).length), j < s → s < t + 1 → (withL o1)[s].1 ≠ (withL o1)[j].1)) := hide (fun r hr hr2 s hs h1 h2 => by
                            obtain ⟨hr3, hr4⟩ := hr hr2
                            by_cases e : s = t
                            · subst e; exact hr4
                            · exact unhide HQ hr3 s hs h1 (by omega))
                          obtain ⟨x, hx⟩ : ∃ x, x = (withL o1)[j].1 := ⟨_, rfl⟩
                          obtain ⟨y, hy⟩ : ∃ y, y = (withL o1)[t].1 := ⟨_, rfl⟩
                          rw [← hx] at d0 hok
                          rw [← hy] at d0' hok'
                          have HX := hide hx
                          have HY := hide hy
                          have hao' : ao = some ⟨g, off, none⟩ := by rw [e1, hao]
                          subst hao'
                          have hj0 : (0 : Int) ≤ (j : Int) := Int.natCast_nonneg _
                          have ht0 : (0 : Int) ≤ (t : Int) := Int.natCast_nonneg _
                          clear hx hy sl sl' d1 d1' hcl h4 hao e1 HQ
                          cases q
                          · go_wp2_with fail
                            go_quiet (fail)
                            go_wp2
                            go_roundw
                            case rel => exact ⟨t + 1, false, rfl, by go_num, by omega, by omega, hide (fun h => absurd h (by decide)), hide ((unhide HL).grown (below_drewN _ _) fun j hj => .inl hj), hide ((unhide HV).same (same_drewN _ _ _))⟩
                            case measure => simp [intOf]; omega
                          · by_cases hxy : y = x
                            · go_wp2_with fail
                              go_quiet (fail)
                              go_wp2
                              go_roundw
                              case rel => exact ⟨t + 1, false, by first | rfl | simp [hxy], by go_num, by omega, by omega, hide (fun h => absurd h (by decide)), hide ((unhide HL).grown (below_drewN _ _) fun j hj => .inl hj), hide ((unhide HV).same (same_drewN _ _ _))⟩
                              case measure => simp [intOf]; omega
                            · go_wp2_with fail
                              go_quiet (fail)
                              go_wp2
                              go_roundw
                              case rel => exact ⟨t + 1, true, by first | rfl | simp [hxy], by go_num, by omega, by omega, hide (unhide HXQ true (fun _ => ⟨by trivial, by rw [← unhide HX, ← unhide HY]; exact hxy⟩)), hide ((unhide HL).grown (below_drewN _ _) fun j hj => .inl hj), hide ((unhide HV).same (same_drewN _ _ _))⟩
                              case measure => simp [intOf]; omega
                        · have hltt' : ¬ (t : Int) < (n2 : Int) := by omega
                          obtain rfl : t = n2 := by omega
                          obtain ⟨ao', cap', e, _, _, _, h4⟩ := (unhide HV).here
                          rw [← unhide HN3] at e
                          injection e with e1 e2 e3
                          clear e2 e3
                          obtain ⟨g, off, hao, hgl, hcl⟩ := h4 (by rw [← unhide HN3]; omega)
                          obtain ⟨a, cc, d0, d1, sl⟩ := hcl j hjw
                          have hok := (okW_with o1).1 _ (List.getElem_mem hjw)
                          cases q
                          · clear hcl h4 sl hao e1
                            go_wp2_with fail
                            go_quiet (fail)
                            go_wp2
                            go_roundw
                            case rel => exact ⟨j + 1, by go_num, by omega, hide ((unhide HL).grown (below_drewN _ _) fun j hj => .inl hj), hide ((unhide HV).same (same_drewN _ _ _))⟩
                            case measure => simp [intOf]; omega
                          · have hlast : (withL o1)[j].2 = c (withL o1)[j].1.toNat := by
                              rw [unhide AD2 _ (by omega)]
                              exact (over_last (withL o1) zeros j hjw (fun p hp => ((okW_with o1).1 p hp).1) (fun s hs h1 => unhide HQ rfl s hs h1 (by rw [unhide HN3]; exact hs))).symm
                            have hcut : al.extract (512 * (withL o1)[j].1.toNat) (512 * (withL o1)[j].1.toNat + 512) = ⟨((withL o1)[j].2).toArray⟩ := by
                              rw [unhide HAL, hlast, cut_str]
                              rw [catF_at c 44 (unhide HW) _ (by omega)]
                            have hsz : al.size = 22528 := by
                              rw [unhide HAL]; show (catF c 44).toArray.size = _; rw [List.size_toArray]; exact catF_len c 44 (unhide HW)
                            obtain ⟨x, hx⟩ : ∃ x, x = (withL o1)[j] := ⟨_, rfl⟩
                            rw [← hx] at d0 sl hok hcut
                            clear hx hlast HQ
                            obtain ⟨x1, L⟩ := x
                            obtain ⟨m3, hm⟩ : ∃ m : Nat, x1 = (m : Int) := ⟨x1.toNat, by simp only at hok; omega⟩
                            subst hm
                            simp only [Int.toNat_natCast] at d0 sl hok hcut
                            have hm44 : m3 < 44 := by omega
                            have hmI : (m3 : Int) < 44 := by omega
                            have hm0 : (0 : Int) ≤ (m3 : Int) := Int.natCast_nonneg _
                            have hj0 : (0 : Int) ≤ (j : Int) := Int.natCast_nonneg _
                            have ht1 : (512 * (m3 : Int)).toNat = 512 * m3 := by omega
                            have ht2 : (512 * (m3 : Int) + 512).toNat = 512 * m3 + 512 := by omega
                            have hszI : (al.size : Int) = 22528 := by omega
                            have hbd : 512 * (m3 : Int) + 512 ≤ 22528 := by omega
                            have hao' : ao = some ⟨g, off, none⟩ := by rw [e1, hao]
                            subst hao'
                            have sv : ∀ k, (convert 38 9 (.slice a 512 cc)).run Try.prog (wr.drewN k) = .ok (.string ⟨L.toArray⟩) (wr.drewN k) := fun k => (sl.below (below_drewN _ _) (Nat.le_refl _)).strJ
                            have sc : ∀ k, (Instr.slice 9 (.string al) (some (.int .i64 (512 * (m3 : Int)))) (some (.int .i64 (512 * (m3 : Int) + 512))) none).run Try.prog (wr.drewN k) = .ok (.string ⟨L.toArray⟩) (wr.drewN k) := fun k => by
                              rw [run_slice_string (wr.drewN k) 9 al .i64 .i64 _ _ Try.underlying9 (by omega) (by omega) (by omega), ht1, ht2, hcut]
                            obtain ⟨Ls, hLs⟩ : ∃ Ls, Ls = (⟨L.toArray⟩ : ByteArray) := ⟨_, rfl⟩
                            rw [← hLs] at sv sc
                            clear hLs hcut
                            clear sl hcl h4 hao e1 hok
                            go_wp2_with fail
                            go_quiet (fail)
                            go_wp2
                            go_roundw
                            case rel => exact ⟨j + 1, by go_num, by omega, hide ((unhide HL).grown (below_drewN _ _) fun j hj => .inl hj), hide ((unhide HV).same (same_drewN _ _ _))⟩
                            case measure => simp [intOf]; omega
                    · have hlt' : ¬ (j : Int) < (n2 : Int) := by omega
                      have HB := hide (unhide HL).rst.bel
                      clear HL HV
                      go_wp2
                      go_ret
                      exact ⟨rfl, unhide HB⟩
                · subst ad1
                  have HB := hide (unhide HL).rst.bel
                  clear HL HV
                  go_wp2
                  go_ret
                  exact ⟨rfl, unhide HB⟩
    · have hlt' : ¬ (j : Int) < (ns : Int) := by omega
      have HR := hide ((unhide HR).mono (show 2400 + 100 * j ≤ 3200 by omega))
      have OP1 := hide (Open_l (unhide HR) (unhide HS) (unhide HF) (unhide HL) (by omega))
      go_wp2_with fail
      refine (unhide OP1).mono ?_
      rintro e wE ⟨gE, mb, T1, rfl, lE⟩
      have LE := hide lE
      have VE := hide ((unhide HV).same gE)
      clear gE lE OP1 HR HS HF HL HV
      go_wp2_with fail
      go_loopw [19, 20] (fun a i wr => ∃ (j : Nat) (S : St), a = .string ⟨(catF c j).toArray⟩ ∧ i = .int .i64 (j : Int) ∧ j ≤ 44 ∧ Hid (Lull w wr b mb (3300 + 2 * j) G S c) ∧ Hid (∀ n, n < j → (c n).length = 512) ∧ Hid (WrsG wr G u1 (withL o1))) (fun _ i _ => 44 - (intOf i).toNat)
      case atStart => exact ⟨0, _, rfl, rfl, by omega, LE, hide (fun n hn => by omega), VE⟩
      case round =>
        obtain ⟨j, S, rfl, rfl, hj, HL, HW, HV⟩ := hrel
        clear VE LE
        by_cases hlt : j < 44
        · have hlt' : (j : Int) < 44 := by omega
          go_wp2_with fail
          refine (Read_l (unhide HL) (by omega) j hlt).mono ?_
          rintro e w7 ⟨sg, q, rfl, hq, hr, h5, l7⟩
          have v7 := (sl_block hr h5).strJ
          have HF7 : Hid (Lull w w7 b mb (3300 + 2 * (j + 1)) G S.burn c ∧ (∀ n, n < j + 1 → (c n).length = 512) ∧ WrsG w7 G u1 (withL o1)) := hide ⟨l7.mono (by omega), fun n hn => by
            by_cases e : n = j
            · rw [e]; exact h5
            · exact unhide HW n (by omega), (unhide HV).same sg⟩
          have hcl := catF_len c j (unhide HW)
          have hsz : (⟨(catF c j).toArray⟩ : ByteArray).size = j * 512 := by show (catF c j).toArray.size = _; rw [List.size_toArray]; exact hcl
          have hsz2 : (⟨(c j).toArray⟩ : ByteArray).size = 512 := by show (c j).toArray.size = _; rw [List.size_toArray]; exact h5
          have HCT : Hid (catF c (j + 1) = catF c j ++ c j) := hide rfl
          obtain ⟨cj, hcj⟩ : ∃ cj, cj = c j := ⟨_, rfl⟩
          obtain ⟨al, hal⟩ : ∃ al, al = catF c j := ⟨_, rfl⟩
          rw [← hcj] at v7 hsz2 HCT
          rw [← hal] at hsz HCT ⊢
          have hcat := cat_str al cj
          clear hr h5 l7 sg HL HW HV hq hcj hal hcl
          go_wp2
          go_roundw
          case rel => exact ⟨j + 1, S.burn, by rw [unhide HCT], by go_num, by omega, hide (unhide HF7).1, hide (unhide HF7).2.1, hide (unhide HF7).2.2⟩
          case measure => simp [intOf]; omega
        · have hlt' : ¬ (j : Int) < 44 := by omega
          obtain rfl : j = 44 := by omega
          obtain ⟨al, hal⟩ : ∃ al, al = (⟨(catF c 44).toArray⟩ : ByteArray) := ⟨_, rfl⟩
          rw [← hal]
          have HAL := hide hal
          have SX := hide (((unhide HL).quiet.sound (unhide HL).none).crash [])
          have LX : Hid ((S.crash []).safe.length = 64) := hide (by rw [crash_len]; exact (unhide HL).len)
          have CX := hide (Crash_r (unhide HL).rst.dev (by omega) [] _ (ints_nil w))
          clear hal hlt hj
          go_wp2_with fail
          refine (unhide CX).mono ?_
          rintro e wF ⟨rfl, rF, gF⟩
          have VF := hide ((unhide HV).same gF)
          have OP2 := hide (Open_l rF (unhide SX) (Free.crash _ _) (unhide LX) (by omega))
          clear rF gF SX LX CX HL HV
          go_wp2_with fail
          refine (unhide OP2).mono ?_
          rintro e wG ⟨gG, pb2, T2, rfl, lG⟩
          have LE := hide lG
          have VE := hide ((unhide VF).same gG)
          clear gG lG OP2 VF HW
          go_wp2_with fail
          go_loopw [25, 26] (fun a i wr => ∃ (j : Nat) (S : St), a = .string ⟨(catF c j).toArray⟩ ∧ i = .int .i64 (j : Int) ∧ j ≤ 44 ∧ Hid (Lull w wr b pb2 (3488 + 2 * j) G S c) ∧ Hid (∀ n, n < j → (c n).length = 512) ∧ Hid (WrsG wr G u1 (withL o1))) (fun _ i _ => 44 - (intOf i).toNat)
          case atStart => exact ⟨0, _, rfl, rfl, by omega, LE, hide (fun n hn => by omega), VE⟩
          case round =>
            obtain ⟨j, S, rfl, rfl, hj, HL, HW, HV⟩ := hrel
            clear VE LE
            by_cases hlt : j < 44
            · have hlt' : (j : Int) < 44 := by omega
              go_wp2_with fail
              refine (Read_l (unhide HL) (by omega) j hlt).mono ?_
              rintro e w7 ⟨sg, q, rfl, hq, hr, h5, l7⟩
              have v7 := (sl_block hr h5).strJ
              have HF7 : Hid (Lull w w7 b pb2 (3488 + 2 * (j + 1)) G S.burn c ∧ (∀ n, n < j + 1 → (c n).length = 512) ∧ WrsG w7 G u1 (withL o1)) := hide ⟨l7.mono (by omega), fun n hn => by
                by_cases e : n = j
                · rw [e]; exact h5
                · exact unhide HW n (by omega), (unhide HV).same sg⟩
              have hcl := catF_len c j (unhide HW)
              have hsz : (⟨(catF c j).toArray⟩ : ByteArray).size = j * 512 := by show (catF c j).toArray.size = _; rw [List.size_toArray]; exact hcl
              have hsz2 : (⟨(c j).toArray⟩ : ByteArray).size = 512 := by show (c j).toArray.size = _; rw [List.size_toArray]; exact h5
              have HCT : Hid (catF c (j + 1) = catF c j ++ c j) := hide rfl
              obtain ⟨cj, hcj⟩ : ∃ cj, cj = c j := ⟨_, rfl⟩
              obtain ⟨al, hal⟩ : ∃ al, al = catF c j := ⟨_, rfl⟩
              rw [← hcj] at v7 hsz2 HCT
              rw [← hal] at hsz HCT ⊢
              have hcat := cat_str al cj
              clear hr h5 l7 sg HL HW HV hq hcj hal hcl
              go_wp2
              go_roundw
              case rel => exact ⟨j + 1, S.burn, by rw [unhide HCT], by go_num, by omega, hide (unhide HF7).1, hide (unhide HF7).2.1, hide (unhide HF7).2.2⟩
              case measure => simp [intOf]; omega
            · have hlt' : ¬ (j : Int) < 44 := by omega
              obtain rfl : j = 44 := by omega
              have HAL2 := HAL
              rw [← unhide HAL]
              have HW := HW
              rcases unhide AD with ⟨ad1, ad2⟩ | ad1
              · have AD2 := hide ad2
                subst ad1
                clear ad2 AD
                obtain ⟨ao, cap, hu2, hw1, hw2, hw3, hw4⟩ := (unhide HV).here
                obtain ⟨n2, hn2⟩ : ∃ n2, n2 = (withL o1).length := ⟨_, rfl⟩
                have h16 : n2 ≤ 16 := by rw [hn2]; exact (okW_with o1).2
                rw [← hn2] at hu2
                have HN3 := hide hn2
                have hn2I : (n2 : Int) ≤ 16 := by omega
                subst hu2
                clear hw1 hw2 hw3 hw4 hn2 hlt hj
                rename World => W0
                go_wp2_with fail
                go_loopw [29] (fun i wr => ∃ (j : Nat), i = .int .i64 (j : Int) ∧ j ≤ n2 ∧ Hid (Lull w wr b pb2 3576 G S c) ∧ Hid (WrsG wr G (.slice ao n2 cap) (withL o1))) (fun i _ => n2 - (intOf i).toNat)
                case atStart => exact ⟨0, rfl, by omega, HL, HV⟩
                case round =>
                  obtain ⟨j, rfl, hj, HL, HV⟩ := hrel
                  by_cases hlt : j < n2
                  · have hlt' : (j : Int) < (n2 : Int) := by omega
                    have hjw : j < (withL o1).length := by rw [← unhide HN3]; exact hlt
                    go_wp2_with fail
                    go_loopw [30, 31] (fun l i wr => ∃ (t : Nat) (q : Bool), l = .bool q ∧ i = .int .i64 (t : Int) ∧ j < t ∧ t ≤ n2 ∧ Hid (q = true → ∀ s (hs : s < (withL o1).length), j < s → s < t → (withL o1)[s].1 ≠ (withL o1)[j].1) ∧ Hid (Lull w wr b pb2 3576 G S c) ∧ Hid (WrsG wr G (.slice ao n2 cap) (withL o1))) (fun _ i _ => n2 - (intOf i).toNat)
                    case atStart => exact ⟨j + 1, true, rfl, by go_num, by omega, by omega, hide (fun _ s hs h1 h2 => by omega), HL, HV⟩
                    case round =>
                      obtain ⟨t, q, rfl, rfl, htj, ht, HQ, HL, HV⟩ := hrel
                      by_cases hltt : t < n2
                      · have hltt' : (t : Int) < (n2 : Int) := by omega
                        have htw : t < (withL o1).length := by rw [← unhide HN3]; exact hltt
                        obtain ⟨ao', cap', e, _, _, _, h4⟩ := (unhide HV).here
                        rw [← unhide HN3] at e
                        injection e with e1 e2 e3
                        clear e2 e3
                        obtain ⟨g, off, hao, hgl, hcl⟩ := h4 (by rw [← unhide HN3]; omega)
                        obtain ⟨a, cc, d0, d1, sl⟩ := hcl j hjw
                        obtain ⟨a', c', d0', d1', sl'⟩ := hcl t htw
                        have hok := (okW_with o1).1 _ (List.getElem_mem hjw)
                        have hok' := (okW_with o1).1 _ (List.getElem_mem htw)
                        have HXQ : Hid (∀ (r : Bool), (r = true → q = true ∧ (withL o1)[t].1 ≠ (withL o1)[j].1) → (r = true → ∀ s (hs : s < (withL o1).length), j < s → s < t + 1 → (withL o1)[s].1 ≠ (withL o1)[j].1)) := hide (fun r hr hr2 s hs h1 h2 => by
                          obtain ⟨hr3, hr4⟩ := hr hr2
                          by_cases e : s = t
                          · subst e; exact hr4
                          · exact unhide HQ hr3 s hs h1 (by omega))
                        obtain ⟨x, hx⟩ : ∃ x, x = (withL o1)[j].1 := ⟨_, rfl⟩
                        obtain ⟨y, hy⟩ : ∃ y, y = (withL o1)[t].1 := ⟨_, rfl⟩
                        rw [← hx] at d0 hok
                        rw [← hy] at d0' hok'
                        have HX := hide hx
                        have HY := hide hy
                        have hao' : ao = some ⟨g, off, none⟩ := by rw [e1, hao]
                        subst hao'
                        have hj0 : (0 : Int) ≤ (j : Int) := Int.natCast_nonneg _
                        have ht0 : (0 : Int) ≤ (t : Int) := Int.natCast_nonneg _
                        clear hx hy sl sl' d1 d1' hcl h4 hao e1 HQ
                        cases q
                        · go_wp2_with fail
                          go_quiet (fail)
                          go_wp2
                          go_roundw
                          case rel => exact ⟨t + 1, false, rfl, by go_num, by omega, by omega, hide (fun h => absurd h (by decide)), hide ((unhide HL).grown (below_drewN _ _) fun j hj => .inl hj), hide ((unhide HV).same (same_drewN _ _ _))⟩
                          case measure => simp [intOf]; omega
                        · by_cases hxy : y = x
                          · go_wp2_with fail
                            go_quiet (fail)
                            go_wp2
                            go_roundw
                            case rel => exact ⟨t + 1, false, by first | rfl | simp [hxy], by go_num, by omega, by omega, hide (fun h => absurd h (by decide)), hide ((unhide HL).grown (below_drewN _ _) fun j hj => .inl hj), hide ((unhide HV).same (same_drewN _ _ _))⟩
                            case measure => simp [intOf]; omega
                          · go_wp2_with fail
                            go_quiet (fail)
                            go_wp2
                            go_roundw
                            case rel => exact ⟨t + 1, true, by first | rfl | simp [hxy], by go_num, by omega, by omega, hide (unhide HXQ true (fun _ => ⟨by trivial, by rw [← unhide HX, ← unhide HY]; exact hxy⟩)), hide ((unhide HL).grown (below_drewN _ _) fun j hj => .inl hj), hide ((unhide HV).same (same_drewN _ _ _))⟩
                            case measure => simp [intOf]; omega
                      · have hltt' : ¬ (t : Int) < (n2 : Int) := by omega
                        obtain rfl : t = n2 := by omega
                        obtain ⟨ao', cap', e, _, _, _, h4⟩ := (unhide HV).here
                        rw [← unhide HN3] at e
                        injection e with e1 e2 e3
                        clear e2 e3
                        obtain ⟨g, off, hao, hgl, hcl⟩ := h4 (by rw [← unhide HN3]; omega)
                        obtain ⟨a, cc, d0, d1, sl⟩ := hcl j hjw
                        have hok := (okW_with o1).1 _ (List.getElem_mem hjw)
                        cases q
                        · clear hcl h4 sl hao e1
                          go_wp2_with fail
                          go_quiet (fail)
                          go_wp2
                          go_roundw
                          case rel => exact ⟨j + 1, by go_num, by omega, hide ((unhide HL).grown (below_drewN _ _) fun j hj => .inl hj), hide ((unhide HV).same (same_drewN _ _ _))⟩
                          case measure => simp [intOf]; omega
                        · have hlast : (withL o1)[j].2 = c (withL o1)[j].1.toNat := by
                            rw [unhide AD2 _ (by omega)]
                            exact (over_last (withL o1) zeros j hjw (fun p hp => ((okW_with o1).1 p hp).1) (fun s hs h1 => unhide HQ rfl s hs h1 (by rw [unhide HN3]; exact hs))).symm
                          have hcut : al.extract (512 * (withL o1)[j].1.toNat) (512 * (withL o1)[j].1.toNat + 512) = ⟨((withL o1)[j].2).toArray⟩ := by
                            rw [unhide HAL, hlast, cut_str]
                            rw [catF_at c 44 (unhide HW) _ (by omega)]
                          have hsz : al.size = 22528 := by
                            rw [unhide HAL]; show (catF c 44).toArray.size = _; rw [List.size_toArray]; exact catF_len c 44 (unhide HW)
                          obtain ⟨x, hx⟩ : ∃ x, x = (withL o1)[j] := ⟨_, rfl⟩
                          rw [← hx] at d0 sl hok hcut
                          clear hx hlast HQ
                          obtain ⟨x1, L⟩ := x
                          obtain ⟨m3, hm⟩ : ∃ m : Nat, x1 = (m : Int) := ⟨x1.toNat, by simp only at hok; omega⟩
                          subst hm
                          simp only [Int.toNat_natCast] at d0 sl hok hcut
                          have hm44 : m3 < 44 := by omega
                          have hmI : (m3 : Int) < 44 := by omega
                          have hm0 : (0 : Int) ≤ (m3 : Int) := Int.natCast_nonneg _
                          have hj0 : (0 : Int) ≤ (j : Int) := Int.natCast_nonneg _
                          have ht1 : (512 * (m3 : Int)).toNat = 512 * m3 := by omega
                          have ht2 : (512 * (m3 : Int) + 512).toNat = 512 * m3 + 512 := by omega
                          have hszI : (al.size : Int) = 22528 := by omega
                          have hbd : 512 * (m3 : Int) + 512 ≤ 22528 := by omega
                          have hao' : ao = some ⟨g, off, none⟩ := by rw [e1, hao]
                          subst hao'
                          have sv : ∀ k, (convert 38 9 (.slice a 512 cc)).run Try.prog (wr.drewN k) = .ok (.string ⟨L.toArray⟩) (wr.drewN k) := fun k => (sl.below (below_drewN _ _) (Nat.le_refl _)).strJ
                          have sc : ∀ k, (Instr.slice 9 (.string al) (some (.int .i64 (512 * (m3 : Int)))) (some (.int .i64 (512 * (m3 : Int) + 512))) none).run Try.prog (wr.drewN k) = .ok (.string ⟨L.toArray⟩) (wr.drewN k) := fun k => by
                            rw [run_slice_string (wr.drewN k) 9 al .i64 .i64 _ _ Try.underlying9 (by omega) (by omega) (by omega), ht1, ht2, hcut]
                          obtain ⟨Ls, hLs⟩ : ∃ Ls, Ls = (⟨L.toArray⟩ : ByteArray) := ⟨_, rfl⟩
                          rw [← hLs] at sv sc
                          clear hLs hcut
                          clear sl hcl h4 hao e1 hok
                          go_wp2_with fail
                          go_quiet (fail)
                          go_wp2
                          go_roundw
                          case rel => exact ⟨j + 1, by go_num, by omega, hide ((unhide HL).grown (below_drewN _ _) fun j hj => .inl hj), hide ((unhide HV).same (same_drewN _ _ _))⟩
                          case measure => simp [intOf]; omega
                  · have hlt' : ¬ (j : Int) < (n2 : Int) := by omega
                    have HB := hide (unhide HL).rst.bel
                    clear HL HV
                    go_wp2
                    go_ret
                    exact ⟨rfl, unhide HB⟩
              · subst ad1
                have HB := hide (unhide HL).rst.bel
                clear HL HV
                go_wp2
                go_ret
                exact ⟨rfl, unhide HB⟩


set_option maxRecDepth 100000 in
theorem JAgain.lifted (os : Os) (started : os.Started) (H : Type) (enc : TypeId × Value → H) :
    ReturnsInHanded {} Try.checked os 3 .any (Rows.journalAgainSpec.pre6 enc Try.prog Try.f3 Rows.journalAgainRow.domain false) (Rows.journalAgainSpec.post enc Try.prog Try.f3 false true false false) := by
  refine returnsInHanded_of_change (C := Try.checked) own_knob started (by kernel_rfl) Try.func3
    (ChangeSpec.witness6 (enc := enc) (C := Try.checked) false ⟨#[], #[.slice none 0 0, .int .i64 0, .slice none 0 0, .slice none 0 0], []⟩ 8 (by kernel_rfl) (by kernel_rfl) (by kernel_rfl) (by kernel_rfl)) ?_
  intro W base args ds gs before hval0 hW hcnd _
  have hval : ∀ (j : Nat) t v, Try.f3.params[j]? = some t → args[j]? = some v → Value.okWide Try.prog W .any base t v := hval0
  have hW' := hW
  obtain ⟨p, q, hA0, hV, rfl, hfz, hnd⟩ := hW
  have hA : DataW.TrodAll enc Try.prog W 0 (fun _ => true) true Try.f3.params.toList args.toList ds p := hA0
  rw [Try.params3] at hA hval
  obtain ⟨v0, vs0, d0, ds0, p0, q0, e0, rfl, rfl, h0, hA⟩ := trodAll_cons hA
  obtain ⟨v1, vs1, d1, ds1, p1, q1, rfl, rfl, rfl, h1, hA⟩ := trodAll_cons hA
  obtain ⟨v2, vs2, d2, ds2, p2, q2, rfl, rfl, rfl, h2, hA⟩ := trodAll_cons hA
  obtain ⟨v3, vs3, d3, ds3, p3, q3, rfl, rfl, rfl, h3, hA⟩ := trodAll_cons hA
  obtain ⟨rfl, rfl, rfl⟩ := trodAll_nil hA
  obtain rfl : args = #[v0, v1, v2, v3] := by cases args; simp_all
  obtain ⟨rfl, rfl⟩ := trodVars_none hV
  obtain ⟨a0, len0, cap0, rfl⟩ := okWide_slice Try.underlying22 (hval 0 22 v0 rfl rfl)
  obtain ⟨x1, rfl, rfl, rfl, w1⟩ := open_int Try.underlying3 (hval 1 3 v1 rfl rfl) h1
  obtain ⟨a2, len2, cap2, rfl⟩ := okWide_slice Try.underlying23 (hval 2 23 v2 rfl rfl)
  obtain ⟨a3, len3, cap3, rfl⟩ := okWide_slice Try.underlying23 (hval 3 23 v3 rfl rfl)
  have k0 := h0
  have lt0 : ∀ x ∈ p0, x.block < W.heap.size := by obtain ⟨m, hm⟩ := k0; exact DataW.trod_lt m _ _ _ hm
  have k2 := h2
  have lt2 : ∀ x ∈ p2, x.block < W.heap.size := by obtain ⟨m, hm⟩ := k2; exact DataW.trod_lt m _ _ _ hm
  have k3 := h3
  have lt3 : ∀ x ∈ p3, x.block < W.heap.size := by obtain ⟨m, hm⟩ := k3; exact DataW.trod_lt m _ _ _ hm
  obtain ⟨l0, hl0⟩ := open_ones h0
  have bx1 := bounds_i64 w1
  obtain ⟨l2, hl2⟩ := open_intl h2
  obtain ⟨l3, hl3⟩ := open_intl h3
  clear hA0 hval0
  refine (JAgain.go W _ l0 hl0 x1 (by omega) (by omega) _ l2 hl2 _ l3 hl3).mono fun e W' ⟨he, bel⟩ => ?_
  subst he
  exact ⟨_, rfl, _, _, _, [], _, [], hW', trodAll_mk1 (shut_bool Try.underlying4 _), (trodAll_cons_mk (Below.trod laid_out (by kernel_rfl) (of_decide_eq_true (by kernel_rfl)) k0 bel lt0) (trodAll_cons_mk (shut_int Try.underlying3 w1) (trodAll_cons_mk (Below.trod laid_out (by kernel_rfl) (of_decide_eq_true (by kernel_rfl)) k2 bel lt2) (trodAll_cons_mk (Below.trod laid_out (by kernel_rfl) (of_decide_eq_true (by kernel_rfl)) k3 bel lt3) trodAll_mk0)))), rfl, bel.frame _, fun h => by cases h⟩

theorem journalAgain_holds : Rows.JournalAgainSaid :=
  OpenClaim.holds_of_wide 3 Try.f3 rfl rfl rfl rfl rfl rfl rfl ⟨rfl, rfl, rfl, rfl, rfl⟩ rfl rfl rfl rfl rfl (by kernel_rfl) Try.func3 (by kernel_rfl)
    (of_decide_eq_true (by kernel_rfl)) (by unfold Func.isWrapper; first | (rw [if_pos (by decide +kernel)]; kernel_rfl) | (rw [if_neg (by decide +kernel)]; exact ⟨rfl, rfl⟩))
    (fun os started H enc _ => JAgain.lifted os started H enc)
#print axioms journalAgain_holds
end Go.Proofs.Ytgehefnkbcbldab
