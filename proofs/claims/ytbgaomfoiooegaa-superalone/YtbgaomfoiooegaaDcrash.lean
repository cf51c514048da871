/-
  DERIVED. Crash.
-/
import Derived.Test.YtbgaomfoiooegaaDops
namespace Go.Proofs.Ytbgaomfoiooegaa
open Go.RowKit Go.Maps
set_option linter.unusedVariables false

/-- A slice of numbers. -/
def Ints (w : World) (v : Value) (l : List Int) : Prop :=
  ∃ ao cap, v = .slice ao l.length cap ∧ l.length ≤ 9223372036854775807 ∧ (∀ x ∈ l, -9223372036854775808 ≤ x ∧ x < 9223372036854775808) ∧ (l ≠ [] → ∃ pb off, ao = some ⟨pb, off, none⟩ ∧ pb < w.heap.size ∧ ∀ i, (h : i < l.length) → w.cell? ⟨pb, off + i, none⟩ = some (.int .i64 l[i]))

theorem idx_ints (ao : Option Addr) (n cap pb off j : Nat) (h : ao = some ⟨pb, off, none⟩) (hj : j < n) (W : World) : (Instr.indexAt 35 (.slice ao n cap) (.int .i64 (j : Nat))).run Try.prog W = .ok (.pointer (some ⟨pb, off + j, none⟩)) W := by
  subst h
  have hu : Try.prog.underlying 35 = some (.slice (Try.prog.elem 35)) := by kernel_rfl
  rw [run_indexAt_slice (h := hu), if_pos (by omega)]
  have e : Try.prog.elem 35 = 3 := by kernel_rfl
  have e2 : (sizeOf 3).run Try.prog W = .ok 1 W := by kernel_rfl
  rw [e, e2, Result.andThen_ok, Nat.mul_one, Int.toNat_natCast, addr_add]

theorem DevIn.setSafe {w : World} {b : Nat} {F : Nat → Prop} {N : Nat} {S : St} {g c m : Nat} {vf : Nat → Value} {D : DataW Value} (h : DevIn w b F N S g c m vf D) (k : Nat) (hk : k < S.safe.length) (L : List UInt8) (hL : L.length = 512) :
    DevIn (w.setCells g (k * 512) (L.map bv)) b F N { S with safe := S.safe.set k L } g c m vf D := by
  obtain ⟨n1, n2, n3⟩ := h.ne_map
  have hg := grown_setCells g (L.map bv) (k * 512) w
  have hsl : (S.safe.set k L).length = S.safe.length := List.length_set
  exact { dev := by
            show DevAt _ b (.slice _ (S.safe.set k L).length c) _ _ _ _ _
            rw [hsl]
            exact (hg.block b h.dev.lt (fun e => n3 (Option.some.inj e).symm)).trans h.dev
          safe := by
            show Blks _ (.slice _ (S.safe.set k L).length c) (S.safe.set k L)
            rw [hsl]
            exact Blks.set h.safe h.wide k hk L hL
          wide := h.wide.set hL k
          pend := by
            show PendAt _ F m g (S.safe.set k L).length N S.pend vf D
            rw [hsl]
            exact h.pend.frame' (hg.block m h.pend.own.lt (fun e => n2 (Option.some.inj e).symm)) fun j q hq hlt => hg.block q hlt fun e => (h.pend.foot j q hq).2 (Option.some.inj e)
          fb := h.fb, fg := h.fg, fm := h.fm, f1 := h.f1, f2 := h.f2, o1 := h.o1, o2 := h.o2
          n1 := by show 64 ≤ (S.safe.set k L).length; rw [hsl]; exact h.n1
          n2 := by show (S.safe.set k L).length ≤ 512; rw [hsl]; exact h.n2 }

def pickAt (ps : List Int) (i : Nat) : Int := (ps[i]?).getD 0
/-- The blocks with writes. -/
def St.keys (S : St) : List Nat := pk S.safe.length S.pend
/-- What is flushed, so far in a crash. -/
def St.crashTo (S : St) (ps : List Int) : Nat → List (List UInt8)
  | 0 => S.safe
  | i + 1 => (St.crashTo S ps i).set ((S.keys[i]?).getD 0) (St.keptB { S with safe := St.crashTo S ps i } ((S.keys[i]?).getD 0) (pickAt ps i))
theorem St.crashTo_len (S : St) (ps : List Int) : ∀ i, (S.crashTo ps i).length = S.safe.length
  | 0 => rfl
  | i + 1 => by rw [St.crashTo, List.length_set, St.crashTo_len S ps i]
def St.crashAt (S : St) (ps : List Int) (i : Nat) : St := { S with safe := S.crashTo ps i }
/-- A device behind a crash. -/
def St.crash (S : St) (ps : List Int) : St := { safe := S.crashTo ps S.keys.length, pend := fun _ => [], fused := false, fuse := 0, down := false, ops := S.ops }

theorem mem_keys {S : St} {k : Nat} (h : k ∈ S.keys) : k < S.safe.length := (mem_pk.1 h).1

/-- The device behind the clearing, its cells set. -/
theorem DevIn.cleared {w w' : World} {b : Nat} {F : Nat → Prop} {N : Nat} {S : St} {g c m : Nat} {vf : Nat → Value} {D : DataW Value} (h : DevIn w b F N S g c m vf D) (hc : w'.ownsMap Try.prog 3 rawE m 0 (.map [])) (hg : w.grownBy w' (some m)) :
    DevIn w' b F N { S with pend := fun _ => [] } g c m (fun _ => nilS) (.map []) := by
  obtain ⟨n1, n2, n3⟩ := h.ne_map
  obtain ⟨cur, hcur⟩ := Blks.mark h.safe rfl
  exact { h with
    dev := (hg.block b h.dev.lt (fun e => n1 (Option.some.inj e))).trans h.dev
    safe := Blks.frame h.safe fun q hq hlt => by cases hq; exact hg.block g hlt (fun e => n2 (Option.some.inj e))
    pend := h.pend.cleared hc }

theorem Pending_form {w : World} {b : Nat} {F : Nat → Prop} {N : Nat} {S : St} {g c m : Nat} {vf : Nat → Value} {D : DataW Value} (h : DevIn w b F N S g c m vf D) (hN : N < 1000000) :
    Calls Try.prog 30 #[.pointer (some ⟨b, 0, none⟩)] w fun e w' => ∃ ao cap, e = .returned (.slice ao S.keys.length cap) ∧ (∀ i, (hi : i < S.keys.length) → ∃ q, ao = some ⟨q, 0, none⟩ ∧ w.heap.size ≤ q ∧ q < w'.heap.size ∧ w'.cell? ⟨q, 0 + i, none⟩ = some (.int .i64 (S.keys[i] : Nat))) ∧ Below w.heap.size w w' := by
  refine (Pending_dev ⟨g, c, m, vf, D, h⟩ hN).mono ?_
  rintro e w' ⟨v, rfl, hrow, hb⟩
  rcases hrow.2 with ⟨rfl, h0⟩ | ⟨q, cap, cur, rfl, hq, hcur, _⟩
  · exact ⟨none, 0, by show _ = Ending.returned (.slice none (pk S.safe.length S.pend).length 0); rw [h0], fun i hi => by have : i < (pk S.safe.length S.pend).length := hi; omega, hb⟩
  · refine ⟨_, cap, rfl, fun i hi => ⟨q, rfl, hq, lt_of_block hcur, ?_⟩, hb⟩
    have := hrow.cells (g := q) rfl i (.int .i64 (S.keys[i] : Nat)) (by rw [List.getElem?_map]; show Option.map _ (S.keys[i]?) = _; rw [List.getElem?_eq_getElem hi]; rfl)
    rw [addr_add] at this
    exact this

set_option maxRecDepth 100000 in
set_option maxHeartbeats 3200000 in
theorem Crash_in {w : World} {b : Nat} {F : Nat → Prop} {N : Nat} {S : St} {g c m : Nat} {vf : Nat → Value} {D : DataW Value} (h : DevIn w b F N S g c m vf D) (hN : N < 1000000) (ps : List Int) (v : Value) (hv : Ints w v ps) (hvo : ps ≠ [] → ∀ pb, v.ownBlock = some pb → ¬ F pb) :
    Calls Try.prog 16 #[.pointer (some ⟨b, 0, none⟩), v] w fun e w' => e = .returned (.tuple #[]) ∧ Dev w' b F N (S.crash ps) ∧ Kept F w w' := by
  obtain ⟨ap, cp, rfl, hpl, hpr, hpc⟩ := hv
  have HD := hide h
  have HP := hide hpc
  have HR := hide hpr
  have hkl : S.keys.length ≤ 512 := Nat.le_trans (pk_len _ _) h.n2
  have hblt := h.dev.lt
  have hglt : g < w.heap.size := lt_of_block (Blks.mark h.safe rfl).choose_spec
  clear h hpc hpr
  go_enter Try.func16, Try.ntmps16
  go_wp2_with (first | (go_at_call 30; refine (Pending_form (unhide HD) hN).mono ?_; rintro e w2 ⟨ao, cap, rfl, hao, hb2⟩) | fail)
  have HA := hide hao
  have HB := hide hb2
  clear hao hb2
  go_wp2_with fail
  go_loopw [12] (fun i wr => ∃ j : Nat, j ≤ S.keys.length ∧ i = .int .i64 j ∧ DevIn wr b F N (S.crashAt ps j) g c m vf D ∧ w2.grownBy wr (some g)) (fun i _ => S.keys.length - (intOf i).toNat)
  case atStart => exact ⟨0, Nat.zero_le _, rfl, (unhide HD).frame fun j _ hj => (unhide HB).block j hj, ⟨rfl, rfl, rfl, Nat.le_refl _, fun _ _ _ => rfl⟩⟩
  case round =>
    obtain ⟨j, hj, rfl, hdv, hgr⟩ := hrel
    have HV := hide hdv
    have HG := hide hgr
    have hws : w.heap.size ≤ wr.heap.size := Nat.le_trans (unhide HB).size hgr.size
    clear hdv hgr
    by_cases hlt : j < S.keys.length
    · obtain ⟨q, hq, hqw, hq2, hqc⟩ := unhide HA j hlt
      have hix := idx_ints ao S.keys.length cap q 0 j hq hlt
      have hcl : wr.cell? ⟨q, 0 + j, none⟩ = some (.int .i64 (S.keys[j] : Nat)) := ((unhide HG).cell_far ⟨q, 0 + j, none⟩ hq2 (fun e => by have : q = g := Option.some.inj e; omega)).trans hqc
      obtain ⟨k, hk⟩ : ∃ k, k = S.keys[j] := ⟨_, rfl⟩
      have hkn : k < S.safe.length := by rw [hk]; exact mem_keys (List.getElem_mem hlt)
      rw [← hk, Nat.zero_add] at hcl
      simp only [Nat.zero_add] at hix
      have HK := hide hk
      clear hk hq hqc
      have hkn2 : k < (S.crashAt ps j).safe.length := by show k < (S.crashTo ps j).length; rw [St.crashTo_len]; exact hkn
      obtain ⟨p, hp⟩ : ∃ p, p = pickAt ps j := ⟨_, rfl⟩
      have hpb : -9223372036854775808 ≤ p ∧ p < 9223372036854775808 := by
        rw [hp]
        unfold pickAt
        by_cases e : j < ps.length
        · rw [List.getElem?_eq_getElem e, Option.getD_some]; exact unhide HR _ (List.getElem_mem e)
        · rw [List.getElem?_eq_none (by omega)]; decide
      obtain ⟨cs, hcs⟩ : ∃ cs, cs = ((S.crashAt ps j).keptB k p).map bv := ⟨_, rfl⟩
      have hc5 : cs.length = 512 := by rw [hcs, List.length_map]; exact St.keptB_len (unhide HV) k hkn2 p
      have h1c : ∀ v ∈ cs, v.oneCell' = true := by rw [hcs]; exact bv_one _
      have hkept := fun W hW => kept_dev ((unhide HV).frame (w' := W) hW) k hkn2 p hpb.1 hpb.2 (by omega)
      rw [← hcs] at hkept
      have HKP := hide hkept
      have HCS := hide hcs
      have HPP := hide hp
      clear hkept hcs
      have hn : (S.crashAt ps j).safe.length = S.safe.length := St.crashTo_len S ps j
      have c0 := (unhide HV).dev.c0
      rw [hn] at c0
      have th : wr.there g (k * 512) 512 := Blks.there (unhide HV).safe (unhide HV).wide k hkn2
      have HTH := hide th
      clear hn th hkn2
      have hi : (Try.prog.info? 72).map (·.size) = some cs.length := by rw [hc5]; exact sizeBlock
      have hu := Try.underlying72
      have hk0 : (0 : Int) ≤ (k : Int) := Int.natCast_nonneg _
      have hk1 : (k : Int) < (S.safe.length : Int) := by omega
      have hbg : b ≠ g := fun e => (unhide HV).ne_map.2.2 e.symm
      have hbr : b < wr.heap.size := (unhide HV).dev.lt
      have hgr : g < wr.heap.size := lt_of_block (Blks.mark (unhide HV).safe rfl).choose_spec
      have HS3 : Hid (∀ W, Below wr.heap.size wr W → W.cell? ⟨b, 0, none⟩ = some (.slice (some ⟨g, 0, none⟩) S.safe.length c) ∧ W.there g (k * 512) 512) := hide fun W hW => ⟨(hW.cell (p := ⟨b, 0, none⟩) hbr).trans c0, fun i hi => by
        rw [hW.cell (p := ⟨g, k * 512 + i, none⟩) hgr, hW.frozen (p := ⟨g, k * 512 + i, none⟩) hgr]; exact unhide HTH i hi⟩
      have HS4 : Hid (∀ W, Below wr.heap.size wr W → (W.setCells g (k * 512) cs).cell? ⟨b, 0, none⟩ = some (.slice (some ⟨g, 0, none⟩) S.safe.length c) ∧ (W.setCells g (k * 512) cs).there g (k * 512) 512) := hide fun W hW => by
        obtain ⟨q1, q2⟩ := unhide HS3 W hW
        exact ⟨(World.cell?_setCells_out g cs _ W ⟨b, 0, none⟩ (fun e => absurd e hbg)).trans q1, World.there_setCells q2 _ _ _⟩
      have HFIN : Hid (∀ W, Below wr.heap.size wr W → DevIn (W.setCells g (k * 512) cs) b F N (S.crashAt ps (j + 1)) g c m vf D ∧ w2.grownBy (W.setCells g (k * 512) cs) (some g)) := hide fun W hW => by
        have h1 := ((unhide HV).frame (w' := W) fun i _ hi => hW.block i hi).setSafe k (by show k < (S.crashTo ps j).length; rw [St.crashTo_len]; exact hkn) ((S.crashAt ps j).keptB k p) (St.keptB_len (unhide HV) k (by show k < (S.crashTo ps j).length; rw [St.crashTo_len]; exact hkn) p)
        rw [← unhide HCS] at h1
        have e : S.crashAt ps (j + 1) = { S.crashAt ps j with safe := (S.crashAt ps j).safe.set k ((S.crashAt ps j).keptB k p) } := by
          have ek : (S.keys[j]?).getD 0 = k := by rw [List.getElem?_eq_getElem hlt, Option.getD_some, ← unhide HK]
          unfold St.crashAt
          rw [St.crashTo, ek, ← unhide HPP]
        refine ⟨by rw [e]; exact h1, (unhide HG).trans (World.grownBy.trans ?_ (grown_setCells g cs _ W))⟩
        exact ⟨hW.os, hW.tape, hW.output, hW.size, fun i hi _ => hW.block i hi⟩
      by_cases hj2 : j < ps.length
      · obtain ⟨pb, off, hap, hpw, hpcl⟩ := unhide HP (fun e => by rw [e] at hj2; simp at hj2)
        have hix2 := idx_ints ap ps.length cp pb off j hap hj2
        have hpg : pb ≠ g := fun e => hvo (fun e2 => by rw [e2] at hj2; simp at hj2) pb (by rw [hap]; rfl) (e ▸ (unhide HD).fg)
        have hcl2 : wr.cell? ⟨pb, off + j, none⟩ = some (.int .i64 p) := by
          rw [(unhide HG).cell_far ⟨pb, off + j, none⟩ (by have := (unhide HB).size; show pb < w2.heap.size; omega) (fun e => hpg (Option.some.inj e)), (unhide HB).cell (p := ⟨pb, off + j, none⟩) hpw, hpcl j hj2, hp]
          unfold pickAt
          rw [List.getElem?_eq_getElem hj2, Option.getD_some]
        clear hp hpcl hap
        go_wp2_with fail
        go_region_held3 (fun w' => w'.cell? ⟨b, 0, none⟩ = some (.slice (some ⟨g, 0, none⟩) S.safe.length c) ∧ w'.there g (k * 512) 512)
          (first | exact ⟨c0, unhide HTH⟩ | exact unhide HS3 _ hb3 | exact unhide HS4 _ hb3)
          (first | (go_at_call 31; refine (unhide HKP wr.drew (fun _ _ _ => rfl)).mono ?_; rintro e w3 ⟨rfl, hb0⟩; have hb3 : Below wr.heap.size wr w3 := after_drew hb0))
        have HX := hide (unhide HFIN w3 hb3)
        clear hb0 hb3
        go_wp2
        refine ⟨⟨j + 1, by omega, rfl, (unhide HX).1, (unhide HX).2⟩, ?_⟩
        simp [intOf]
        omega
      · obtain rfl : p = 0 := by rw [hp]; unfold pickAt; rw [List.getElem?_eq_none (by omega)]; rfl
        clear hp
        go_wp2_with fail
        go_region_held3 (fun w' => w'.cell? ⟨b, 0, none⟩ = some (.slice (some ⟨g, 0, none⟩) S.safe.length c) ∧ w'.there g (k * 512) 512)
          (first | exact ⟨c0, unhide HTH⟩ | exact unhide HS3 _ hb3 | exact unhide HS4 _ hb3)
          (first | (go_at_call 31; refine (unhide HKP wr.drew (fun _ _ _ => rfl)).mono ?_; rintro e w3 ⟨rfl, hb0⟩; have hb3 : Below wr.heap.size wr w3 := after_drew hb0))
        have HX := hide (unhide HFIN w3 hb3)
        clear hb0 hb3
        go_wp2
        refine ⟨⟨j + 1, by omega, rfl, (unhide HX).1, (unhide HX).2⟩, ?_⟩
        simp [intOf]
        omega
    · obtain rfl : j = S.keys.length := by omega
      obtain ⟨w4, hcl, hcm, hcg⟩ := clear_own (unhide HV).pend.own 0
      have h4 := (unhide HV).cleared hcm hcg
      have c1 := (unhide HV).dev.c1
      have d4 := h4.dev
      have c4 := d4.c4
      have n4 := d4.nf 4
      have H4 := hide (d4.s4 false)
      have c2 := (unhide H4).c2
      have n2 := (unhide H4).nf 2
      have H2 := hide ((unhide H4).s2 false)
      have c3 := (unhide H2).c3
      have n3 := (unhide H2).nf 3
      have HO := hide ((((Only.refl b w4).set 4 (.bool false)).set 2 (.bool false)).set 3 (.int .i64 0))
      have HF : Hid (Dev (((w4.setCell ⟨b, 4, none⟩ (.bool false)).setCell ⟨b, 2, none⟩ (.bool false)).setCell ⟨b, 3, none⟩ (.int .i64 0)) b F N (S.crash ps) ∧ Kept F w (((w4.setCell ⟨b, 4, none⟩ (.bool false)).setCell ⟨b, 2, none⟩ (.bool false)).setCell ⟨b, 3, none⟩ (.int .i64 0))) := hide ⟨⟨g, c, m, _, _, h4.turn (T := S.crash ps) (unhide HO) (Nat.le_refl _) ((unhide H2).s3 0) rfl rfl (by show (0 : Int) ≤ 0; omega) (by show (0 : Int) < 9223372036854775808; omega) h4.o1 h4.o2⟩,
        (((Kept.of_below (unhide HB)).trans (Kept.of_grown (unhide HG) fun i hi => by cases hi; exact (unhide HD).fg)).trans (Kept.of_grown hcg fun i hi => by cases hi; exact (unhide HD).fm)).trans (Kept.of_only (unhide HO) (unhide HD).fb)⟩
      clear h4 d4 hcm hcg
      go_wp2
      go_end0
      exact ⟨rfl, unhide HF⟩

theorem Crash_dev {w : World} {b : Nat} {F : Nat → Prop} {N : Nat} {S : St} (h : Dev w b F N S) (hN : N < 1000000) (ps : List Int) (v : Value) (hv : Ints w v ps) (hvo : ps ≠ [] → ∀ pb, v.ownBlock = some pb → ¬ F pb) :
    Calls Try.prog 16 #[.pointer (some ⟨b, 0, none⟩), v] w fun e w' => e = .returned (.tuple #[]) ∧ Dev w' b F N (S.crash ps) ∧ Kept F w w' := by
  obtain ⟨g, c, m, vf, D, h⟩ := h
  exact Crash_in h hN ps v hv hvo

/-- The device's blocks are there. -/
theorem Dev.cap {w : World} {b : Nat} {F : Nat → Prop} {N : Nat} {S : St} (h : Dev w b F N S) : Dev w b (fun k => F k ∧ k < w.heap.size) N S := by
  obtain ⟨g, c, m, vf, D, h⟩ := h
  have hg : g < w.heap.size := lt_of_block (Blks.mark h.safe rfl).choose_spec
  exact ⟨g, c, m, vf, D, { h with fb := ⟨h.fb, h.dev.lt⟩, fg := ⟨h.fg, hg⟩, fm := ⟨h.fm, h.pend.own.lt⟩, pend := { h.pend with foot := fun k q hq => ⟨⟨(h.pend.foot k q hq).1, lt_of_block (Blks.mark (h.pend.rows k) hq).choose_spec⟩, (h.pend.foot k q hq).2⟩ } }⟩

/-- F, and what is new between two worlds. -/
def ext (F : Nat → Prop) (w w' : World) : Nat → Prop := fun k => F k ∨ (w.heap.size ≤ k ∧ k < w'.heap.size)

theorem Write_ext {w : World} {b : Nat} {F : Nat → Prop} {N : Nat} {S : St} (h : Dev w b F N S) (k : Nat) (L : List UInt8) (v : Value) (hk : k < S.safe.length) (hd : S.down = false) (hB : burnE S.fused S.fuse = 0)
    (hv : Sl w v L) (hL : L.length = 512) (hN : N < 1000000) :
    Calls Try.prog 21 #[.pointer (some ⟨b, 0, none⟩), .int .i64 k, v] w fun e w' => e = .returned (.int .i64 0) ∧ Dev w' b (ext F w w') (N + 2) (S.burn.wrote k L) ∧ Kept F w w' := by
  have h2 : Dev w b (fun k => F k ∨ w.heap.size ≤ k) N S := h.mono (fun k hk => .inl hk) (Nat.le_refl _)
  refine (Write_dev h2 k L v hk hd hB hv hL hN (fun j hj => .inr hj)).mono ?_
  rintro e w' ⟨rfl, hd', hk'⟩
  refine ⟨rfl, hd'.cap.mono (fun j hj => ?_) (Nat.le_refl _), hk'.mono fun j hj hf => ?_⟩
  · rcases hj with ⟨h1 | h1, h2⟩
    · exact .inl h1
    · exact .inr ⟨h1, h2⟩
  · rcases hf with h1 | h1
    · exact h1
    · omega

/-- A new device. -/
def St.new (n : Nat) : St := { safe := List.replicate n (List.replicate 512 0), pend := fun _ => [], fused := false, fuse := 0, down := false, ops := 0 }
theorem cells_new : ∀ n, cellsOf (List.replicate n (List.replicate 512 (0 : UInt8))) = List.replicate (n * 512) (.int .u8 0)
  | 0 => by simp [cellsOf]
  | n + 1 => by
    rw [List.replicate_succ, cellsOf_cons, cells_new n, List.map_replicate]
    have e : (n + 1) * 512 = 512 + n * 512 := by omega
    rw [e, List.replicate_append_replicate.symm]
    rfl
theorem New_dev (n : Nat) (w : World) (h1 : 64 ≤ n) (h2 : n ≤ 512) :
    Calls Try.prog 10 #[.int .i64 n] w fun e w' => e = .returned (.tuple #[.pointer (some ⟨w.heap.size + 2, 0, none⟩), .int .i64 0]) ∧ Dev w' (w.heap.size + 2) (fun k => w.heap.size ≤ k ∧ k < w'.heap.size) 0 (St.new n) ∧ Below w.heap.size w w' := by
  refine (New_ok n w h1 h2).mono ?_
  rintro e w' ⟨rfl, rfl⟩
  have hb : Below w.heap.size w (newW w n) := newW_below w n
  have hl : (St.new n).safe.length = n := List.length_replicate
  have hrow := newW_row w n
  have hwd : Wide (St.new n).safe := fun L hL => by rw [List.eq_of_mem_replicate hL]; exact List.length_replicate
  refine ⟨rfl, ?_, hb⟩
  refine Dev.cap ⟨w.heap.size, n, w.heap.size + 1, fun _ => nilS, .map [], { dev := by rw [hl]; exact newW_dev w n, safe := ?_, wide := hwd, pend := ?_, fb := by show w.heap.size ≤ w.heap.size + 2; omega, fg := Nat.le_refl _, fm := by show w.heap.size ≤ w.heap.size + 1; omega, f1 := Int.le_refl _, f2 := by show (0 : Int) < 9223372036854775808; omega, o1 := Int.le_refl _, o2 := Int.le_refl _, n1 := by rw [hl]; exact h1, n2 := by rw [hl]; exact h2 }⟩
  · refine ⟨cellsOf_len hwd, .inr ⟨w.heap.size, n, noughts (n * 512), rfl, Nat.zero_le _, hrow, by rw [hl]; exact Nat.le_refl _, by unfold maxLen; omega, size_noughts _, ?_⟩⟩
    show (noughts (n * 512)).toList.take ((St.new n).safe.length * 512) = cellsOf (List.replicate n (List.replicate 512 0))
    rw [cells_new, hl]
    simp [noughts]
  · have hown : (newW w n).ownsMap Try.prog 3 rawE (w.heap.size + 1) 0 (.map []) := by
      refine ⟨#[], 0, newW_map w n, ⟨by simp, MapKept.stamped_empty _, by simp⟩, Nat.le_refl _, rfl⟩
    exact { own := hown, at_ := fun _ _ => rfl, has := fun kl => ⟨fun h => (by cases h), fun ⟨k, _, h, _⟩ => absurd rfl h⟩, rows := fun _ => World.ownsRow_nil _ _ _ _, len := fun _ => Nat.zero_le _, foot := fun _ _ h => (by cases h), apart := fun _ _ _ h => (by cases h), wide := fun _ L hL => (by cases hL), out := fun _ _ => rfl }
end Go.Proofs.Ytbgaomfoiooegaa
