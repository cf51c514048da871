/-
  DERIVED. Give: runs given back.
-/
import Derived.Test.YtmnmciajldoabaaAdrop
namespace Go.Proofs.Ytmnmciajldoabaa
open Go.RowKit
set_option linter.unusedVariables false

def fits (x : Int × Int) : Prop := -9223372036854775808 ≤ x.1 ∧ x.1 ≤ 9223372036854775807 ∧ -9223372036854775808 ≤ x.2 ∧ x.2 ≤ 9223372036854775807

/-- A slice of runs that reads as these. -/
def Rn (w : World) (v : Value) (l : List (Int × Int)) : Prop :=
  ∃ ao cap, v = .slice ao l.length cap ∧ l.length ≤ cap ∧ cap ≤ 9223372036854775807 ∧ (∀ x ∈ l, fits x) ∧
    (l.length ≠ 0 → ∃ b off, ao = some ⟨b, off, none⟩ ∧ b < w.heap.size ∧ ∀ i, (h : i < l.length) → w.cell? ⟨b, off + i * 2, none⟩ = some (.int .i64 l[i].1) ∧ w.cell? ⟨b, off + i * 2 + 1, none⟩ = some (.int .i64 l[i].2))

theorem Rn.kept {w w' : World} {v : Value} {l : List (Int × Int)} (h : Rn w v l) (hg : w.grownBy w' none) : Rn w' v l := by
  obtain ⟨ao, cap, e, h1, h2, h3, h4⟩ := h
  refine ⟨ao, cap, e, h1, h2, h3, fun hl => ?_⟩
  obtain ⟨b, off, e2, hb, hc⟩ := h4 hl
  exact ⟨b, off, e2, by have := hg.size; omega, fun i hi => ⟨hg.cell (hc i hi).1 (by simp), hg.cell (hc i hi).2 (by simp)⟩⟩

def GivePost (w : World) (b B : Nat) (U V : Nat → Bool) (l : List (Int × Int)) (e : Ending) (w' : World) : Prop :=
  ((∃ U', giveL B U l = some U' ∧ e = .returned (.int .i64 0) ∧ MapAt w' b B U' V) ∨ (giveL B U l = none ∧ e = .returned (.int .i64 51) ∧ MapAt w' b B U V)) ∧ w.grownBy w' (some b)

theorem wpList_alloc_map {ops : Array Oper} {rest : List Oper} {o : Oper} {a : Act} {w : World} {Q : Exit → Act → World → Prop} (hgd : o.guard = none)
    (ho : o.op = .alloc 52) (h : wpList Try.prog ops Q rest (a.put o.dst (.pointer (some ⟨w.heap.size, 0, none⟩))) (w.alloc (.cells (mcells 0 none? none?) 52))) : wpList Try.prog ops Q (o :: rest) a w := by
  refine wpList_plain hgd fun K hK => ?_
  unfold Oper.wp execOp
  simp only [ho, Sem.run_bind, Sem.run_pure, run_alloc_map, Result.andThen_ok]
  exact hK _ _ h

theorem mcells_one (B : Nat) (U V : Nat → Bool) : (mcells B U V).all (·.oneCell') = true := by
  refine all_oneCell_toArray fun v hv => ?_
  rcases List.mem_cons.1 hv with rfl | hv
  · rfl
  · rcases List.mem_append.1 hv with hv | hv
    · exact bs_one U v hv
    · exact bs_one V v hv

/-- The copy that is laid. -/
theorem copy_laid (w : World) (B : Nat) (U V : Nat → Bool) (hB : B ≤ 512) : MapAt ((w.alloc (.cells (mcells 0 none? none?) 52)).setRow w.heap.size (mcells B U V)) w.heap.size B U V ∧ w.grownBy ((w.alloc (.cells (mcells 0 none? none?) 52)).setRow w.heap.size (mcells B U V)) none := by
  refine ⟨⟨setRow_heap _ _ _ _ _ _ (heap_alloc_new _ _), hB⟩, ⟨rfl, rfl, rfl, by simp, fun k hk _ => ?_⟩⟩
  rw [setRow_other _ _ _ _ (by omega)]
  exact Below.heap_alloc _ _ _ hk

theorem giveL_step {B : Nat} {U : Nat → Bool} {l : List (Int × Int)} {k : Nat} (hk : k < l.length) : giveL B U (l.drop k) = (match dropR B U l[k] with | none => none | some U' => giveL B U' (l.drop (k + 1))) := by
  rw [List.drop_eq_getElem_cons hk]
  rfl

set_option maxHeartbeats 2000000 in
set_option maxRecDepth 20000 in
theorem Give_any (w : World) (b B : Nat) (v : Value) (l : List (Int × Int)) (U V : Nat → Bool) (h : MapAt w b B U V) (hv : Rn w v l) :
    Calls Try.prog 13 #[.pointer (some ⟨b, 0, none⟩), v] w (GivePost w b B U V l) := by
  have hb := h.lt
  have hne : b ≠ w.heap.size := by omega
  obtain ⟨HM, HG⟩ : Hid (MapAt ((w.alloc (.cells (mcells 0 none? none?) 52)).setRow w.heap.size (mcells B U V)) w.heap.size B U V) ∧ Hid (w.grownBy ((w.alloc (.cells (mcells 0 none? none?) 52)).setRow w.heap.size (mcells B U V)) none) := ⟨hide (copy_laid w B U V h.le).1, hide (copy_laid w B U V h.le).2⟩
  have HBk := hide h.blk
  have HN : Hid ((w.alloc (.cells (mcells 0 none? none?) 52)).heap[w.heap.size]? = some (.cells (mcells 0 none? none?) 52)) := hide (heap_alloc_new _ _)
  have HV := hide hv
  have HMb := hide h
  obtain ⟨ao, cap, rfl, hv1, hv2, hv3, hv4⟩ := hv
  have hlen : (l.length : Int) ≤ 9223372036854775807 := by omega
  clear hv4 h
  obtain ⟨n, hn⟩ : ∃ n, n = l.length := ⟨_, rfl⟩
  rw [← hn] at hv1 hlen HV ⊢
  have HNl := hide hn
  clear hn
  go_enter Try.func13, Try.ntmps13
  go_wp2_with (first | (refine wpList_load_row rfl 52 (.tmp 11) rfl b rfl 52 (mcells B U V) (0, 0) _ (unhide HBk) Try.underlying52 rfl (by rw [mcells_size]; exact infoMap) ?_) | (refine wpList_alloc_map rfl rfl ?_) | (refine wpList_store_row rfl 52 (.tmp 5) (.tmp 12) rfl w.heap.size (mcells B U V) rfl rfl 52 (mcells 0 none? none?) (unhide HN) (by rw [mcells_size]; exact infoMap) (by rw [mcells_size, mcells_size]) (mcells_one B U V) ?_))
  go_loopw [15] (fun i wr => ∃ (k : Nat) (Uk : Nat → Bool), i = .int .i64 (k : Int) ∧ k ≤ n ∧ MapAt wr w.heap.size B Uk V ∧ Hid (giveL B U l = giveL B Uk (l.drop k)) ∧ w.grownBy wr none) (fun i _ => n - (intOf i).toNat)
  case atStart => exact ⟨0, U, rfl, by omega, unhide HM, hide (by simp), unhide HG⟩
  case round =>
    obtain ⟨k, Uk, rfl, hk, hm, HE, hg⟩ := hrel
    by_cases hlt : k < n
    · have hlt' : (k : Int) < (n : Int) := by omega
      have hkl : k < l.length := by rw [← unhide HNl]; exact hlt
      obtain ⟨pb, off, hao, hpb, hc⟩ : ∃ pb off, ao = some ⟨pb, off, none⟩ ∧ pb < wr.heap.size ∧ ∀ i, (h : i < l.length) → wr.cell? ⟨pb, off + i * 2, none⟩ = some (.int .i64 l[i].1) ∧ wr.cell? ⟨pb, off + i * 2 + 1, none⟩ = some (.int .i64 l[i].2) := by
        obtain ⟨ao', cap', e, _, _, _, h4⟩ := (unhide HV).kept hg
        cases e
        exact h4 (by omega)
      subst hao
      obtain ⟨c0, c1⟩ := hc k hkl
      have hfit := hv3 l[k] (List.getElem_mem hkl)
      have HST := hide (giveL_step (B := B) (U := Uk) hkl)
      obtain ⟨x, hx⟩ : ∃ x, x = l[k] := ⟨_, rfl⟩
      rw [← hx] at c0 c1 hfit HST
      have HX := hide hx
      clear hc hx
      obtain ⟨x1, x2⟩ := x
      obtain ⟨f1, f2, f3, f4⟩ := hfit
      simp only at c0 c1 f1 f2 f3 f4
      have HM2 := hide (hm.alloc (.cells #[.int .i64 x1, .int .i64 x2] 36))
      have HG2 : Hid (w.grownBy (wr.alloc (.cells #[.int .i64 x1, .int .i64 x2] 36)) none) := hide (hg.trans (World.grownBy_alloc _ _ _))
      clear hm hg
      go_wp2_with fail
      refine (drop_any (wr.alloc (.cells #[.int .i64 x1, .int .i64 x2] 36)) w.heap.size B (x1, x2) Uk V (unhide HM2) f1 f2 f3 f4).mono ?_
      rintro e w2 ⟨rfl, ⟨U2, hm2, hU2⟩, hg2⟩
      have HM3 := hide hm2
      have HG3 : Hid (w.grownBy w2 none) := hide ((unhide HG2).andThen hg2 (fun j e => by cases e; exact .inl (Nat.le_refl _)))
      clear hm2 hg2 HM2 HG2 HM HG HBk HN
      cases hd : dropR B Uk (x1, x2) with
      | none =>
        have HR : Hid (giveL B U l = none) := hide (by rw [unhide HE, unhide HST, hd])
        clear hU2 HE HST hd
        simp only [Option.isSome_none]
        go_wp2
        go_ret
        exact ⟨.inr ⟨unhide HR, rfl, (unhide HMb).grown (unhide HG3) (by simp)⟩, (unhide HG3).but _⟩
      | some U3 =>
        have HR : Hid (giveL B U l = giveL B U2 (l.drop (k + 1))) := hide (by rw [unhide HE, unhide HST, hd, hU2 U3 hd])
        clear hU2 HE HST hd
        simp only [Option.isSome_some]
        go_wp2
        go_roundw
        case rel => exact ⟨k + 1, U2, rfl, by omega, unhide HM3, HR, unhide HG3⟩
        case measure => simp [intOf]; omega
    · have hlt' : ¬ (k : Int) < (n : Int) := by omega
      have HR : Hid (giveL B U l = some Uk) := hide (by rw [unhide HE, List.drop_eq_nil_of_le (by have := unhide HNl; omega)]; rfl)
      have hmb := (unhide HMb).grown hg (by simp)
      have HRg := hide hm.rangeU
      have HT : Hid (wr.there b 1 (bs Uk).toArray.size) := hide (by simpa [bs_len] using hmb.thereU)
      have HF := hide (hmb.setU Uk)
      have HG2 : Hid (w.grownBy (wr.setCells b 1 (bs Uk)) (some b)) := hide ((hg.but _).trans (setCells_grown b _ _ _))
      clear HM HG HBk HN HV HMb hm hg hmb HE hv3
      go_wp2_with (first | (refine wpList_load_mid rfl 50 (.tmp 24) rfl w.heap.size 1 rfl (bs Uk) _ (unhide HRg) Try.underlying50 rfl (by rw [bs_len]; exact info512) ?_) | (refine wpList_store_mid rfl 50 (.tmp 27) (.tmp 25) rfl b 1 (bs Uk).toArray rfl rfl (unhide HT) (by simpa [bs_len] using info512) (all_oneCell_toArray (bs_one Uk)) ?_))
      go_ret
      exact ⟨.inl ⟨Uk, unhide HR, rfl, unhide HF⟩, unhide HG2⟩
theorem Give_nil (w : World) (v : Value) : Calls Try.prog 13 #[.pointer none, v] w fun e w' => e = .returned (.int .i64 1) ∧ w' = w := by
  go_enter Try.func13, Try.ntmps13
  go_wp2
  go_ret
  exact ⟨rfl, rfl⟩
end Go.Proofs.Ytmnmciajldoabaa
