/-
  DERIVED. Flush, where it flushes.
-/
import Derived.Test.YtbgaomfoiooegaaDstr
namespace Go.Proofs.Ytbgaomfoiooegaa
open Go.RowKit Go.Maps
set_option linter.unusedVariables false

/-- A step of the loop over the pending writes. -/
theorem wpList_next_pend (w : World) {ops : Array Oper} {rest : List Oper} {o : Oper} {a : Act} {Q : Exit → Act → World → Prop} (hg : o.guard = none) (it : Operand) (hop : o.op = Op.next it false)
    {F : Nat → Prop} {m g n N M : Nat} {pend : Nat → List (List UInt8)} {vf : Nat → Value} {D : DataW Value} {left : Lit → Bool} {cnt r : Nat} (hp : PendAt w F m g n M pend vf D)
    (h : w.ranges Try.prog 3 rawE m r N D left cnt) (hit : a.eval it = .pointer (some ⟨r, 0, none⟩))
    (hDone : cnt = 0 → (∀ kl, left kl = false) → wpList Try.prog ops Q rest (a.put o.dst (.tuple #[.bool false])) w)
    (hMore : ∀ (k q cap j L : Nat) (w' : World) (cnt' : Nat), L = j + 1 → k < n → (pend k).length = j + 1 → vf k = .slice (some ⟨q, 0, none⟩) L cap → left (.int .i64 k) = true →
      w'.ranges Try.prog 3 rawE m r N D (fun z => left z && !z.sameKey (.int .i64 k)) cnt' → cnt' < cnt → w.grownBy w' (some r) → w'.heap.size = w.heap.size →
      (Instr.entry (.pointer (some ⟨r, 0, none⟩))).run Try.prog w' = .ok (.tuple #[.int .i64 k, .slice (some ⟨q, 0, none⟩) L cap]) w' →
      wpList Try.prog ops Q rest (a.put o.dst (.tuple #[.bool true, .int .i64 k, .slice (some ⟨q, 0, none⟩) L cap])) w') :
    wpList Try.prog ops Q (o :: rest) a w := by
  refine wpList_plain hg fun K' hK' => ?_
  unfold Oper.wp
  rcases h.next keyedInt o.type with ⟨h0, hl, hrun⟩ | ⟨key, v, kl, y, w', cnt', hkey, hlk, hv, hat, hrun, hrg, hlt, hgr, hsz, hen⟩
  · simp [execOp, hop, hit, hrun, Result.andThen]
    exact hK' _ _ (hDone h0 hl)
  · obtain ⟨x, rfl, rfl, hwx⟩ := Maps.keyOf_int_inv Try.underlying3 hkey
    obtain ⟨k, hk, hne, e⟩ := (hp.has _).1 (has_true_of_atKey hat)
    obtain rfl : x = (k : Int) := by injection e
    have hvf : v = vf k := by
      have h1 := hat (.held nilS)
      rw [hp.at_ k hk] at h1
      have hv2 : y.1 = .held v := by
        unfold rawE at hv
        rw [← Option.some.inj hv]
      rw [hv2] at h1
      exact (DataW.held.inj h1).symm
    obtain ⟨ao, cap, hf, hq⟩ := Blks.form (hp.rows k)
    obtain ⟨q, rfl⟩ := hq hne
    obtain ⟨j, hj⟩ : ∃ j, (pend k).length = j + 1 := ⟨(pend k).length - 1, by have := List.length_pos_iff.2 hne; omega⟩
    rw [hvf, hf] at hrun hen
    simp [execOp, hop, hit, hrun, Result.andThen]
    exact hK' _ _ (hMore k q cap j _ w' cnt' hj hk hj hf hlk hrg hlt hgr hsz hen)

/-- What is flushed, as far as 'left' says. -/
def St.flT (S : St) (left : Lit → Bool) : List (List UInt8) := (List.range S.safe.length).map fun (k : Nat) => if left (.int .i64 (k : Int)) then (S.safe[k]?).getD [] else S.newest k
/-- A device behind a flush. -/
def St.flushed (S : St) : St := { S with safe := (List.range S.safe.length).map S.newest, pend := fun _ => [] }
theorem St.flT_len (S : St) (left : Lit → Bool) : (S.flT left).length = S.safe.length := by simp [St.flT]
theorem St.newest_none (S : St) (k : Nat) (h : S.pend k = []) : S.newest k = (S.safe[k]?).getD [] := by unfold St.newest; rw [h]; rfl
theorem St.flT_start {w : World} {b : Nat} {F : Nat → Prop} {N : Nat} {S : St} {g c m : Nat} {vf : Nat → Value} {D : DataW Value} (h : DevIn w b F N S g c m vf D) : S.flT (Maps.has D) = S.safe := by
  apply List.ext_getElem (S.flT_len _)
  intro k h1 h2
  simp only [St.flT, List.getElem_map, List.getElem_range]
  split
  · rw [List.getElem?_eq_getElem h2]; rfl
  · rename_i hn
    have : S.pend k = [] := by
      by_cases e : S.pend k = []
      · exact e
      · exact absurd ((h.pend.has _).2 ⟨k, h2, e, rfl⟩) hn
    rw [S.newest_none k this, List.getElem?_eq_getElem h2]
    rfl
theorem St.flT_end (S : St) (left : Lit → Bool) (h : ∀ kl, left kl = false) : S.flT left = (List.range S.safe.length).map S.newest := by
  unfold St.flT
  apply List.map_congr_left
  intro k _
  rw [h]; rfl
theorem sameKey_int (a b : Nat) : (Lit.int .i64 (a : Int)).sameKey (.int .i64 (b : Int)) = decide (a = b) := by
  by_cases e : a = b
  · subst e; simp [Lit.sameKey]
  · rw [decide_eq_false e]
    exact sameKey_ne (fun h => e (by injection h with _ h; omega))
theorem St.flT_step (S : St) (left : Lit → Bool) (k : Nat) (hk : k < S.safe.length) : S.flT (fun z => left z && !z.sameKey (.int .i64 k)) = (S.flT left).set k (S.newest k) := by
  apply List.ext_getElem (by rw [List.length_set, S.flT_len, S.flT_len])
  intro i h1 h2
  rw [List.getElem_set]
  simp only [St.flT, List.getElem_map, List.getElem_range, sameKey_int]
  by_cases e : k = i
  · subst e; simp
  · have : decide (i = k) = false := decide_eq_false (fun h => e h.symm)
    simp [this, e]

/-- The device stands while the iterator goes on. -/
theorem DevIn.frameR {w w' : World} {b : Nat} {F : Nat → Prop} {N : Nat} {S : St} {g c m : Nat} {vf : Nat → Value} {D : DataW Value} (h : DevIn w b F N S g c m vf D) {r n cnt : Nat} {left : Lit → Bool} (hr : w.ranges Try.prog 3 rawE m r n D left cnt) (hk : w.grownBy w' (some r)) : DevIn w' b F N S g c m vf D := by
  obtain ⟨es, clock, since, seen, c0, hb, _, _, _, hi, _⟩ := hr
  have hne : ∀ q, (∃ A t fr, w.heap[q]? = some (Obj.cells A t fr)) → w'.heap[q]? = w.heap[q]? := fun q ⟨A, t, fr, hq⟩ => hk.block q (lt_of_block hq) (fun e => by cases e; rw [hq] at hi; cases hi)
  have hm : w'.heap[m]? = w.heap[m]? := hk.block m (lt_of_block hb) (fun e => by cases e; rw [hb] at hi; cases hi)
  exact { h with dev := (hne b ⟨_, _, _, h.dev⟩).trans h.dev, safe := Blks.frame h.safe fun q hq _ => by obtain ⟨cur, hc⟩ := Blks.mark h.safe hq; exact hne q ⟨_, _, _, hc⟩, pend := h.pend.frame' hm fun k q hq _ => by obtain ⟨cur, hc⟩ := Blks.mark (h.pend.rows k) hq; exact hne q ⟨_, _, _, hc⟩ }

theorem St.newest_last (S : St) (k j : Nat) (h : (S.pend k).length = j + 1) : S.newest k = (S.pend k)[j]'(by omega) := by
  unfold St.newest
  have e : (S.pend k).length - 1 = j := by omega
  rw [List.getLast?_eq_getElem?, e, List.getElem?_eq_getElem (by omega), Option.getD_some]

def St.flAt (S : St) (left : Lit → Bool) : St := { S with safe := S.flT left }

set_option maxRecDepth 100000 in
set_option maxHeartbeats 3200000 in
theorem Flush_in {w : World} {b : Nat} {F : Nat → Prop} {N : Nat} {S : St} {g c m : Nat} {vf : Nat → Value} {D : DataW Value} (h : DevIn w b F N S g c m vf D) (hd : S.down = false) (hB : burnE S.fused S.fuse = 0) (hN : N < 1000000) :
    Calls Try.prog 38 #[.pointer (some ⟨b, 0, none⟩)] w fun e w' => e = .returned (.int .i64 0) ∧ Dev w' b F (N + 1) S.burn.flushed ∧ Kept F w w' := by
  have HD := hide h
  have hdd := h.dev
  rw [hd] at hdd
  have HDD := hide hdd
  clear h hdd
  go_enter Try.func38, Try.ntmps38
  go_wp2_with (first | (go_at_call 29; refine (up_dev (unhide HDD)).mono ?_; rintro e w' ⟨rfl, rfl⟩) | fail)
  refine (burn_dev (unhide HD).dev (unhide HD).f1 (unhide HD).f2 (unhide HD).o1 (by have := (unhide HD).o2; omega)).mono ?_
  rintro e w1 ⟨rfl, d1, o1⟩
  rw [hB]
  have h1 := (unhide HD).burn o1 d1
  have HK := hide (Kept.of_only (F := F) o1 (unhide HD).fb)
  have c1 := h1.dev.c1
  have hown := h1.pend.own
  have H1 := hide h1
  clear d1 o1 h1
  go_wp2_with (first | (at_range; refine wpList_range_own _ rfl _ 56 rfl 3 55 keyedInt Try.underlying56 _ m (N + 1) D rfl hown ?_; intro w0 hrg0 hg0 hs0) | fail)
  go_frame
  obtain ⟨r, hr⟩ : ∃ r, r = w1.heap.size := ⟨_, rfl⟩
  rw [← hr] at hrg0 ⊢
  have HG0 := hide hg0
  have HR0 := hide hrg0
  have HRR := hide hr
  have hs1 : w1.heap.size ≤ w0.heap.size := hg0.size
  clear hg0 hrg0 hr hs0 hown
  go_loopw [5] (fun _ wr => ∃ left cnt, wr.ranges Try.prog 3 rawE m r (N + 1) D left cnt ∧ DevIn wr b F (N + 1) (S.burn.flAt left) g c m vf D ∧ w1.grownBy wr (some g)) (fun _ wr => wr.rangeLeft m r)
  case atStart =>
    refine ⟨_, _, unhide HR0, ?_, (unhide HG0).but _⟩
    have e : S.burn.flAt (Maps.has D) = S.burn := by unfold St.flAt; rw [St.flT_start (unhide H1)]
    rw [e]
    exact (unhide H1).frame fun k _ hk => (unhide HG0).block k hk (by simp)
  case round =>
    obtain ⟨left, cnt, hrg, hdv, hgr⟩ := hrel
    have HV := hide hdv
    have HG := hide hgr
    have HRG := hide hrg
    clear hdv hgr hrg
    have hn : (S.burn.flAt left).safe.length = S.safe.length := S.burn.flT_len left
    go_wp2_with (first | (at_next; refine wpList_next_pend _ rfl _ rfl (unhide HV).pend (unhide HRG) rfl ?_ ?_) | fail)
    · intro hc0 hl0
      obtain ⟨w4, hcl, hcm, hcg⟩ := clear_own (unhide HV).pend.own 0
      have h4 := (unhide HV).cleared hcm hcg
      have c1r := (unhide HV).dev.c1
      have HF : Hid (Dev w4 b F (N + 1) S.burn.flushed ∧ Kept F w w4) := hide ⟨⟨g, c, m, _, _, by
          have e : S.burn.flushed = { S.burn.flAt left with pend := fun _ => [] } := by unfold St.flushed St.flAt; rw [S.burn.flT_end left hl0]
          rw [e]; exact h4⟩, ((unhide HK).trans (Kept.of_grown (unhide HG) fun i hi => by cases hi; exact (unhide HD).fg)).trans (Kept.of_grown hcg fun i hi => by cases hi; exact (unhide HD).fm)⟩
      clear h4 hcm hcg hl0 hc0
      go_wp2
      go_ret
      exact ⟨rfl, unhide HF⟩
    · intro k q cap j L w2 cnt2 hL hk hj hvf hlk hrg2 hlt hgr2 hsz2 hen
      have hk : k < S.safe.length := by first | exact hk | (rw [hn] at hk; exact hk)
      have h2 := (unhide HV).frameR (unhide HRG) hgr2
      have hnew : (S.burn.flAt left).pend k = S.pend k := rfl
      obtain ⟨cs, hcs⟩ : ∃ cs, cs = ((S.burn.newest k).map bv) := ⟨_, rfl⟩
      have hnl : (S.burn.newest k).length = 512 := St.newest_len (unhide H1) k hk
      have hc5 : cs.length = 512 := by rw [hcs, List.length_map]; exact hnl
      have h1c : ∀ v ∈ cs, v.oneCell' = true := by rw [hcs]; exact bv_one _
      have hjS : (S.pend k).length = j + 1 := hj
      have hrow := h2.pend.rows k
      rw [hvf, hnew] at hrow
      have hrq : w2.rangeAt q (j * 512) cs := by
        have h3 := Blks.range ((unhide H1).pend.wide k) hrow j (by show j < (S.pend k).length; omega)
        have e : S.burn.newest k = (S.burn.pend k)[j]'(by show j < (S.pend k).length; omega) := S.burn.newest_last k j hjS
        rw [hcs, e]
        exact h3
      have th : w2.there g (k * 512) 512 := Blks.there h2.safe h2.wide k (by rw [hn]; exact hk)
      have c0 := h2.dev.c0
      rw [hn] at c0
      have hqg : q ≠ g := (h2.pend.foot k q (by rw [hvf]; rfl)).2
      have hqb : g ≠ b := h2.ne_map.2.2
      have HTH := hide th
      have HRQ := hide hrq
      have HFIN : Hid (∀ X : World, X = w2.drew → (X.setCells g (k * 512) cs).ranges Try.prog 3 rawE m r (N + 1) D (fun z => left z && !z.sameKey (.int .i64 k)) cnt2 ∧ DevIn (X.setCells g (k * 512) cs) b F (N + 1) (S.burn.flAt (fun z => left z && !z.sameKey (.int .i64 k))) g c m vf D ∧ w1.grownBy (X.setCells g (k * 512) cs) (some g)) := hide fun X hX => by
        subst hX
        have hgs := grown_setCells g cs (k * 512) w2.drew
        have hgm : g ≠ m := h2.ne_map.2.1
        have hgr3 : g ≠ r := by
          rintro rfl
          obtain ⟨cur, hc⟩ := Blks.mark h2.safe rfl
          obtain ⟨_, _, _, _, _, _, _, _, _, hi, _⟩ := hrg2
          rw [hc] at hi; cases hi
        refine ⟨World.ranges.kept (w := w2.drew) hrg2 hgs (fun e => hgm (Option.some.inj e).symm) (fun e => hgr3 (Option.some.inj e).symm), ?_, ?_⟩
        · have h3 := (h2.frame (w' := w2.drew) fun _ _ _ => rfl).setSafe k (by rw [hn]; exact hk) (S.burn.newest k) hnl
          rw [← hcs] at h3
          have e : S.burn.flAt (fun z => left z && !z.sameKey (.int .i64 k)) = { S.burn.flAt left with safe := (S.burn.flAt left).safe.set k (S.burn.newest k) } := by
            unfold St.flAt; rw [S.burn.flT_step left k hk]
          rw [e]; exact h3
        · have h4 : w1.grownBy w2 (some g) := (unhide HG).andThen hgr2 fun i hi => by
            cases hi
            exact .inl (by rw [unhide HRR]; exact Nat.le_refl _)
          exact World.grownBy.trans (b := w2.drew) ⟨h4.os, h4.tape, h4.output, h4.size, h4.block⟩ hgs
      have HLT := hide hlt
      have hjN : j < 2000000 := by have := (unhide H1).pend.len k; have h5 : S.burn.pend k = S.pend k := rfl; rw [h5] at this; omega
      have hwr2 : IntKind.i64.wrap ((L : Int) - 1) = (j : Int) := by rw [IntKind.wrap_i64]; omega
      clear hcs hrow h2 hrq th hrg2 hgr2 hlk hvf hj hjS hlt hnew hn hnl
      have hi : (Try.prog.info? 72).map (·.size) = some cs.length := by rw [hc5]; exact sizeBlock
      have hu := Try.underlying72
      have hk0 : (0 : Int) ≤ (k : Int) := Int.natCast_nonneg _
      have hk1 : (k : Int) < (S.safe.length : Int) := by omega
      have hj0 : (0 : Int) ≤ (j : Int) := Int.natCast_nonneg _
      have hj1 : (j : Int) < (L : Int) := by omega
      clear hL
      go_wp2_with fail
      go_region_held3 (fun w' => w'.cell? ⟨b, 0, none⟩ = some (.slice (some ⟨g, 0, none⟩) S.safe.length c) ∧ w'.rangeAt q (j * 512) cs ∧ w'.there g (k * 512) 512)
        (first | exact ⟨c0, unhide HRQ, unhide HTH⟩ | exact ⟨(World.cell?_setCells_out g cs _ _ ⟨b, 0, none⟩ (fun e => absurd e (Ne.symm hqb))).trans c0, World.rangeAt_setCells_apart (w := w2.drew) (unhide HRQ) _ _ _ (.inl hqg), World.there_setCells (w := w2.drew) (unhide HTH) _ _ _⟩)
        (first | fail)
      have HX := hide (unhide HFIN _ rfl)
      go_wp2
      refine ⟨⟨_, _, (unhide HX).1, (unhide HX).2.1, (unhide HX).2.2⟩, ?_⟩
      rw [(unhide HX).1.left_eq, (unhide HRG).left_eq]
      exact unhide HLT

theorem Flush_dev {w : World} {b : Nat} {F : Nat → Prop} {N : Nat} {S : St} (h : Dev w b F N S) (hd : S.down = false) (hB : burnE S.fused S.fuse = 0) (hN : N < 1000000) :
    Calls Try.prog 38 #[.pointer (some ⟨b, 0, none⟩)] w fun e w' => e = .returned (.int .i64 0) ∧ Dev w' b F (N + 1) S.burn.flushed ∧ Kept F w w' := by
  obtain ⟨g, c, m, vf, D, h⟩ := h
  exact Flush_in h hd hB hN
end Go.Proofs.Ytbgaomfoiooegaa
