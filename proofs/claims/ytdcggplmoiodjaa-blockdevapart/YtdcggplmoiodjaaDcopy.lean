/-
  DERIVED. Copy: another device that stands as this one.
-/
import Derived.Test.YtdcggplmoiodjaaDflush
namespace Go.Proofs.Ytdcggplmoiodjaa
open Go.RowKit Go.Maps
set_option linter.unusedVariables false

set_option maxRecDepth 100000 in
theorem Clone_blks (w : World) (g c : Nat) (bs : List (List UInt8)) (hw : Wide bs) (h : Blks w (.slice (some ⟨g, 0, none⟩) bs.length c) bs) (hpos : 0 < bs.length) (hlen : bs.length ≤ 2000000) :
    Calls Try.prog 29 #[.slice (some ⟨g, 0, none⟩) bs.length c] w fun e w' => ∃ q cap, e = .returned (.slice (some ⟨q, 0, none⟩) bs.length cap) ∧ w.heap.size ≤ q ∧ Blks w' (.slice (some ⟨q, 0, none⟩) bs.length cap) bs ∧ Below w.heap.size w w' := by
  have hnil := fun (w : World) => Lib.run_eql_slice_nil (P := Try.prog) (w := w) 62
  obtain ⟨i0, hi0, hz0, hz1, hz2⟩ := infoBlk
  have hl := cellsOf_len hw
  have HC := hide (World.ownsRow.cells (World.ownsRow.alloc h (.cells #[] 68)) (g := g) rfl)
  have HL := hide hl
  clear h hl
  go_enter Try.func29, Try.ntmps29
  go_wp2_with (at_builtin; refine wpList_append_grows _ rfl (.tmp 5) (.tmp 6) _ rfl 68 i0 _ 512 512 Try.underlying62 hi0 hz0 hz1 hz2 (by rfl) (by omega) _ 0 0 [] rfl (fun h => ⟨rfl, rfl⟩) (by simp) (fun b hb j u hj => by simp at hj) ⟨g, 0, none⟩ bs.length c (cellsOf bs) rfl (unhide HL) (unhide HC) (cellsOf_one bs) ?hfull ?b1 ?b2 ?_)
  case hfull => omega
  case b1 => unfold maxLen; omega
  case b2 => omega
  intro v' w1 hown hgr
  have hex : ∃ q cap, v' = .slice (some ⟨q, 0, none⟩) bs.length cap ∧ w.heap.size ≤ q ∧ Blks w1 (.slice (some ⟨q, 0, none⟩) bs.length cap) bs ∧ Below w.heap.size w w1 := by
    obtain ⟨h1, h2⟩ := hown
    rcases h2 with ⟨_, h0⟩ | ⟨q, cap, cur, rfl, hb, hg, r1, r2, r3, r4⟩
    · omega
    · refine ⟨q, cap, by first | rfl | rw [Nat.zero_add], by (try simp at hb); omega, ⟨unhide HL, .inr ⟨q, cap, cur, rfl, Nat.zero_le _, hg, by omega, r2, r3, ?_⟩⟩, ?_⟩
      · simpa using r4
      · exact (((Below.refl _ _).alloc (Nat.le_refl _) _).trans ⟨hgr.os, hgr.tape, hgr.output, hgr.size, fun k hk => hgr.block k (by simp; omega) (by simp)⟩)
  obtain ⟨q, cap, hv, hX⟩ := hex
  rw [hv]
  clear hown hgr hnil
  go_wp2
  go_ret
  exact ⟨q, cap, rfl, hX⟩

/-- Pending writes with one block's laid anew. -/
def layP (pend : Nat → List (List UInt8)) (k : Nat) (bs : List (List UInt8)) : Nat → List (List UInt8) := fun j => if j = k then bs else pend j

theorem PendAt.lay {w w1 w2 : World} {F : Nat → Prop} {m g n N : Nat} {pend : Nat → List (List UInt8)} {vf : Nat → Value} {D : DataW Value} (h : PendAt w F m g n N pend vf D) (k : Nat) (hk : k < n) (bs : List (List UInt8)) (hbs : bs ≠ []) (hwd : Wide bs) (hln : bs.length ≤ N + 1) (q cap : Nat)
    (hF : ∀ j, w.heap.size ≤ j → F j) (hg : g < w.heap.size) (hn : n ≤ 512)
    (hnew : Blks w1 (.slice (some ⟨q, 0, none⟩) bs.length cap) bs) (hgr : Below w.heap.size w w1) (hat : w.heap.size ≤ q)
    (hown : w2.ownsMap Try.prog 3 rawE m (N + 1) (D.put (.int .i64 k) (.held (.slice (some ⟨q, 0, none⟩) bs.length cap)))) (hgr2 : w1.grownBy w2 (some m)) :
    PendAt w2 F m g n (N + 1) (layP pend k bs) (fun j => if j = k then .slice (some ⟨q, 0, none⟩) bs.length cap else vf j) (D.put (.int .i64 k) (.held (.slice (some ⟨q, 0, none⟩) bs.length cap))) := by
  have hmap : IsMap D := by obtain ⟨es, clock, _, _, _, e⟩ := h.own; exact ⟨_, e⟩
  have hkl : WideAt.IsKeyLit (.int .i64 (k : Int)) := keyedInt.key (key_int k (by omega))
  have hne : ∀ j : Nat, j ≠ k → (Lit.int .i64 (j : Int)) ≠ .int .i64 (k : Int) := fun j hj e => hj (by injection e with _ e; omega)
  have hltq : ∀ j p, (vf j).ownBlock = some p → p < w.heap.size := fun j p hp => lt_of_block (Blks.mark (h.rows j) hp).choose_spec
  have hm1 : ∀ j p, (vf j).ownBlock = some p → w2.heap[p]? = w.heap[p]? := fun j p hp => by
    have h2 : p ≠ m := by
      rintro rfl
      obtain ⟨cur, hc⟩ := Blks.mark (h.rows j) hp
      obtain ⟨es, clock, hb, _⟩ := h.own
      rw [hc] at hb; cases hb
    exact (hgr2.block p (Nat.lt_of_lt_of_le (hltq j p hp) hgr.size) (by simpa using h2)).trans (hgr.block p (hltq j p hp))
  have hqm : q ≠ m := by have := h.own.lt; omega
  have hq2 : w2.heap[q]? = w1.heap[q]? := hgr2.block q (lt_of_block (Blks.mark hnew rfl).choose_spec) (by simpa using hqm)
  have hqo : ∀ j, (vf j).ownBlock ≠ some q := fun j e => by have := hltq j q e; omega
  refine { own := hown, at_ := ?_, has := ?_, rows := ?_, len := ?_, foot := ?_, apart := ?_, wide := ?_, out := ?_ }
  · intro j hj
    by_cases e : j = k
    · subst e
      rw [atKey_put_same hmap hkl, if_pos rfl]
    · rw [atKey_put_other (hne j e), if_neg e]; exact h.at_ j hj
  · intro kl
    by_cases e : kl = .int .i64 (k : Int)
    · subst e
      refine ⟨fun _ => ⟨k, hk, by simpa [layP] using hbs, rfl⟩, fun _ => has_put_same hmap hkl _⟩
    · rw [has_put_other e, h.has]
      constructor
      · rintro ⟨j, h1, h2, rfl⟩
        have hj : j ≠ k := fun e2 => e (by rw [e2])
        exact ⟨j, h1, by simpa [layP, hj] using h2, rfl⟩
      · rintro ⟨j, h1, h2, rfl⟩
        have hj : j ≠ k := fun e2 => e (by rw [e2])
        exact ⟨j, h1, by simpa [layP, hj] using h2, rfl⟩
  · intro j
    by_cases e : j = k
    · subst e
      simp only [layP, if_true]
      exact Blks.frame hnew fun p hp _ => by cases hp; exact hq2
    · simp only [layP, if_neg e]
      exact Blks.frame (h.rows j) fun p hp _ => hm1 j p hp
  · intro j
    by_cases e : j = k
    · subst e
      simp only [layP, if_true]
      exact hln
    · simp only [layP, if_neg e]
      have := h.len j; omega
  · intro j p hp
    by_cases e : j = k
    · subst e
      simp only [if_true] at hp
      cases hp
      exact ⟨hF q hat, show q ≠ g by omega⟩
    · simp only [if_neg e] at hp
      exact h.foot j p hp
  · intro j j' p hp hp'
    by_cases e : j = k
    · by_cases e' : j' = k
      · rw [e, e']
      · simp only [if_neg e'] at hp'
        rw [if_pos e] at hp
        cases hp
        exact absurd hp' (hqo j')
    · by_cases e' : j' = k
      · simp only [if_neg e] at hp
        rw [if_pos e'] at hp'
        cases hp'
        exact absurd hp (hqo j)
      · simp only [if_neg e] at hp
        simp only [if_neg e'] at hp'
        exact h.apart j j' p hp hp'
  · intro j
    by_cases e : j = k
    · subst e
      simp only [layP, if_true]
      exact hwd
    · simp only [layP, if_neg e]
      exact h.wide j
  · intro j hj
    have e : j ≠ k := by omega
    simp only [layP, if_neg e]
    exact h.out j hj

/-- The writes that are copied, as far as 'left' says. -/
def St.cpT (S : St) (left : Lit → Bool) : Nat → List (List UInt8) := fun k => if left (.int .i64 (k : Int)) then [] else S.pend k
def St.cpAt (S : St) (left : Lit → Bool) : St := { S with pend := S.cpT left }
theorem St.cpT_start {w : World} {F : Nat → Prop} {m g n N : Nat} {S : St} {vf : Nat → Value} {D : DataW Value} (h : PendAt w F m g n N S.pend vf D) : S.cpT (Maps.has D) = fun _ => [] := by
  funext k
  unfold St.cpT
  split
  · rfl
  · rename_i hn
    by_cases hk : k < n
    · by_cases e : S.pend k = []
      · exact e
      · exact absurd ((h.has _).2 ⟨k, hk, e, rfl⟩) hn
    · exact h.out k (by omega)
theorem St.cpT_end (S : St) (left : Lit → Bool) (h : ∀ kl, left kl = false) : S.cpAt left = S := by
  unfold St.cpAt St.cpT
  simp only [h]
  rfl
theorem St.cpT_step (S : St) (left : Lit → Bool) (k : Nat) : S.cpT (fun z => left z && !z.sameKey (.int .i64 k)) = layP (S.cpT left) k (S.pend k) := by
  funext i
  unfold St.cpT layP
  simp only [sameKey_int]
  by_cases e : i = k
  · subst e; simp
  · simp [e]

theorem run_makeMap_hint (k : Nat) (w : World) : (Instr.makeMap 63 (some (.int .i64 (k : Nat)))).run Try.prog w = .ok (.map (some w.heap.size)) (w.alloc (.map #[] 0)) := by
  simp [Instr.makeMap, run_underlying Try.underlying63, asInt, asIntOf]

set_option maxRecDepth 100000 in
set_option maxHeartbeats 3200000 in
theorem Copy_in {w : World} {b : Nat} {F : Nat → Prop} {N : Nat} {S : St} {g c m : Nat} {vf : Nat → Value} {D : DataW Value} (h : DevIn w b F N S g c m vf D) (hN : N < 1000000) :
    Calls Try.prog 12 #[.pointer (some ⟨b, 0, none⟩)] w fun e w' => ∃ b2, e = .returned (.pointer (some ⟨b2, 0, none⟩)) ∧ Dev w' b2 (fun k => w.heap.size ≤ k ∧ k < w'.heap.size) (N + N) S ∧ Below w.heap.size w w' := by
  have HD := hide h
  have c0 := h.dev.c0
  have c1 := h.dev.c1
  have c2 := h.dev.c2
  have c3 := h.dev.c3
  have c4 := h.dev.c4
  have c5 := h.dev.c5
  have hblt := h.dev.lt
  clear h
  go_enter Try.func12, Try.ntmps12
  go_wp2_with fail
  have hbA : Below w.heap.size w (w.alloc (.cells #[.slice (some ⟨g, 0, none⟩) S.safe.length c, .map (some m), .bool S.fused, .int .i64 S.fuse, .bool S.down, .int .i64 S.ops] 65)) := (Below.refl _ _).alloc (Nat.le_refl _) _
  have hAd : DevAt (w.alloc (.cells #[.slice (some ⟨g, 0, none⟩) S.safe.length c, .map (some m), .bool S.fused, .int .i64 S.fuse, .bool S.down, .int .i64 S.ops] 65)) w.heap.size (.slice (some ⟨g, 0, none⟩) S.safe.length c) (.map (some m)) S.fused S.fuse S.down S.ops := heap_alloc_self _ _
  have n1 := (unhide HD).n1
  have n2 := (unhide HD).n2
  refine (Clone_blks _ g c S.safe (unhide HD).wide (Blks.frame (unhide HD).safe fun q _ hq => hbA.block q hq) (by omega) (by omega)).mono ?_
  rintro e w1 ⟨q, cap, rfl, hq, hrow, hb1⟩
  simp only [World.size_alloc] at hq hb1
  have hs1 : w.heap.size + 1 ≤ w1.heap.size := by have := hb1.size; simpa using this
  have hd1 : DevAt w1 w.heap.size (.slice (some ⟨g, 0, none⟩) S.safe.length c) (.map (some m)) S.fused S.fuse S.down S.ops := hAd.below hb1 (by omega)
  have hbw1 : Below w.heap.size w w1 := hbA.trans (hb1.mono (by omega))
  have HR1 := hide hrow
  have HW1 := hide hbw1
  have HD1 := hide hd1
  clear hrow hb1 hbA hAd c0 c1 c2 c3 c4 c5 hbw1
  have x0 := hd1.c0
  have z0 := hd1.nf 0
  have x1 := hd1.c1
  have z1 := hd1.nf 1
  clear hd1
  have y1 : w1.cell? ⟨b, 1, none⟩ = some (.map (some m)) := ((unhide HW1).cell (p := ⟨b, 1, none⟩) hblt).trans (unhide HD).dev.c1
  have hmlt := (unhide HD).pend.own.lt
  have HOWN : Hid (∀ W : World, W.heap[m]? = w.heap[m]? → W.ownsMap Try.prog 3 rawE m N D) := hide fun W hW => ownsMap_frame (unhide HD).pend.own hW
  have hm2 : (w1.setCell ⟨w.heap.size, 0, none⟩ (.slice (some ⟨q, 0, none⟩) S.safe.length cap)).heap[m]? = w.heap[m]? := (heap_setCell_other _ _ _ _ (by show m ≠ w.heap.size; omega)).trans ((unhide HW1).block m hmlt)
  have hl1 : w.heap.size < w1.heap.size := by omega
  have hl2 : b < w1.heap.size := by omega
  have hln := fun ty => (unhide HOWN _ hm2).len Try.underlying63 ty
  have hmm := fun W => run_makeMap_hint (Maps.size D) W
  obtain ⟨wB, hwB⟩ : ∃ wB, wB = (w1.setCell ⟨w.heap.size, 0, none⟩ (.slice (some ⟨q, 0, none⟩) S.safe.length cap)).setCell ⟨w.heap.size, 1, none⟩ (.map (some w1.heap.size)) := ⟨_, rfl⟩
  have hoB : Only w.heap.size w1 wB := by rw [hwB]; exact ((Only.refl _ _).set 0 _).set 1 _
  have hm4 : (wB.alloc (.map #[] 0)).heap[m]? = w.heap[m]? := (Below.heap_alloc _ _ _ (by rw [hoB.size]; omega)).trans ((hoB.other m (by omega)).trans ((unhide HW1).block m hmlt))
  have hdB : DevAt wB w.heap.size (.slice (some ⟨q, 0, none⟩) S.safe.length cap) (.map (some w1.heap.size)) S.fused S.fuse S.down S.ops := by
    rw [hwB]; exact heap_setCell_same _ _ 1 _ _ _ (heap_setCell_same w1 w.heap.size 0 _ _ _ (unhide HD1))
  have HNEW : Hid (DevIn (wB.alloc (.map #[] 0)) w.heap.size (fun k => w.heap.size ≤ k) N { S with pend := fun _ => [] } q cap w1.heap.size (fun _ => nilS) (.map [])) := hide (by
    have hsz := hoB.size
    have hbl : Below wB.heap.size wB (wB.alloc (.map #[] 0)) := (Below.refl _ _).alloc (Nat.le_refl _) _
    have hqn : q ≠ w.heap.size := by omega
    have hql : q < w1.heap.size := lt_of_block (Blks.mark (unhide HR1) rfl).choose_spec
    have hown : (wB.alloc (.map #[] 0)).ownsMap Try.prog 3 rawE w1.heap.size 0 (.map []) := by
      have := World.ownsMap_made wB Try.prog 3 rawE
      rw [hsz] at this
      exact this
    exact { dev := hdB.below hbl (by rw [hsz]; omega)
            safe := Blks.frame (unhide HR1) fun x hx hl => by cases hx; exact (hbl.block q (by rw [hsz]; exact hql)).trans (hoB.other q hqn)
            wide := (unhide HD).wide
            pend := { own := hown.mono (Nat.zero_le _), at_ := fun _ _ => rfl, has := fun kl => ⟨fun h => (by cases h), fun ⟨k, _, h, _⟩ => absurd rfl h⟩, rows := fun _ => World.ownsRow_nil _ _ _ _, len := fun _ => Nat.zero_le _, foot := fun _ _ h => (by cases h), apart := fun _ _ _ h => (by cases h), wide := fun _ L hL => (by cases hL), out := fun _ _ => rfl }
            fb := Nat.le_refl _, fg := by show w.heap.size ≤ q; omega, fm := by show w.heap.size ≤ w1.heap.size; omega
            f1 := (unhide HD).f1, f2 := (unhide HD).f2, o1 := (unhide HD).o1, o2 := (unhide HD).o2, n1 := (unhide HD).n1, n2 := (unhide HD).n2 })
  have HBB : Hid (Below w.heap.size w (wB.alloc (.map #[] 0))) := hide (((unhide HW1).trans (hoB.below _ (Nat.le_refl _))).alloc (by rw [hoB.size]; omega) _)
  have hsB : wB.heap.size = w1.heap.size := hoB.size
  have HSB := hide hsB
  rw [hwB] at hm4 HNEW HBB HSB
  clear hwB hoB hdB hsB
  go_wp2_with (first | (at_range; refine wpList_range_own _ rfl _ 63 rfl 3 62 keyedInt Try.underlying63 _ m N D rfl (unhide HOWN _ hm4) ?_; intro w0 hrg0 hg0 hs0) | fail)
  go_frame
  obtain ⟨W4, hW4⟩ : ∃ W4, W4 = ((w1.setCell ⟨w.heap.size, 0, none⟩ (.slice (some ⟨q, 0, none⟩) S.safe.length cap)).setCell ⟨w.heap.size, 1, none⟩ (.map (some w1.heap.size))).alloc (.map #[] 0) := ⟨_, rfl⟩
  rw [← hW4] at HNEW HBB hrg0 hg0 hs0 ⊢
  obtain ⟨r, hr⟩ : ∃ r, r = W4.heap.size := ⟨_, rfl⟩
  rw [← hr] at hrg0 ⊢
  have hrw : w.heap.size < r := by rw [hr, hW4]; simp [World.setCell]; omega
  obtain ⟨m2, hm2e⟩ : ∃ m2, m2 = w1.heap.size := ⟨_, rfl⟩
  have hmr : m2 < r := by rw [hm2e, hr, hW4]; simp [World.setCell]
  rw [← hm2e] at HNEW
  have hmw : w.heap.size < m2 := by omega
  clear hm2e hW4 hr hm4 hm2 hln x0 z0 x1 z1 y1
  have hz0 : Maps.size D - Maps.size D = 0 := Nat.sub_self _
  have HR0 := hide hrg0
  have HG0 := hide hg0
  have hmlw : m < w.heap.size := hmlt
  clear hrg0 hg0
  go_loopw [4] (fun _ wr => ∃ left cnt vf2 D2, wr.ranges Try.prog 3 rawE m r N D left cnt ∧ DevIn wr w.heap.size (fun k => w.heap.size ≤ k) (N + (Maps.size D - cnt)) (S.cpAt left) q cap m2 vf2 D2 ∧ Below w.heap.size w wr ∧ cnt ≤ Maps.size D) (fun _ wr => wr.rangeLeft m r)
  case atStart =>
    have hb0 : Below W4.heap.size W4 w0 := ⟨(unhide HG0).os, (unhide HG0).tape, (unhide HG0).output, (unhide HG0).size, fun k hk => (unhide HG0).block k hk (by simp)⟩
    have e : S.cpAt (Maps.has D) = { S with pend := fun _ => [] } := by unfold St.cpAt; rw [St.cpT_start (unhide HD).pend]
    refine ⟨Maps.has D, Maps.size D, fun _ => nilS, .map [], unhide HR0, ?_, (unhide HBB).trans (hb0.mono (unhide HBB).size), Nat.le_refl _⟩
    rw [e, hz0]
    exact (unhide HNEW).frame fun k _ hk => hb0.block k hk
  case round =>
    obtain ⟨left, cnt, vf2, D2, hrg, hdv, hbl, hcnt⟩ := hrel
    have HV := hide hdv
    have HB := hide hbl
    have HRG := hide hrg
    have hswr := hbl.size
    have HOLD := hide ((unhide HD).frame (w' := wr) fun k _ hk => hbl.block k hk)
    clear hdv hbl hrg
    go_wp2_with (first | (at_next; refine wpList_next_pend _ rfl _ rfl (unhide HOLD).pend (unhide HRG) rfl ?_ ?_) | fail)
    · intro hc0 hl0
      subst hc0
      have hsz := (unhide HD).pend.own.size_le
      have HF : Hid (Dev wr w.heap.size (fun k => w.heap.size ≤ k ∧ k < wr.heap.size) (N + N) S) := hide (by
        have e := S.cpT_end left hl0
        have h1 := unhide HV
        rw [e] at h1
        exact (Dev.cap ⟨_, _, _, _, _, h1⟩).mono (fun _ h => h) (by omega))
      clear hl0
      go_wp2
      go_ret
      exact ⟨w.heap.size, rfl, unhide HF, unhide HB⟩
    · intro k p cp j L w2 cnt2 hL hk hj hvf hlk hrg2 hlt hgr2 hsz2 hen
      have h2 := (unhide HOLD).frameR (unhide HRG) hgr2
      have hr2 : ∀ x, (∃ A t fr, wr.heap[x]? = some (Obj.cells A t fr)) → w2.heap[x]? = wr.heap[x]? := fun x ⟨A, t, fr, hx⟩ => hgr2.block x (lt_of_block hx) (fun e => by
        cases e
        obtain ⟨_, _, _, _, _, _, _, _, _, hi, _⟩ := unhide HRG
        rw [hx] at hi; cases hi)
      have hm2r : m2 ≠ r := by omega
      have hn2 : DevIn w2 w.heap.size (fun k => w.heap.size ≤ k) (N + (Maps.size D - cnt)) (S.cpAt left) q cap m2 vf2 D2 := { unhide HV with
        dev := (hr2 w.heap.size ⟨_, _, _, (unhide HV).dev⟩).trans (unhide HV).dev
        safe := Blks.frame (unhide HV).safe fun x hx _ => by obtain ⟨cur, hc⟩ := Blks.mark (unhide HV).safe hx; exact hr2 x ⟨_, _, _, hc⟩
        pend := (unhide HV).pend.frame' (hgr2.block m2 (unhide HV).pend.own.lt (fun e => hm2r (Option.some.inj e))) fun i x hx _ => by obtain ⟨cur, hc⟩ := Blks.mark ((unhide HV).pend.rows i) hx; exact hr2 x ⟨_, _, _, hc⟩ }
      have hrow := h2.pend.rows k
      have hjS : (S.pend k).length = L := by rw [hL]; exact hj
      rw [hvf, ← hjS] at hrow
      have hwk := (unhide HD).pend.wide k
      have hlk2 := (unhide HD).pend.len k
      have hpos : 0 < (S.pend k).length := by rw [hjS, hL]; omega
      have hk5 : k < 512 := by omega
      have cC := Clone_blks w2.drew p cp (S.pend k) hwk hrow hpos (by omega)
      rw [hjS] at cC
      have CC := hide cC
      have c1 := hn2.dev.c1
      have HN2 := hide hn2
      have hw2s : w.heap.size ≤ w2.heap.size := by rw [hsz2]; exact hswr
      have hlw : w.heap.size < w2.heap.size := hn2.dev.lt
      have HU : Hid (∀ (W3 : World) (u : Value), Below w2.heap.size w2 W3 → ∃ W4, (Instr.mapUpdate 63 (.map (some m2)) (.int .i64 k) u).run Try.prog W3 = .ok () W4 ∧ W4.ownsMap Try.prog 3 rawE m2 (N + (Maps.size D - cnt) + 1) (D2.put (.int .i64 k) (.held u)) ∧ W3.grownBy W4 (some m2)) := hide fun W3 u hW => by
        have hsz := (unhide HD).pend.own.size_le
        exact (ownsMap_frame hn2.pend.own (hW.block m2 hn2.pend.own.lt)).update keyedInt Try.underlying63 (by unfold maxLen; omega) (key_int k (by omega)) rfl
      have HRG2 := hide hrg2
      have HLT := hide hlt
      have HFIN : Hid (∀ (W3 W5 : World) (x cx : Nat), Below w2.heap.size w2 W3 → w2.heap.size ≤ x → Blks W3 (.slice (some ⟨x, 0, none⟩) L cx) (S.pend k) → W5.ownsMap Try.prog 3 rawE m2 (N + (Maps.size D - cnt) + 1) (D2.put (.int .i64 k) (.held (.slice (some ⟨x, 0, none⟩) L cx))) → W3.grownBy W5 (some m2) →
          ∃ vf3 D3, W5.ranges Try.prog 3 rawE m r N D (fun z => left z && !z.sameKey (.int .i64 k)) cnt2 ∧ DevIn W5 w.heap.size (fun k => w.heap.size ≤ k) (N + (Maps.size D - cnt2)) (S.cpAt (fun z => left z && !z.sameKey (.int .i64 k))) q cap m2 vf3 D3 ∧ Below w.heap.size w W5) := hide fun W3 W5 x cx hb3 hx hbx hox hg5 => by
        have hn3 := unhide HN2
        have hmne : m ≠ m2 := by omega
        have hrl : r < w2.heap.size := (unhide HRG2).lt
        have hqlt : q < w2.heap.size := lt_of_block (Blks.mark hn3.safe rfl).choose_spec
        obtain ⟨e1, e2, e3⟩ := hn3.ne_map
        have hg3 : w2.grownBy W3 none := ⟨hb3.os, hb3.tape, hb3.output, hb3.size, fun i hi _ => hb3.block i hi⟩
        rw [← hjS] at hbx hox
        obtain ⟨vf3, D3, hp⟩ : ∃ vf3 D3, PendAt W5 (fun k => w.heap.size ≤ k) m2 q (S.cpAt left).safe.length (N + (Maps.size D - cnt) + 1) (layP (S.cpAt left).pend k (S.pend k)) vf3 D3 := ⟨_, _, hn3.pend.lay k hk (S.pend k) (List.length_pos_iff.1 hpos) hwk (by omega) x cx (fun y hy => by show w.heap.size ≤ y; omega) hqlt hn3.n2 hbx hb3 hx hox hg5⟩
        have hb5 : ∀ y, y < w2.heap.size → y ≠ m2 → W5.heap[y]? = w2.heap[y]? := fun y hy hne => (hg5.block y (Nat.lt_of_lt_of_le hy hb3.size) (by simpa using hne)).trans (hb3.block y hy)
        have hrgF := ((unhide HRG2).kept hg3 (by simp) (by simp)).kept hg5 (by simpa using hmne) (by simpa using Ne.symm hm2r)
        have hp2 : PendAt W5 (fun k => w.heap.size ≤ k) m2 q S.safe.length (N + (Maps.size D - cnt) + 1) (S.cpAt (fun z => left z && !z.sameKey (.int .i64 k))).pend vf3 D3 := by
          have e : (S.cpAt (fun z => left z && !z.sameKey (.int .i64 k))).pend = layP (S.cpAt left).pend k (S.pend k) := S.cpT_step left k
          rw [e]; exact hp
        have h9 := unhide HLT
        have hle : N + (Maps.size D - cnt) + 1 ≤ N + (Maps.size D - cnt2) := by omega
        have h6 : S.ops ≤ ((N + (Maps.size D - cnt) : Nat) : Int) := hn3.o2
        have hdev : DevIn W5 w.heap.size (fun k => w.heap.size ≤ k) (N + (Maps.size D - cnt2)) (S.cpAt (fun z => left z && !z.sameKey (.int .i64 k))) q cap m2 vf3 D3 :=
          { dev := (hb5 w.heap.size hlw (by omega)).trans hn3.dev
            safe := Blks.frame hn3.safe fun y hy _ => by cases hy; exact hb5 q hqlt e2
            wide := hn3.wide
            pend := hp2.mono (fun _ h => h) hle
            fb := hn3.fb, fg := hn3.fg, fm := hn3.fm, f1 := hn3.f1, f2 := hn3.f2, o1 := hn3.o1
            o2 := by show S.ops ≤ _; omega
            n1 := hn3.n1, n2 := hn3.n2 }
        refine ⟨vf3, D3, hrgF, hdev, ?_⟩
        refine ((unhide HB).trans ?_).trans (((Below.mono hb3 hw2s)).trans ⟨hg5.os, hg5.tape, hg5.output, hg5.size, fun y hy => hg5.block y (by have := hb3.size; omega) (by simp; omega)⟩)
        exact ⟨hgr2.os, hgr2.tape, hgr2.output, hgr2.size, fun y hy => hgr2.block y (by omega) (by simp; omega)⟩
      clear hrg2 hlt h2 hr2 hn2 hrow hgr2 hvf cC hlk hj hL hjS hpos hwk hlk2
      go_wp2_with fail
      go_region_held3 (fun w' => w'.cell? ⟨w.heap.size, 1, none⟩ = some (.map (some m2)))
        (first | exact c1 | exact (hb3.cell (p := ⟨w.heap.size, 1, none⟩) hlw).trans c1 | exact (hmg.cell_far ⟨w.heap.size, 1, none⟩ (by have := hb3.size; show w.heap.size < w3.heap.size; omega) (fun e => by have : w.heap.size = m2 := Option.some.inj e; omega)).trans ((hb3.cell (p := ⟨w.heap.size, 1, none⟩) hlw).trans c1))
        (first | (go_at_call 29; refine (unhide CC).mono ?_; rintro e w3 ⟨x, cx, rfl, hx, hbx, hb0⟩; have hb3 : Below w2.heap.size w2 w3 := after_drew hb0; obtain ⟨W5, hmu, hmo, hmg⟩ := unhide HU w3 (.slice (some ⟨x, 0, none⟩) L cx) hb3))
      obtain ⟨vf3, D3, q1, q2, q3⟩ := unhide HFIN w3 W5 x cx hb3 hx hbx hmo hmg
      have HX := hide q1
      have HY := hide q2
      have HZ := hide q3
      have h9 := unhide HLT
      clear q1 q2 q3 hmu hmo hmg hbx hb0 hb3
      go_wp2
      refine ⟨⟨_, cnt2, vf3, D3, unhide HX, unhide HY, unhide HZ, by omega⟩, ?_⟩
      rw [(unhide HX).left_eq, (unhide HRG).left_eq]
      exact h9

theorem Copy_dev {w : World} {b : Nat} {F : Nat → Prop} {N : Nat} {S : St} (h : Dev w b F N S) (hN : N < 1000000) :
    Calls Try.prog 12 #[.pointer (some ⟨b, 0, none⟩)] w fun e w' => ∃ b2, e = .returned (.pointer (some ⟨b2, 0, none⟩)) ∧ Dev w' b2 (fun k => w.heap.size ≤ k ∧ k < w'.heap.size) (N + N) S ∧ Below w.heap.size w w' := by
  obtain ⟨g, c, m, vf, D, h⟩ := h
  exact Copy_in h hN
end Go.Proofs.Ytdcggplmoiodjaa
