/-
  CodecPrefixes: for every slice of frames and every cut it returns true, and its arguments read as before. Conditions: none beyond the form's own.
-/
import Derived.Test.YtoclnnkeabbicabRows
import Derived.Test.YtoclnnkeabbicabScan
import Derived.Test.YtoclnnkeabbicabOpenF
import Derived.Test.YtoclnnkeabbicabPutF
import Derived.OpenShut
namespace Go.Proofs.Ytoclnnkeabbicab
open Go.ChangeShapes Go.WideShapes Go.ChangeAt Go.RowKit
set_option linter.unusedVariables false

theorem FOwn.other {w w' : World} {lim base : Nat} {v : Value} {fs : List (UInt8 × List UInt8)} {row : Option Nat} (h : FOwn false w lim base v fs) (hg : w.grownBy w' row)
    (hr : ∀ j, row = some j → lim ≤ j ∧ ∃ cur e', w.heap[j]? = some (.cells cur e' (0, 0)) ∧ e' ≠ 35) : FOwn false w' lim base v fs := by
  obtain ⟨cs, h1, h2⟩ := h
  refine ⟨cs, ownsRow_other h1 hg (fun j hj => (hr j hj).2), fun i hi => ?_⟩
  obtain ⟨a, n, c, e1, e2, e3⟩ := h2 i hi
  exact ⟨a, n, c, e1, e2, e3.grown hg (fun j hj => ⟨(hr j hj).1, fun h => by cases h⟩)⟩

theorem Safe.lim {own : Bool} {w : World} {l1 l2 : Nat} {a : Option Addr} {n c : Nat} {d : List UInt8} (h : Safe own w l1 a n c d) (hl : l1 ≤ l2) : Safe own w l2 a n c d := by
  refine ⟨h.1, h.2.imp id ?_⟩
  rintro ⟨b, off, e, h⟩
  exact ⟨b, off, e, h.imp (fun h => by omega) id⟩

theorem Sl.taken {w : World} {base g N c : Nat} {l : List UInt8} (h : Own w base (.slice (some ⟨g, 0, none⟩) N c) l) (q : Nat) (hq : q ≤ l.length) : Sl w (.slice (some ⟨g, 0, none⟩) q c) (l.take q) := by
  obtain ⟨-, a1, a2, a3, a4, a5, -⟩ := h.at
  have := Sl.cut g 0 c l a4 a1 a2 a5 0 q (by omega)
  simpa using this

/-- What the first loop has laid. -/
def PRel (B : Nat) (w : World) (fs : List (UInt8 × List UInt8)) (va ve vg : Value) (wr : World) : Prop :=
  Own wr B va (laysF fs) ∧ IOwn wr B ve (endsF fs) ∧ FOwn false wr B B vg fs ∧ Below B w wr ∧ (∀ f ∈ fs, f.2.length ≤ 2000) ∧ (fs = [] → va = .slice none 0 0 ∧ ve = .slice none 0 0 ∧ vg = .slice none 0 0)

theorem PRel.start (B : Nat) (w : World) : PRel B w [] (.slice none 0 0) (.slice none 0 0) (.slice none 0 0) w :=
  ⟨World.ownsRow_nil _ _ _ _, World.ownsRow_nil _ _ _ _, FOwn.nil _ _ _ _, Below.refl _ _, fun f hf => by simp at hf, fun _ => ⟨rfl, rfl, rfl⟩⟩

theorem PRel.below {B C : Nat} {w wr w' : World} {fs : List (UInt8 × List UInt8)} {va ve vg : Value} (h : PRel B w fs va ve vg wr) (hb : Below C wr w') (hC : wr.heap.size ≤ C) (hBC : B ≤ C) : PRel B w fs va ve vg w' :=
  ⟨ownsRow_below h.1 hb hC, ownsRow_below h.2.1 hb hC, h.2.2.1.below hb hC, h.2.2.2.1.trans (hb.mono hBC), h.2.2.2.2.1, h.2.2.2.2.2⟩

set_option maxHeartbeats 8000000 in
set_option maxRecDepth 100000 in
theorem Prefixes.walk (v : Value) (fs0 : List (UInt8 × List UInt8)) (cut : Int) (w : World) (hv : Fl w v fs0) (hc0 : -9223372036854775808 ≤ cut) (hc1 : cut ≤ 9223372036854775807) :
    Calls Try.prog 4 #[v, .int .i64 cut] w fun e w' => e = .returned (.bool true) ∧ Below w.heap.size w w' := by
  obtain ⟨ao, cp, rfl, h1, h2, h4⟩ := id hv
  have H4 := hide h4
  clear h4 hv
  obtain ⟨n0, hn0⟩ : ∃ n0, n0 = fs0.length := ⟨_, rfl⟩
  rw [← hn0] at h1 ⊢
  have HN := hide hn0
  clear hn0
  go_enter Try.func4, Try.ntmps4
  go_wp2_with (go_at_call 5; refine (awake_any _).mono ?_; rintro e w1 ⟨rfl, b1⟩; have HB1 := hide b1; have s1 := b1.size; clear b1)
  go_loopw [6, 7, 8, 9, 10, 11] (fun va ve vg i _ _ wr => ∃ (k : Nat) (fs : List (UInt8 × List UInt8)), k ≤ n0 ∧ k ≤ 12 ∧ fs.length ≤ k ∧ i = .int .i64 k ∧ PRel w1.heap.size w1 fs va ve vg wr) (fun _ _ _ i _ _ _ => 12 - (intOf i).toNat)
  case atStart => exact ⟨0, [], by omega, by omega, by simp, rfl, PRel.start _ _⟩
  case round =>
    obtain ⟨k, fs, hk1, hk2, hfk, rfl, HP⟩ := hrel
    by_cases hk : k < n0 ∧ k < 12
    · obtain ⟨hk3, hk4⟩ := hk
      obtain ⟨b, off, rfl, hlt, hcell⟩ := unhide H4 (by have := unhide HN; omega)
      obtain ⟨c0, a, n, c, c1, hsl⟩ := hcell k (by have := unhide HN; omega)
      obtain ⟨f, hf⟩ : ∃ f, f = fs0[k]'(by have := unhide HN; omega) := ⟨_, rfl⟩
      rw [← hf] at c0 hsl
      obtain ⟨kd, d⟩ := f
      simp only at c0 hsl
      obtain rfl : n = d.length := by obtain ⟨a', cap, e, _⟩ := hsl; cases e; rfl
      have HSafe := hide (((Safe.of_old hsl).below (unhide HB1) (Nat.le_refl _)).lim s1)
      have HWr := hide ((unhide HB1).trans (HP.2.2.2.1.mono s1))
      have e0 := ((unhide HWr).cell (p := ⟨b, off + k * 2, none⟩) hlt).trans c0
      have e1 := ((unhide HWr).cell (p := ⟨b, off + k * 2 + 1, none⟩) hlt).trans c1
      have HS := hide hsl
      have hsz := HP.2.2.2.1.size
      have HPR := hide HP
      clear hf hcell c0 c1 hsl HP
      go_wp2_with fail
      by_cases hdd : 2000 < d.length
      · refine (PutFrame_long _ kd _ _ _ d _ ((unhide HS).below (unhide HWr) (Nat.le_refl _)) hdd).mono ?_
        rintro e w5 ⟨rfl, b5⟩
        have HP5 := hide ((unhide HPR).below b5 (Nat.le_refl _) hsz)
        clear b5
        go_wp2
        go_roundw
        case rel => exact ⟨k + 1, fs, by omega, by omega, by omega, by go_num, unhide HP5⟩
        case measure => simp [intOf]; omega
      · have hd2 : d.length ≤ 2000 := by omega
        have hll := frLay_len kd d hd2
        obtain ⟨L, hL⟩ : ∃ L, L = frLay kd d := ⟨_, rfl⟩
        obtain ⟨m, hm⟩ : ∃ m, m = ([] : List UInt8).length + L.length := ⟨_, rfl⟩
        rw [← hL] at hll
        refine (PutFrame_as _ [] kd _ _ _ d L m _ (nil_sl _) ((unhide HS).below (unhide HWr) (Nat.le_refl _)) hd2 (by simp) hL hm).mono ?_
        have HLL := hide hL
        clear hL hm
        rintro e w5 ⟨g5, c5, rfl, own5, b5⟩
        rw [List.nil_append] at own5
        have HP5 := (unhide HPR).below b5 (Nat.le_refl _) hsz
        have s5 := b5.size
        have e05 := (b5.cell (p := ⟨b, off + k * 2, none⟩) (by show b < wr.heap.size; have := (unhide HWr).size; omega)).trans e0
        have e15 := (b5.cell (p := ⟨b, off + k * 2 + 1, none⟩) (by show b < wr.heap.size; have := (unhide HWr).size; omega)).trans e1
        have hall := laysF_len_le fs HP5.2.2.2.2.1
        have HPH := hide HP5
        have HO5 := hide own5
        clear own5 b5 e0 e1 HP5 HPR
        go_wp2_with (at_builtin; refine wpList_append_grow rfl (.tmp 38) (.tmp 39) rfl w1.heap.size _ (laysF fs) rfl (unhide HPH).1 _ _ _ L rfl (unhide HO5).sl ?hlen ?hbase ?_)
        case hlen => omega
        case hbase => omega
        intro va6 w6 own6 b6 gr6
        have own6' : Own w6 w1.heap.size va6 (laysF (fs ++ [(kd, d)])) := by
          rw [laysF_snoc]
          show Own w6 w1.heap.size va6 (laysF fs ++ frLay kd d)
          rw [← unhide HLL]
          exact own6
        obtain ⟨N, hN⟩ : ∃ N, N = (laysF (fs ++ [(kd, d)])).length := ⟨_, rfl⟩
        have hNp : 0 < N ∧ N ≤ 30000 := by rw [hN, laysF_snoc, List.length_append]; show 0 < _ + (frLay kd d).length ∧ _ + (frLay kd d).length ≤ _; rw [← unhide HLL]; omega
        obtain ⟨g6, c6, rfl, hc6, hc6'⟩ := own6'.slice hN hNp.1
        have hrow := ownBlock_tag (unhide HPH).1
        have hI6 : IOwn w6 w1.heap.size _ (endsF fs) := ownsRow_other (unhide HPH).2.1 gr6 (fun j hj => by obtain ⟨_, cur, h⟩ := hrow j hj; exact ⟨cur, _, h, by decide⟩)
        have hF6 := (unhide HPH).2.2.1.other gr6 (fun j hj => by obtain ⟨q, cur, h⟩ := hrow j hj; exact ⟨q, cur, _, h, by decide⟩)
        have hb6 : Below w1.heap.size w1 w6 := (unhide HPH).2.2.2.1.trans b6
        have s6 := b6.size
        have e06 := (b6.cell (p := ⟨b, off + k * 2, none⟩) (by show b < w1.heap.size; omega)).trans e05
        have e16 := (b6.cell (p := ⟨b, off + k * 2 + 1, none⟩) (by show b < w1.heap.size; omega)).trans e15
        have HG6 := hide (And.intro own6' (And.intro hI6 (And.intro hF6 hb6)))
        have HNN := hide hN
        have HLE := hide (unhide HPH).2.2.2.2.1
        clear own6 own6' hI6 hF6 hb6 b6 gr6 hrow e05 e15 hN HPH HO5
        have HA := hide (fun o => ((Below.refl w6.heap.size w6).alloc (Nat.le_refl _) o))
        go_wp2_with (at_builtin; refine wpList_append_int rfl (.tmp 41) (.tmp 44) rfl w1.heap.size _ (endsF fs) rfl (ownsRow_below (unhide HG6).2.1 (unhide HA _) (Nat.le_refl _)) _ N rfl ?h0 ?hlen2 ?hbase2 ?_)
        case h0 => simp
        case hlen2 => rw [endsF_len]; omega
        case hbase2 => simp; omega
        intro ve7 w7 own7 b7 gr7
        have own7' : IOwn w7 w1.heap.size ve7 (endsF (fs ++ [(kd, d)])) := by rw [endsF_snoc, ← unhide HNN]; exact own7
        have hrow := ownBlock_tag (ownsRow_below (unhide HG6).2.1 (unhide HA (.cells #[.int .i64 (N : Int)] 3)) (Nat.le_refl _))
        have hO7 : Own w7 w1.heap.size _ (laysF (fs ++ [(kd, d)])) := ownsRow_other (ownsRow_below (unhide HG6).1 (unhide HA _) (Nat.le_refl _)) gr7 (fun j hj => by obtain ⟨_, cur, h⟩ := hrow j hj; exact ⟨cur, _, h, by decide⟩)
        have hF7 := ((unhide HG6).2.2.1.below (unhide HA _) (Nat.le_refl _)).other gr7 (fun j hj => by obtain ⟨q, cur, h⟩ := hrow j hj; exact ⟨q, cur, _, h, by decide⟩)
        have hb67 : Below w1.heap.size w6 w7 := ((unhide HA _).mono (by omega)).trans b7
        have s7 := hb67.size
        have e07 := (hb67.cell (p := ⟨b, off + k * 2, none⟩) (by show b < w1.heap.size; omega)).trans e06
        have e17 := (hb67.cell (p := ⟨b, off + k * 2 + 1, none⟩) (by show b < w1.heap.size; omega)).trans e16
        have HG7 := hide (And.intro hO7 (And.intro own7' (And.intro hF7 ((unhide HG6).2.2.2.trans hb67))))
        clear own7 own7' hO7 hF7 hb67 b7 gr7 hrow e06 e16 HG6 HA
        have HA7 := hide (fun o => ((Below.refl w7.heap.size w7).alloc (Nat.le_refl _) o))
        have HSf := hide (fun o => (((unhide HSafe).below ((unhide HG7).2.2.2) (Nat.le_refl _)).below (unhide HA7 o) (Nat.le_refl _)))
        go_wp2_with (at_builtin; refine wpList_append_frame (own := false) rfl (.tmp 46) (.tmp 51) rfl w1.heap.size w1.heap.size (Nat.le_refl _) _ fs rfl ((unhide HG7).2.2.1.below (unhide HA7 _) (Nat.le_refl _)) _ kd a d.length c d rfl ?h00 ?h01 (unhide HSf _) ?hlen3 ?hbase3 ?_)
        case h00 => simp
        case h01 => simp
        case hlen3 => omega
        case hbase3 => simp; omega
        intro vg8 w8 own8 b8 gr8
        have hrow := ownBlock_tag ((unhide HG7).2.2.1.below (unhide HA7 (.cells #[bv kd, .slice a d.length c] 35)) (Nat.le_refl _)).choose_spec.1
        have HP8 : Hid (PRel w1.heap.size w1 (fs ++ [(kd, d)]) (.slice (some ⟨g6, 0, none⟩) N c6) ve7 vg8 w8) := hide (by
          refine ⟨ownsRow_other (ownsRow_below (unhide HG7).1 (unhide HA7 _) (Nat.le_refl _)) gr8 (fun j hj => by obtain ⟨_, cur, h⟩ := hrow j hj; exact ⟨cur, _, h, by decide⟩), ownsRow_other (ownsRow_below (unhide HG7).2.1 (unhide HA7 _) (Nat.le_refl _)) gr8 (fun j hj => by obtain ⟨_, cur, h⟩ := hrow j hj; exact ⟨cur, _, h, by decide⟩), own8, (unhide HG7).2.2.2.trans (((unhide HA7 _).mono (by omega)).trans b8), ?_, fun h => by simp at h⟩
          intro f hf
          rcases List.mem_append.1 hf with h | h
          · exact unhide HLE f h
          · simp at h; subst h; exact hd2)
        clear own8 b8 gr8 hrow
        go_wp2
        go_roundw
        case rel => exact ⟨k + 1, fs ++ [(kd, d)], by omega, by omega, by simp; omega, by go_num, unhide HP8⟩
        case measure => simp [intOf]; omega
    · have hsz := HP.2.2.2.1.size
      have HWr := hide ((unhide HB1).trans (HP.2.2.2.1.mono s1))
      have hE : (¬ k < n0) ∨ (k < n0 ∧ ¬ k < 12) := by omega
      clear hk H4
      by_cases hfs : fs = []
      · subst hfs
        obtain ⟨rfl, rfl, rfl⟩ := HP.2.2.2.2.2 rfl
        have hsc := scan_bad (frE_short (l := []) (by decide))
        have HSC := hide hsc
        clear HP hsc
        rcases hE with hE | ⟨hE1, hE2⟩
        all_goals
          go_wp2_with fail
          refine (Pick_any cut _ _ hc0 hc1 (by decide) (by decide)).mono ?_
          rintro e w4 ⟨q, rfl, hq, rfl⟩
          obtain rfl : q = 0 := by omega
          clear hq
          go_wp2_with fail
          refine (Scan_any _ [] _ (nil_sl _) (by simp)).mono ?_
          rintro e w5 ⟨v5, rfl, own5, b5⟩
          rw [unhide HSC] at own5 ⊢
          obtain ⟨a5, c5, rfl⟩ := own5.slice
          have HO5 := hide own5
          have HW5 := hide ((unhide HWr).trans (b5.mono (by have := (unhide HWr).size; omega)))
          clear own5 b5
          have HFN := hide (FOwn.fl (FOwn.nil false w5 0 0))
          go_wp2_with fail
          refine wp_loop_rounds 1 ?_
          rw [rounds_succ]
          go_wp2_with fail
          refine (SameFrames_any _ _ [] [] _ (unhide HO5).fl (unhide HFN)).mono ?_
          rintro e w6 ⟨rfl, b6⟩
          have HW6 := hide ((unhide HW5).trans (b6 _))
          clear b6
          go_wp2
          go_ret
          exact ⟨rfl, unhide HW6⟩
      · have hfp : 0 < fs.length := List.length_pos_iff.2 hfs
        obtain ⟨N, hN⟩ : ∃ N, N = (laysF fs).length := ⟨_, rfl⟩
        have hNp : 0 < N ∧ N ≤ 30000 := by
          have h1 := laysF_len_le fs HP.2.2.2.2.1
          refine ⟨?_, by omega⟩
          rw [hN]
          cases fs with
          | nil => simp at hfp
          | cons f fs =>
            have := (frLay_len f.1 f.2 (HP.2.2.2.2.1 f (by simp))).1
            simp only [laysF, List.length_append]; omega
        obtain ⟨ga, ca, rfl, hca, hca'⟩ := HP.1.slice hN hNp.1
        obtain ⟨F, hF⟩ : ∃ F, F = fs.length := ⟨_, rfl⟩
        obtain ⟨ge, ce, rfl, hce, hce', hge, hcell⟩ : ∃ g cap, u7 = .slice (some ⟨g, 0, none⟩) F cap ∧ F ≤ cap ∧ cap ≤ 9223372036854775807 ∧ g < wr.heap.size ∧ ∀ i, (h : i < F) → wr.cell? ⟨g, i, none⟩ = some (.int .i64 ((laysF (fs.take (i + 1))).length : Nat)) := by
          rcases HP.2.1.at with ⟨_, hz⟩ | ⟨g, cap, h1, h2, h3, h4, h5⟩
          · have := congrArg List.length hz; rw [endsF_len] at this; have h0 : fs.length = 0 := this; omega
          · rw [endsF_len, ← hF] at h1 h2
            refine ⟨g, cap, h1, h2, h3, h4, fun i hi => ?_⟩
            have := h5 i (by rw [endsF_len]; omega)
            rw [endsF_at] at this
            exact this
        obtain ⟨gg, cg, rfl, hcg, hcg', hFl⟩ : ∃ g cap, u8 = .slice (some ⟨g, 0, none⟩) F cap ∧ F ≤ cap ∧ cap ≤ 9223372036854775807 ∧ ∀ q, q ≤ F → ∀ w', Below wr.heap.size wr w' → Fl w' (.slice (some ⟨g, 0, none⟩) q cap) (fs.take q) := by
          obtain ⟨ao', cap', e, g1, g2, g4⟩ := HP.2.2.1.fl
          obtain ⟨cs, ⟨_, q2⟩, _⟩ := HP.2.2.1
          rcases q2 with ⟨rfl, hz⟩ | ⟨g, cap, cur, rfl, _⟩
          · omega
          · simp only [Value.slice.injEq] at e
            obtain ⟨rfl, -, rfl⟩ := e
            refine ⟨g, cap, by rw [hF], by omega, g2, fun q hq w' hb => ?_⟩
            have hlen : (fs.take q).length = q := by simp; omega
            refine ⟨_, cap, by rw [hlen], by rw [hlen]; omega, g2, fun hz => ?_⟩
            obtain ⟨b', off', e', l', c'⟩ := g4 (by omega)
            refine ⟨b', off', e', by have := hb.size; omega, fun i hi => ?_⟩
            rw [hlen] at hi
            obtain ⟨p1, a1, n1, c1, p2, p3⟩ := c' i (by omega)
            have e2 : (fs.take q)[i]'(by rw [hlen]; exact hi) = fs[i]'(by omega) := by simp
            rw [e2]
            exact ⟨(hb.cell (p := ⟨b', off' + i * 2, none⟩) l').trans p1, a1, n1, c1, (hb.cell (p := ⟨b', off' + i * 2 + 1, none⟩) l').trans p2, p3.below hb (Nat.le_refl _)⟩
        have HAll := hide HP.1
        have HLE := hide HP.2.2.2.2.1
        have HFl := hide hFl
        have HCE := hide hcell
        have HNF := hide (And.intro hN hF)
        have hF12 : F ≤ 12 := by omega
        have hFp : 0 < F := by omega
        clear HP hFl hcell hN hF hfs hfp hfk
        rcases hE with hE | ⟨hE1, hE2⟩
        all_goals
          go_wp2_with fail
          refine (Pick_any cut _ _ hc0 hc1 (by omega) (by omega)).mono ?_
          rintro e w4 ⟨q, rfl, hq, rfl⟩
          have hqN : q ≤ N := by omega
          obtain ⟨m, m1, m2, m3, m4⟩ := scan_cut fs q (unhide HLE) (by have := (unhide HNF).1; omega)
          have HM := hide (And.intro m1 (And.intro m2 (And.intro m3 m4)))
          clear hq m1 m2 m3 m4
          have HST := hide (Sl.taken (unhide HAll) q (by have := (unhide HNF).1; omega))
          go_wp2_with fail
          refine (Scan_any _ ((laysF fs).take q) _ (unhide HST) (by rw [List.length_take]; have := (unhide HNF).1; omega)).mono ?_
          rintro e w5 ⟨v5, rfl, own5, b5⟩
          rw [(unhide HM).2.2.2] at own5 ⊢
          obtain ⟨a5, c5, rfl⟩ := own5.slice
          have HO5 := hide own5
          have HW5 := hide ((unhide HWr).trans (b5.mono (by have := (unhide HWr).size; omega)))
          have HC5 := hide (fun i (hi : i < F) => (b5.cell (p := ⟨ge, i, none⟩) hge).trans (unhide HCE i hi))
          have HF5 := hide (fun q (hq : q ≤ F) => unhide HFl q hq w5 b5)
          obtain ⟨nb, hnb⟩ : ∃ nb, nb = (laysF (fs.take m)).length := ⟨_, rfl⟩
          obtain ⟨nf, hnf⟩ : ∃ nf, nf = (fs.take m).length := ⟨_, rfl⟩
          have HNB := hide hnb
          have HO6 := unhide HO5
          rw [← hnf] at HO6 ⊢
          rw [← hnb]
          have HO7 := hide HO6
          clear own5 b5 hnb hnf HO5 HO6
          go_wp2_with fail
          go_loop [14] (fun i => ∃ t : Nat, t ≤ F ∧ i = .int .i64 t ∧ Hid (∀ j, j < t → (laysF (fs.take (j + 1))).length ≤ q)) (fun i => F - (intOf i).toNat)
          case atStart => exact ⟨0, by omega, rfl, hide (fun j hj => by omega)⟩
          case round =>
            obtain ⟨t, ht, rfl, HJ⟩ := hrel
            by_cases htF : t < F
            · have hct := unhide HC5 t htF
              obtain ⟨en, hen⟩ : ∃ en, en = (laysF (fs.take (t + 1))).length := ⟨_, rfl⟩
              rw [← hen] at hct
              by_cases hle : en ≤ q
              · have HJ2 : Hid (∀ j, j < t + 1 → (laysF (fs.take (j + 1))).length ≤ q) := hide (fun j hj => by
                  by_cases h : j < t
                  · exact unhide HJ j h
                  · have : j = t := by omega
                    subst this
                    omega)
                clear hen
                go_wp2
                go_round
                case rel => exact ⟨t + 1, by omega, by go_num, HJ2⟩
                case measure => simp [intOf]; omega
              · have hmt : m = t := many_eq fs q t m (by have := (unhide HNF).2; omega) (unhide HJ) (fun _ => by omega) (unhide HM).1 (unhide HM).2.1 (unhide HM).2.2.1
                subst hmt
                clear hen
                by_cases ht0 : 0 < m
                · have hcm := unhide HC5 (m - 1) (by omega)
                  rw [show m - 1 + 1 = m by omega, ← unhide HNB] at hcm
                  go_wp2_with fail
                  refine (SameFrames_any _ _ (fs.take m) (fs.take m) _ (unhide HO7).fl (unhide HF5 m (by omega))).mono ?_
                  rintro e w6 ⟨rfl, b6⟩
                  rw [decide_eq_true rfl]
                  have HW6 := hide ((unhide HW5).trans (b6 _))
                  clear b6
                  go_wp2
                  go_ret
                  exact ⟨rfl, unhide HW6⟩
                · obtain rfl : m = 0 := by omega
                  obtain rfl : nb = 0 := by rw [unhide HNB]; simp [laysF]
                  go_wp2_with fail
                  refine (SameFrames_any _ _ (fs.take 0) (fs.take 0) _ (unhide HO7).fl (unhide HF5 0 (by omega))).mono ?_
                  rintro e w6 ⟨rfl, b6⟩
                  rw [decide_eq_true rfl]
                  have HW6 := hide ((unhide HW5).trans (b6 _))
                  clear b6
                  go_wp2
                  go_ret
                  exact ⟨rfl, unhide HW6⟩
            · have hmt : m = t := many_eq fs q t m (by have := (unhide HNF).2; omega) (unhide HJ) (fun h => by have := (unhide HNF).2; omega) (unhide HM).1 (unhide HM).2.1 (unhide HM).2.2.1
              subst hmt
              have ht0 : 0 < m := by omega
              have hcm := unhide HC5 (m - 1) (by omega)
              rw [show m - 1 + 1 = m by omega, ← unhide HNB] at hcm
              go_wp2_with fail
              refine (SameFrames_any _ _ (fs.take m) (fs.take m) _ (unhide HO7).fl (unhide HF5 m (by omega))).mono ?_
              rintro e w6 ⟨rfl, b6⟩
              rw [decide_eq_true rfl]
              have HW6 := hide ((unhide HW5).trans (b6 _))
              clear b6
              go_wp2
              go_ret
              exact ⟨rfl, unhide HW6⟩

set_option maxRecDepth 100000 in
theorem Prefixes.lifted (os : Os) (started : os.Started) (H : Type) (enc : TypeId × Value → H) :
    ReturnsInHanded {} Try.checked os 4 .any (Rows.codecPrefixesSpec.pre6 enc Try.prog Try.f4 Rows.codecPrefixesRow.domain false) (Rows.codecPrefixesSpec.post enc Try.prog Try.f4 false true false false) := by
  refine returnsInHanded_of_change (C := Try.checked) own_knob started (by kernel_rfl) Try.func4
    (ChangeSpec.witness6 (enc := enc) (C := Try.checked) false ⟨#[], #[.slice none 0 0, .int .i64 0], []⟩ 8 (by kernel_rfl) (by kernel_rfl) (by kernel_rfl) (by kernel_rfl)) ?_
  intro W base args ds gs before hval0 hW hcnd _
  have hval : ∀ (j : Nat) t v, Try.f4.params[j]? = some t → args[j]? = some v → Value.okWide Try.prog W .any base t v := hval0
  have hW' := hW
  obtain ⟨p, q, hA0, hV, rfl, hfz, hnd⟩ := hW
  have hA : DataW.TrodAll enc Try.prog W 0 (fun _ => true) true Try.f4.params.toList args.toList ds p := hA0
  rw [Try.params4] at hA hval
  obtain ⟨v0, v1, d0, d1, p0, p1, rfl, rfl, rfl, h0, h1⟩ := trodAll_two hA
  obtain ⟨rfl, rfl⟩ := trodVars_none hV
  obtain ⟨a0, len0, cap0, rfl⟩ := okWide_slice Try.underlying31 (hval 0 31 v0 rfl rfl)
  have k0 := h0
  have lt0 : ∀ x ∈ p0, x.block < W.heap.size := by obtain ⟨m, hm⟩ := k0; exact DataW.trod_lt m _ _ _ hm
  obtain ⟨fs, hfs⟩ := open_frames h0
  obtain ⟨x, rfl, rfl, rfl, wx⟩ := open_int Try.underlying3 (hval 1 3 v1 rfl rfl) h1
  have bx := bounds_i64 wx
  clear hA0 hval0
  refine (Prefixes.walk _ fs x W hfs (by omega) (by omega)).mono fun e W' ⟨he, bel⟩ => ?_
  subst he
  exact ⟨_, rfl, _, _, _, [], _, [], hW', trodAll_mk1 (shut_bool Try.underlying4 _), (trodAll_cons_mk (Below.trod laid_out (by kernel_rfl) (of_decide_eq_true (by kernel_rfl)) k0 bel lt0) (trodAll_cons_mk (shut_int Try.underlying3 wx) trodAll_mk0)), rfl, bel.frame _, fun h => by cases h⟩

theorem codecPrefixes_holds : Rows.CodecPrefixesSaid :=
  OpenClaim.holds_of_wide 4 Try.f4 rfl rfl rfl rfl rfl rfl rfl ⟨rfl, rfl, rfl, rfl, rfl⟩ rfl rfl rfl rfl rfl (by kernel_rfl) Try.func4 (by kernel_rfl)
    (of_decide_eq_true (by kernel_rfl)) (by unfold Func.isWrapper; first | (rw [if_pos (by decide +kernel)]; kernel_rfl) | (rw [if_neg (by decide +kernel)]; exact ⟨rfl, rfl⟩))
    (fun os started H enc _ => Prefixes.lifted os started H enc)
#print axioms codecPrefixes_holds
end Go.Proofs.Ytoclnnkeabbicab
