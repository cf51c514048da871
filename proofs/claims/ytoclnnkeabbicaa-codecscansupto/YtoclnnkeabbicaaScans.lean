/-
  CodecScans: for every slice of bytes and every slice of frames, together of bulk at most 1048576, it returns true, and its arguments read as before.
-/
import Derived.Test.YtoclnnkeabbicaaRows
import Derived.Test.YtoclnnkeabbicaaRefScan
import Derived.Test.YtoclnnkeabbicaaFownO
import Derived.Test.YtoclnnkeabbicaaPutF
import Derived.OpenShut
namespace Go.Proofs.Ytoclnnkeabbicaa
open Go.ChangeShapes Go.WideShapes Go.ChangeAt Go.RowKit
set_option linter.unusedVariables false

/-- What the loop has laid. -/
def SRel (B : Nat) (w : World) (fs : List (UInt8 × List UInt8)) (va vg : Value) (wr : World) : Prop :=
  Own wr B va (laysF fs) ∧ FOwn false wr B B vg fs ∧ Below B w wr ∧ (∀ f ∈ fs, f.2.length ≤ 2000)

theorem SRel.start (B : Nat) (w : World) : SRel B w [] (.slice none 0 0) (.slice none 0 0) w :=
  ⟨World.ownsRow_nil _ _ _ _, FOwn.nil _ _ _ _, Below.refl _ _, fun f hf => by simp at hf⟩

theorem SRel.below {B C : Nat} {w wr w' : World} {fs : List (UInt8 × List UInt8)} {va vg : Value} (h : SRel B w fs va vg wr) (hb : Below C wr w') (hC : wr.heap.size ≤ C) (hBC : B ≤ C) : SRel B w fs va vg w' :=
  ⟨ownsRow_below h.1 hb hC, h.2.1.below hb hC, h.2.2.1.trans (hb.mono hBC), h.2.2.2⟩

theorem Scan_as (v : Value) (l : List UInt8) (F : List (UInt8 × List UInt8)) (K : Nat) (w : World) (hv : Sl w v l) (hl : l.length ≤ 1099511627776) (h : scanL l = (F, K)) :
    Calls Try.prog 27 #[v] w fun e w' => ∃ a c, e = .returned (.tuple #[.slice a F.length c, .int .i64 K]) ∧ FOwn true w' 0 w.heap.size (.slice a F.length c) F ∧ Below w.heap.size w w' := by
  refine (Scan_any v l w hv hl).mono ?_
  rintro e w' ⟨v', rfl, h1, h2⟩
  rw [h] at h1 ⊢
  obtain ⟨a, c, rfl⟩ := h1.slice
  exact ⟨a, c, rfl, h1, h2⟩
theorem rScan_as (v : Value) (l : List UInt8) (F : List (UInt8 × List UInt8)) (K : Nat) (w : World) (hv : Sl w v l) (hl : l.length ≤ 1099511627776) (h : scanL l = (F, K)) :
    Calls Try.prog 28 #[v] w fun e w' => ∃ a c, e = .returned (.tuple #[.slice a F.length c, .int .i64 K]) ∧ FOwn true w' 0 w.heap.size (.slice a F.length c) F ∧ Below w.heap.size w w' := by
  refine (rScan_any v l w hv hl).mono ?_
  rintro e w' ⟨v', rfl, h1, h2⟩
  rw [h] at h1 ⊢
  obtain ⟨a, c, rfl⟩ := h1.slice
  exact ⟨a, c, rfl, h1, h2⟩

set_option maxHeartbeats 8000000 in
set_option maxRecDepth 100000 in
theorem Scans.walk (vb : Value) (l : List UInt8) (v : Value) (fs0 : List (UInt8 × List UInt8)) (w : World) (hb : Sl w vb l) (hl : l.length ≤ 2000000) (hv : Fl w v fs0) :
    Calls Try.prog 5 #[vb, v] w fun e w' => e = .returned (.bool true) ∧ Below w.heap.size w w' := by
  obtain ⟨bo, bp, rfl, b1, b2, b4⟩ := id hb
  unfold maxLen at b2
  have HVB := hide hb
  obtain ⟨ao, cp, rfl, h1, h2, h4⟩ := id hv
  have H4 := hide h4
  clear h4 hv b4 hb
  obtain ⟨n0, hn0⟩ : ∃ n0, n0 = fs0.length := ⟨_, rfl⟩
  rw [← hn0] at h1 ⊢
  have HN := hide hn0
  clear hn0
  obtain ⟨F, K, hFK⟩ : ∃ F K, scanL l = (F, K) := ⟨_, _, rfl⟩
  have HFK := hide hFK
  clear hFK
  go_enter Try.func5, Try.ntmps5
  go_wp2_with (first | (go_at_call 9; refine (awake_any _).mono ?_; rintro e w1 ⟨rfl, b1⟩; have HB1 := hide b1; have s1 := b1.size; clear b1) | (go_at_call 10; refine (lent_any _ l _ ((unhide HVB).below (unhide HB1) (Nat.le_refl _)) (by omega)).mono ?_; rintro e w2 ⟨g2, cap2, rfl, hL, b2⟩; have HL := hide hL; have HB2 := hide b2; have s2 := b2.size; clear hL b2))
  have HW2 := hide ((unhide HB1).trans ((unhide HB2).mono s1))
  refine (Scan_as _ l F K _ (unhide HL).sl (by omega) (unhide HFK)).mono ?_
  rintro e w3 ⟨a3, c3, rfl, own3, b3⟩
  have s3 := b3.size
  have HW3 := hide ((unhide HW2).trans (b3.mono (by omega)))
  have HL3 := hide ((unhide HL).below b3 (Nat.le_refl _))
  have HO3 := hide own3
  clear own3 b3
  go_wp2_with fail
  refine (rScan_as _ l F K _ ((unhide HVB).below (unhide HW3) (Nat.le_refl _)) (by omega) (unhide HFK)).mono ?_
  rintro e w4 ⟨a4, c4, rfl, own4, b4⟩
  have s4 := b4.size
  have HW4 := hide ((unhide HW3).trans (b4.mono (by omega)))
  have HL4 := hide ((unhide HL3).below b4 (Nat.le_refl _))
  have HO4 := hide ((unhide HO3).below b4 (Nat.le_refl _))
  have HR4 := hide own4
  clear own4 b4
  go_wp2_with fail
  refine (SameFrames_any _ _ F F _ (unhide HO4).fl (unhide HR4).fl).mono ?_
  rintro e w5 ⟨rfl, b5⟩
  rw [decide_eq_true rfl]
  have s5 := (b5 0).size
  have HW5 := hide ((unhide HW4).trans (b5 _))
  have HL5 := hide ((unhide HL4).below (b5 _) (Nat.le_refl _))
  clear b5
  go_wp2_with fail
  refine (held_any _ _ _ l _ (unhide HL5) ((unhide HVB).below (unhide HW5) (Nat.le_refl _))).mono ?_
  rintro e w6 ⟨rfl, rfl⟩
  have s05 : w.heap.size ≤ w5.heap.size := by omega
  clear s1 s2 s3 s4 s5 HL HL3 HL4 HL5 HO3 HO4 HR4 HB1 HB2 HW2 HW3 HW4
  go_wp2_with fail
  go_loopw [13, 14, 15, 16, 17] (fun va vg i _ _ wr => ∃ (k : Nat) (fs : List (UInt8 × List UInt8)), k ≤ n0 ∧ k ≤ 40 ∧ fs.length ≤ k ∧ i = .int .i64 k ∧ SRel w5.heap.size w5 fs va vg wr) (fun _ _ i _ _ _ => 40 - (intOf i).toNat)
  case atStart => exact ⟨0, [], by omega, by omega, by simp, rfl, SRel.start _ _⟩
  case round =>
    obtain ⟨k, fs, hk1, hk2, hfk, rfl, HP⟩ := hrel
    by_cases hk : k < n0 ∧ k < 40
    · obtain ⟨hk3, hk4⟩ := hk
      obtain ⟨b, off, rfl, hlt, hcell⟩ := unhide H4 (by have := unhide HN; omega)
      obtain ⟨c0, a, n, c, c1, hsl⟩ := hcell k (by have := unhide HN; omega)
      obtain ⟨f, hf⟩ : ∃ f, f = fs0[k]'(by have := unhide HN; omega) := ⟨_, rfl⟩
      rw [← hf] at c0 hsl
      obtain ⟨kd, d⟩ := f
      simp only at c0 hsl
      obtain rfl : n = d.length := by obtain ⟨a', cap, e, _⟩ := hsl; cases e; rfl
      have HSafe := hide (((Safe.of_old hsl).below (unhide HW5) (Nat.le_refl _)).lim s05)
      have HWr := hide ((unhide HW5).trans (HP.2.2.1.mono s05))
      have e0 := ((unhide HWr).cell (p := ⟨b, off + k * 2, none⟩) hlt).trans c0
      have e1 := ((unhide HWr).cell (p := ⟨b, off + k * 2 + 1, none⟩) hlt).trans c1
      have HS := hide hsl
      have hsz := HP.2.2.1.size
      have HPR := hide HP
      clear hf hcell c0 c1 hsl HP
      go_wp2_with fail
      by_cases hdd : 2000 < d.length
      · refine (PutFrame_long _ kd _ _ _ d _ ((unhide HS).below (unhide HWr) (Nat.le_refl _)) hdd).mono ?_
        rintro e w6 ⟨rfl, b6⟩
        have HP6 := hide ((unhide HPR).below b6 (Nat.le_refl _) hsz)
        clear b6
        go_wp2
        go_roundw
        case rel => exact ⟨k + 1, fs, by omega, by omega, by omega, by go_num, unhide HP6⟩
        case measure => simp [intOf]; omega
      · have hd2 : d.length ≤ 2000 := by omega
        have hll := frLay_len kd d hd2
        obtain ⟨L, hL⟩ : ∃ L, L = frLay kd d := ⟨_, rfl⟩
        obtain ⟨m, hm⟩ : ∃ m, m = ([] : List UInt8).length + L.length := ⟨_, rfl⟩
        rw [← hL] at hll
        refine (PutFrame_as _ [] kd _ _ _ d L m _ (nil_sl _) ((unhide HS).below (unhide HWr) (Nat.le_refl _)) hd2 (by simp) hL hm).mono ?_
        have HLL := hide hL
        clear hL hm
        rintro e w6 ⟨g6, c6, rfl, own6, b6⟩
        rw [List.nil_append] at own6
        have HP6 := (unhide HPR).below b6 (Nat.le_refl _) hsz
        have s6 := b6.size
        have e06 := (b6.cell (p := ⟨b, off + k * 2, none⟩) (by show b < wr.heap.size; have := (unhide HWr).size; omega)).trans e0
        have e16 := (b6.cell (p := ⟨b, off + k * 2 + 1, none⟩) (by show b < wr.heap.size; have := (unhide HWr).size; omega)).trans e1
        have hall := laysF_len_le fs HP6.2.2.2
        have HPH := hide HP6
        have HO6 := hide own6
        clear own6 b6 e0 e1 HP6 HPR
        go_wp2_with (at_builtin; refine wpList_append_grow rfl (.tmp 60) (.tmp 61) rfl w5.heap.size _ (laysF fs) rfl (unhide HPH).1 _ _ _ L rfl (unhide HO6).sl ?hlen ?hbase ?_)
        case hlen => omega
        case hbase => omega
        intro va7 w7 own7 b7 gr7
        have own7' : Own w7 w5.heap.size va7 (laysF (fs ++ [(kd, d)])) := by
          rw [laysF_snoc]
          show Own w7 w5.heap.size va7 (laysF fs ++ frLay kd d)
          rw [← unhide HLL]
          exact own7
        have hrow := ownBlock_tag (unhide HPH).1
        have hF7 := (unhide HPH).2.1.other gr7 (fun j hj => by obtain ⟨q, cur, h⟩ := hrow j hj; exact ⟨q, cur, _, h, by decide⟩)
        have hb7 : Below w5.heap.size w5 w7 := (unhide HPH).2.2.1.trans b7
        have s7 := b7.size
        have e07 := (b7.cell (p := ⟨b, off + k * 2, none⟩) (by show b < w5.heap.size; omega)).trans e06
        have e17 := (b7.cell (p := ⟨b, off + k * 2 + 1, none⟩) (by show b < w5.heap.size; omega)).trans e16
        have HG7 := hide (And.intro own7' (And.intro hF7 hb7))
        have HLE := hide (unhide HPH).2.2.2
        clear own7 own7' hF7 hb7 b7 gr7 hrow e06 e16 HPH HO6
        have HA7 := hide (fun o => ((Below.refl w7.heap.size w7).alloc (Nat.le_refl _) o))
        have HSf := hide (fun o => (((unhide HSafe).below ((unhide HG7).2.2) (Nat.le_refl _)).below (unhide HA7 o) (Nat.le_refl _)))
        go_wp2_with (at_builtin; refine wpList_append_frame (own := false) rfl (.tmp 63) (.tmp 68) rfl w5.heap.size w5.heap.size (Nat.le_refl _) _ fs rfl ((unhide HG7).2.1.below (unhide HA7 _) (Nat.le_refl _)) _ kd a d.length c d rfl ?h00 ?h01 (unhide HSf _) ?hlen3 ?hbase3 ?_)
        case h00 => simp
        case h01 => simp
        case hlen3 => omega
        case hbase3 => simp; omega
        intro vg8 w8 own8 b8 gr8
        have hrow := ownBlock_tag ((unhide HG7).2.1.below (unhide HA7 (.cells #[bv kd, .slice a d.length c] 37)) (Nat.le_refl _)).choose_spec.1
        have HP8 : Hid (SRel w5.heap.size w5 (fs ++ [(kd, d)]) va7 vg8 w8) := hide (by
          refine ⟨ownsRow_other (ownsRow_below (unhide HG7).1 (unhide HA7 _) (Nat.le_refl _)) gr8 (fun j hj => by obtain ⟨_, cur, h⟩ := hrow j hj; exact ⟨cur, _, h, by decide⟩), own8, (unhide HG7).2.2.trans (((unhide HA7 _).mono (by omega)).trans b8), ?_⟩
          intro f hf
          rcases List.mem_append.1 hf with h | h
          · exact unhide HLE f h
          · simp at h; subst h; exact hd2)
        clear own8 b8 gr8 hrow
        go_wp2
        go_roundw
        case rel => exact ⟨k + 1, fs ++ [(kd, d)], by omega, by omega, by simp; omega, by go_num, unhide HP8⟩
        case measure => simp [intOf]; omega
    · have hsz := HP.2.2.1.size
      have HWr := hide ((unhide HW5).trans (HP.2.2.1.mono s05))
      have hE : (¬ k < n0) ∨ (k < n0 ∧ ¬ k < 40) := by omega
      have hlen := laysF_len_le fs HP.2.2.2
      have hsc := scan_lays fs [] HP.2.2.2
      have hsb := scan_bad (frE_short (l := []) (by decide))
      rw [List.append_nil, hsb] at hsc
      simp only [List.append_nil, Nat.add_zero] at hsc
      obtain ⟨N, hN⟩ : ∃ N, N = (laysF fs).length := ⟨_, rfl⟩
      rw [← hN] at hsc hlen
      obtain ⟨ao3, cp3, hform, g1, g2, _⟩ := HP.1.sl
      unfold maxLen at g2
      rw [← hN] at hform g1
      subst hform
      obtain ⟨aG, cG, hform⟩ := HP.2.1.slice
      subst hform
      have HAll := hide HP.1
      have HG := hide HP.2.1
      have HSC := hide hsc
      have HNN := hide hN
      clear HP hsc hsb hN hk H4
      rcases hE with hE | ⟨hE1, hE2⟩
      all_goals
        go_wp2_with fail
        refine (Scan_as _ (laysF fs) fs N _ (unhide HAll).sl (by have := unhide HNN; omega) (unhide HSC)).mono ?_
        rintro e w7 ⟨a7, c7, rfl, own7, b7⟩
        have HW7 := hide ((unhide HWr).trans (b7.mono (by omega)))
        have HG7 := hide ((unhide HG).below b7 (Nat.le_refl _))
        have HO7 := hide own7
        clear own7 b7
        go_wp2_with fail
        refine (SameFrames_any _ _ fs fs _ (unhide HO7).fl (unhide HG7).fl).mono ?_
        rintro e w8 ⟨rfl, b8⟩
        rw [decide_eq_true rfl]
        have HW8 := hide ((unhide HW7).trans (b8 _))
        clear b8
        go_wp2
        go_ret
        exact ⟨rfl, unhide HW8⟩

theorem bulkAll_len {H : Type} : ∀ (l : List (DataW H)), l.length ≤ Rows.uptoBulkAll l
  | [] => by simp
  | d :: r => by
    have h1 : 1 ≤ Rows.uptoBulk d := by
      cases d with
      | lit l => cases l <;> simp [Rows.uptoBulk]
      | nil => simp [Rows.uptoBulk]
      | ptr d => simp [Rows.uptoBulk]
      | slice elems spare => simp [Rows.uptoBulk]
      | agg parts => simp [Rows.uptoBulk]
      | iface t d => simp [Rows.uptoBulk]
      | map entries => simp [Rows.uptoBulk]
      | held h => simp [Rows.uptoBulk]
    have := bulkAll_len r
    simp only [Rows.uptoBulkAll, List.length_cons]; omega

set_option maxRecDepth 100000 in
theorem Scans.contract (H : Type) (enc : TypeId × Value → H) (W : World) (base : Nat) (args : Array Value) (ds gs : List (DataW H)) (before : List MemPlace)
    (hval : ∀ (j : Nat) t v, Try.f5.params[j]? = some t → args[j]? = some v → Value.okWide Try.prog W .any base t v)
    (hW : DataW.Whole enc Try.prog Try.f5.params.toList Rows.codecScansSpec.vars false W args.toList ds gs before) (hk : Rows.uptoSmall H (ds ++ gs) = true) :
    Calls Try.prog 5 args W fun e W' => ∃ v, e = .returned v ∧ Rows.codecScansSpec.post enc Try.prog Try.f5 false true false false W args v W' := by
  have hW' := hW
  obtain ⟨p, q, hA0, hV, rfl, hfz, hnd⟩ := hW
  have hA : DataW.TrodAll enc Try.prog W 0 (fun _ => true) true Try.f5.params.toList args.toList ds p := hA0
  rw [Try.params5] at hA hval
  obtain ⟨v0, v1, d0, d1, p0, p1, rfl, rfl, rfl, h0, h1⟩ := trodAll_two hA
  obtain ⟨rfl, rfl⟩ := trodVars_none hV
  obtain ⟨a0, len0, cap0, rfl⟩ := okWide_slice Try.underlying22 (hval 0 22 v0 rfl rfl)
  obtain ⟨a1, len1, cap1, rfl⟩ := okWide_slice Try.underlying41 (hval 1 41 v1 rfl rfl)
  have k0 := h0
  have lt0 : ∀ x ∈ p0, x.block < W.heap.size := by obtain ⟨m, hm⟩ := k0; exact DataW.trod_lt m _ _ _ hm
  have k1 := h1
  have lt1 : ∀ x ∈ p1, x.block < W.heap.size := by obtain ⟨m, hm⟩ := k1; exact DataW.trod_lt m _ _ _ hm
  obtain ⟨l, hl, hd⟩ := open_bytes h0
  obtain ⟨fs, hfs⟩ := open_frames h1
  have hbound := of_decide_eq_true hk
  simp only [Rows.uptoBulkAll, List.append_nil] at hbound
  have hlen : l.length ≤ 2000000 := by
    rcases hd with ⟨_, rfl⟩ | ⟨es, sp, rfl, h⟩
    · simp
    · have e1 := bulkAll_len es
      have e2 := bulkAll_len sp
      simp only [Rows.uptoBulk] at hbound
      omega
  clear hA0
  refine (Scans.walk _ l _ fs W hl hlen hfs).mono fun e W' ⟨he, bel⟩ => ?_
  subst he
  exact ⟨_, rfl, _, _, _, [], _, [], hW', trodAll_mk1 (shut_bool Try.underlying4 _), (trodAll_cons_mk (Below.trod laid_out (by kernel_rfl) (of_decide_eq_true (by kernel_rfl)) k0 bel lt0) (trodAll_cons_mk (Below.trod laid_out (by kernel_rfl) (of_decide_eq_true (by kernel_rfl)) k1 bel lt1) trodAll_mk0)), rfl, bel.frame _, fun h => by cases h⟩

set_option maxRecDepth 100000 in
theorem Scans.lifted (os : Os) (started : os.Started) (H : Type) (enc : TypeId × Value → H) (F : Stop.Interp) :
    ReturnsInHanded {} Try.checked os 5 .any ((Rows.OpenSpec.upto Rows.codecScansSpec).pre6 enc Try.prog Try.f5 Rows.codecScansUptoRow.domain false) (((Rows.OpenSpec.upto Rows.codecScansSpec).at F).post enc Try.prog Try.f5 false true false false) := by
  refine returnsInHanded_of_cond (C := Try.checked) (s := Rows.OpenSpec.upto Rows.codecScansSpec) (k := Rows.uptoSmall) rfl own_knob started (by kernel_rfl) Try.func5
    (OpenSpec.witness (enc := enc) (C := Try.checked) (s := Rows.OpenSpec.upto Rows.codecScansSpec) (k := Rows.uptoSmall) rfl false ⟨#[], #[.slice none 0 0, .slice none 0 0], []⟩ 8 (by kernel_rfl) (by kernel_rfl) (by kernel_rfl)
      (x := ([.nil, .nil], [], [])) (by kernel_rfl) rfl (by kernel_rfl)) ?_
  intro W base args ds gs before hval hW _ hk _
  exact Scans.contract H enc W base args ds gs before hval hW hk

theorem codecScans_upto : Rows.CodecScansUptoSaid :=
  OpenClaim.holds_of_cond 5 Try.f5 rfl rfl rfl rfl rfl rfl rfl ⟨rfl, rfl, rfl, rfl, rfl⟩ rfl rfl rfl rfl rfl (by kernel_rfl) Try.func5 (by kernel_rfl)
    (of_decide_eq_true (by kernel_rfl)) (by unfold Func.isWrapper; first | (rw [if_pos (by decide +kernel)]; kernel_rfl) | (rw [if_neg (by decide +kernel)]; exact ⟨rfl, rfl⟩))
    (fun os started H enc _ F => Scans.lifted os started H enc F)
#print axioms codecScans_upto
end Go.Proofs.Ytoclnnkeabbicaa
