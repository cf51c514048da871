/-
  InodeReads: for all bytes it returns true, and its argument reads as before.
-/
import Derived.Test.YthjcdibblhcgpaaM3
import Derived.OpenShut
namespace Go.Proofs.Ythjcdibblhcgpaa
open Go.ChangeShapes Go.WideShapes Go.ChangeAt Go.RowKit
set_option linter.unusedVariables false

theorem own_empty (w : World) : Own (w.alloc (.cells #[] 5)) w.heap.size (.slice (some ⟨w.heap.size, 0, none⟩) 0 0) [] := ⟨rfl, .inr ⟨w.heap.size, 0, #[], rfl, Nat.le_refl _, heap_alloc_new _ _, by simp, by unfold maxLen; omega, by simp, by simp⟩⟩

set_option maxRecDepth 100000 in
set_option maxHeartbeats 16000000 in
theorem Reads.walk (v : Value) (bl : List UInt8) (w : World) (hv : Sl w v bl) (hbl : bl.length ≤ 140737488351232) :
    Calls Try.prog 4 #[v] w fun e w' => e = .returned (.bool true) ∧ Below w.heap.size w w' := by
  have HV := hide hv
  obtain ⟨ao, cap, hve, hvl, hvc, hv4⟩ := hv
  unfold maxLen at hvc
  clear hv4
  have hblI : (bl.length : Int) ≤ 140737488351232 := by omega
  subst hve
  go_enter Try.func4, Try.ntmps4
  go_wp2_with fail
  refine (awake_ok _).mono ?_
  rintro e w1 ⟨rfl, g1⟩
  have G1 := hide g1
  have V1 := hide ((unhide HV).kept g1)
  clear g1
  go_wp2_with (at_builtin; refine wpList_append_mine rfl (.tmp 13) (.tmp 14) rfl w1.heap.size _ [] rfl (own_empty w1) _ bl rfl ((unhide V1).alloc _) (by simp; omega) (by simp) ?_)
  intro v2 w2 o2 b2
  have O2 : Hid (Own w2 w1.heap.size v2 bl) := hide o2
  have B2 : Hid (Below w1.heap.size w1 w2) := hide (((Below.refl w1.heap.size w1).alloc (Nat.le_refl _) _).trans b2)
  clear o2 b2
  have HS1 : Hid (Sl (w2.alloc (.cells #[.int .u8 7] 5)) (.slice (some ⟨w2.heap.size, 0, none⟩) 1 1) [7]) := hide (Sl.new w2 [7] (by simp [maxLen]) (0, 0))
  go_wp2_with (at_builtin; refine wpList_append_mine rfl (.tmp 15) (.tmp 16) rfl w1.heap.size _ bl rfl (World.ownsRow.alloc (unhide O2) _) _ [7] rfl (unhide HS1) (by simp; omega) (Nat.le_trans (unhide B2).size (by simp)) ?_)
  intro v3 w3 o3 b3
  have B3 : Hid (w1.grownBy w3 none) := hide (grown_of_below (((unhide B2).alloc (unhide B2).size _).trans b3))
  have G3 : Hid (w.grownBy w3 none) := hide ((unhide G1).trans (unhide B3))
  have O3 := hide o3
  obtain ⟨lo, lcap, hv3, hl1, hl2, hl4⟩ := o3.form
  obtain ⟨g, hlo, _, _, _, hcell⟩ := hl4 (by simp)
  subst hlo
  have c7 : w3.cell? ⟨g, bl.length, none⟩ = some (.int .u8 7) := by
    have h := hcell bl.length (by simp)
    exact Eq.trans (by simpa using h) (show some (bv 7) = some (Value.int .u8 7) from rfl)
  have HC7 := hide c7
  have hv3' : v3 = .slice (some ⟨g, 0, none⟩) (bl.length + 1) lcap := by rw [hv3]; simp
  have hl1' : bl.length + 1 ≤ lcap := by simpa using hl1
  have HSl : Hid (Sl w3 (.slice (some ⟨g, 0, none⟩) bl.length lcap) bl) := hide ⟨_, _, rfl, by omega, by unfold maxLen; omega, fun _ => ⟨g, 0, rfl, by
    have := World.block_lt_of_cell? w3 _ c7
    exact this, fun i hi => by
    have h := hcell i (by simp; omega)
    rw [Nat.zero_add, h]
    simp [List.getElem_append_left hi]⟩⟩
  clear o3 b3 hcell hl4 hl1 hv3 O2 B2 HS1 c7
  subst hv3'
  have hlI : (bl.length : Int) + 1 ≤ (lcap : Int) := by omega
  have hlcI : (lcap : Int) ≤ 9223372036854775807 := by omega
  obtain ⟨n, hn⟩ : ∃ n, n = bl.length := ⟨_, rfl⟩
  rw [← hn] at hblI hvl HV V1 HC7 HSl hlI O3 ⊢
  have HN := hide hn
  clear hn
  go_wp2_with fail
  refine (Read_any w3 _ bl (unhide HSl)).mono ?_
  rintro e w4 ⟨g4, h4⟩
  have G4 : Hid (w.grownBy w4 none) := hide ((unhide G3).trans g4)
  have B4 : Hid (w3.grownBy w4 none) := hide g4
  have H4 := hide h4
  clear g4 h4
  rcases unhide H4 with ⟨h4, rfl⟩ | ⟨a4, L4, n4, b4, v4, h4, rfl, hb4, m4⟩
  · have HR := hide h4
    clear h4 H4
    go_wp2_with fail
    refine (rRead_any w4 _ bl ((unhide HV).kept (unhide G4))).mono ?_
    rintro e w5 ⟨g5, h5⟩
    rw [unhide HR] at h5
    rcases h5 with ⟨_, rfl⟩ | ⟨_, _, _, _, _, h5, _⟩
    · have G5 : Hid (w.grownBy w5 none) := hide ((unhide G4).trans g5)
      have B5 : Hid (w3.grownBy w5 none) := hide ((unhide B4).trans g5)
      have c7 := (unhide B5).cell (unhide HC7) (by simp)
      have st1 : ∀ k, (convert 23 9 (.slice (some ⟨g, 0, none⟩) n lcap)).run Try.prog (w5.drewN k) = .ok (.string ⟨bl.toArray⟩) (w5.drewN k) := fun k => ((unhide HSl).kept (grown_drewN' (unhide B5) k)).str
      have st2 : ∀ k, (convert 23 9 (.slice ao n cap)).run Try.prog (w5.drewN k) = .ok (.string ⟨bl.toArray⟩) (w5.drewN k) := fun k => ((unhide HV).kept (grown_drewN' (unhide G5) k)).str
      have st1' := ((unhide HSl).kept (unhide B5)).str
      have st2' := ((unhide HV).kept (unhide G5)).str
      clear g5
      go_wp2_with fail
      go_quiet (fail)
      go_wp2
      go_ret
      exact ⟨by simp, below_of_grown (grown_drewN' (unhide G5) _)⟩
    · cases h5
  · have HR := hide h4
    have M4 := hide m4
    clear h4 H4 m4
    go_wp2_with fail
    refine (rRead_any w4 _ bl ((unhide HV).kept (unhide G4))).mono ?_
    rintro e w5 ⟨g5, h5⟩
    rw [unhide HR] at h5
    rcases h5 with ⟨h5, _⟩ | ⟨a5, L5, n5, b5, v5, h5, rfl, hb5, m5⟩
    · cases h5
    · simp only [Option.some.injEq, Prod.mk.injEq] at h5
      obtain ⟨rfl, rfl, rfl⟩ := h5
      have G5 : Hid (w.grownBy w5 none) := hide ((unhide G4).trans g5)
      have B5 : Hid (w3.grownBy w5 none) := hide ((unhide B4).trans g5)
      have M5 := hide ((unhide M4).grown g5)
      have R5 := hide m5
      have c7 := (unhide B5).cell (unhide HC7) (by simp)
      have st1 : ∀ k, (convert 23 9 (.slice (some ⟨g, 0, none⟩) n lcap)).run Try.prog (w5.drewN k) = .ok (.string ⟨bl.toArray⟩) (w5.drewN k) := fun k => ((unhide HSl).kept (grown_drewN' (unhide B5) k)).str
      have st2 : ∀ k, (convert 23 9 (.slice ao n cap)).run Try.prog (w5.drewN k) = .ok (.string ⟨bl.toArray⟩) (w5.drewN k) := fun k => ((unhide HV).kept (grown_drewN' (unhide G5) k)).str
      have st1' := ((unhide HSl).kept (unhide B5)).str
      have st2' := ((unhide HV).kept (unhide G5)).str
      clear g5 m5 M4 hb4 hb5
      go_wp2_with fail
      go_quiet (fail)
      go_wp2_with fail
      refine (asked_ok _ b4 b5 a4 v4 v5 L4 ((unhide M5).drewN _) ((unhide R5).drewN _)).mono ?_
      rintro e w6 ⟨rfl, g6⟩
      have G6 : Hid (w.grownBy w6 none) := hide ((grown_drewN' (unhide G5) _).trans g6)
      clear g6 st1 st2 st1' st2' c7
      go_wp2
      go_ret
      exact ⟨by simp, below_of_grown (unhide G6)⟩

set_option maxRecDepth 100000 in
theorem Reads.lifted (os : Os) (started : os.Started) (H : Type) (enc : TypeId × Value → H) :
    ReturnsInHanded {} Try.checked os 4 .any (Rows.inodeReadsSpec.pre6 enc Try.prog Try.f4 Rows.inodeReadsRow.domain false) (Rows.inodeReadsSpec.post enc Try.prog Try.f4 false true false false) := by
  refine returnsInHanded_of_change_sized (C := Try.checked) own_knob started (by kernel_rfl) Try.func4
    (ChangeSpec.witness6 (enc := enc) (C := Try.checked) false ⟨#[], #[.slice none 0 0], []⟩ 8 (by kernel_rfl) (by kernel_rfl) (by kernel_rfl) (by kernel_rfl)) ?_
  intro W base args ds gs before hval0 hW hcnd hsz0 hholds
  have hval : ∀ (j : Nat) t v, Try.f4.params[j]? = some t → args[j]? = some v → Value.okWide Try.prog W .any base t v := hval0
  have hsz : (DataW.weightsEach Try.prog (Try.f4.params.toList ++ Rows.inodeReadsSpec.plain.varTypes Try.prog) (ds ++ gs)).all (· ≤ reachBytes) = true := hsz0
  have hW' := hW
  obtain ⟨p, q, hA0, hV, rfl, hfz, hnd⟩ := hW
  have hA : DataW.TrodAll enc Try.prog W 0 (fun _ => true) true Try.f4.params.toList args.toList ds p := hA0
  rw [Try.params4] at hA hval hsz
  obtain ⟨v1, d1, rfl, rfl, h1⟩ := trodAll_one hA
  obtain ⟨rfl, rfl⟩ := trodVars_none hV
  have k1 := h1
  have lt1 : ∀ x ∈ p, x.block < W.heap.size := by obtain ⟨m, hm⟩ := k1; exact DataW.trod_lt m _ _ _ hm
  obtain ⟨a1, len1, cap1, rfl⟩ := okWide_slice Try.underlying23 (hval 0 23 v1 rfl rfl)
  obtain ⟨l, hl, hd⟩ := open_bytes h1
  have hlen : l.length ≤ 140737488351232 := by
    rcases hd with ⟨_, rfl⟩ | ⟨es, sp, rfl, h⟩
    · simp
    · have := sized_slice hsz (j := 0) (t := 23) (e := 5) rfl rfl Try.underlying23
      rw [Try.bytes5] at this
      simp only [reachBytes] at this
      omega
  clear hA0 hval0 hsz0
  refine (Reads.walk _ l W hl hlen).mono fun e W' ⟨he, bel⟩ => ?_
  subst he
  exact ⟨_, rfl, _, _, _, [], _, [], hW', trodAll_mk1 (shut_bool Try.underlying4 _), trodAll_mk1 (Below.trod laid_out (by kernel_rfl) (of_decide_eq_true (by kernel_rfl)) k1 bel lt1), rfl, bel.frame _, fun h => by cases h⟩

theorem inodeReads_holds : Rows.InodeReadsSaid :=
  OpenClaim.holds_of_wide 4 Try.f4 rfl rfl rfl rfl rfl rfl rfl ⟨rfl, rfl, rfl, rfl, rfl⟩ rfl rfl rfl rfl rfl (by kernel_rfl) Try.func4 (by kernel_rfl)
    (of_decide_eq_true (by kernel_rfl)) (by unfold Func.isWrapper; first | (rw [if_pos (by decide +kernel)]; kernel_rfl) | (rw [if_neg (by decide +kernel)]; exact ⟨rfl, rfl⟩))
    (fun os started H enc _ => Reads.lifted os started H enc)
#print axioms inodeReads_holds
end Go.Proofs.Ythjcdibblhcgpaa
