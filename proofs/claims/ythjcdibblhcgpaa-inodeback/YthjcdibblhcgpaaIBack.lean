/-
  InodeBack: for every slice of calls and all bytes it returns true, and its arguments read as before.
-/
import Derived.Test.YthjcdibblhcgpaaM2
import Derived.OpenShut
namespace Go.Proofs.Ythjcdibblhcgpaa
open Go.ChangeShapes Go.WideShapes Go.ChangeAt Go.RowKit
set_option linter.unusedVariables false

theorem own_empty (w : World) : Own (w.alloc (.cells #[] 5)) w.heap.size (.slice (some ⟨w.heap.size, 0, none⟩) 0 0) [] := ⟨rfl, .inr ⟨w.heap.size, 0, #[], rfl, Nat.le_refl _, heap_alloc_new _ _, by simp, by unfold maxLen; omega, by simp, by simp⟩⟩

set_option maxRecDepth 100000 in
set_option maxHeartbeats 16000000 in
theorem Back.walk (vs vt : Value) (cs : List ICl) (tl : List UInt8) (w : World) (hs : IClL w vs cs) (ht : Sl w vt tl) (htl : tl.length ≤ 140737488351232) :
    Calls Try.prog 3 #[vs, vt] w fun e w' => e = .returned (.bool true) ∧ Below w.heap.size w w' := by
  have HS := hide hs
  have HT := hide ht
  obtain ⟨so, scap, rfl, hs1, _⟩ := hs
  obtain ⟨ns, hns⟩ : ∃ n, n = cs.length := ⟨_, rfl⟩
  rw [← hns] at hs1 HS ⊢
  have HNs := hide hns
  have hsi : (ns : Int) ≤ 9223372036854775807 := by omega
  clear ht hns
  go_enter Try.func3, Try.ntmps3
  go_wp2_with fail
  refine (awake_ok _).mono ?_
  rintro e w1 ⟨rfl, g1⟩
  have G1 := hide g1
  clear g1
  go_wp2_with fail
  refine (New_any w1).mono ?_
  rintro e w2 ⟨rfl, m2, g2⟩
  have HB : Hid (w.heap.size ≤ w1.heap.size) := hide (unhide G1).size
  obtain ⟨b, hb⟩ : ∃ b, b = w1.heap.size := ⟨_, rfl⟩
  rw [← hb] at m2 HB ⊢
  have M2 := hide m2
  have G2 : Hid (w.grownBy w2 none) := hide ((unhide G1).trans g2)
  clear hb m2 g2 G1
  go_wp2
  go_loopw [7] (fun i wr => ∃ (k n : Nat) (vn : Value) (L : List Nat), i = .int .i64 (k : Int) ∧ k ≤ 40 ∧ NdAt wr b n vn L ∧ w.grownBy wr none) (fun i _ => 40 - (intOf i).toNat)
  case atStart => exact ⟨0, 0, _, [], rfl, by omega, unhide M2, unhide G2⟩
  case round =>
    obtain ⟨k, n, vn, L, rfl, hk, hm, hg⟩ := hrel
    have HM := hide hm
    have HG := hide hg
    have hn := hm.le
    have hnI : (n : Int) ≤ 32768 := by omega
    clear hm hg M2 G2
    by_cases hlt : k < ns ∧ k < 40
    · have hl1 : (k : Int) < (ns : Int) := by omega
      have hl2 : (k : Int) < 40 := by omega
      have hkl : k < cs.length := by rw [← unhide HNs]; exact hlt.1
      obtain ⟨pb, off, rfl, hat0⟩ := (unhide HS).at hkl
      have hat := hat0.kept (unhide HG)
      have c1 := hat.c1
      have c0 := hat.c0
      have i0 := hat.i0
      have i1 := hat.i1
      have HA := hide hat
      clear hlt hat hat0
      go_wp2_with fail
      refine (Pick_any _ 2000 wr i1.1 i1.2 (by omega) (by omega)).mono ?_
      rintro e wr' ⟨m, rfl, hm, rfl⟩
      clear c1
      by_cases hnm : n + m ≤ 32768
      · go_wp2_with fail
        refine (Need_ok wr b n vn L (unhide HM) m hnm).mono ?_
        rintro e wr' ⟨rfl, rfl⟩
        have hd5 : bf (n + m) - bf n ≤ 4 := by unfold bf; omega
        obtain ⟨d, hd⟩ : ∃ d, d = bf (n + m) - bf n := ⟨_, rfl⟩
        rw [← hd] at hd5 ⊢
        have HD := hide hd
        clear hd
        by_cases hd0 : (0 : Int) < (d : Int)
        · go_wp2_with fail
          refine (Pick_any _ 500 wr' i0.1 i0.2 (by omega) (by omega)).mono ?_
          rintro e wr2 ⟨fr, rfl, hfr, rfl⟩
          go_wp2_with fail
          refine (Extend_ok (wr'.alloc (.cells #[.int .i64 (fr : Int), .int .i64 (d : Int)] 36)) b n m vn _ L [(fr, d)] ((unhide HM).grown (World.grownBy_alloc _ _ _)) hnm ((ROwn.one wr' fr d).rn (fun x hx => by simp at hx; subst hx; simp only; omega)) (fun y hy => by simp at hy; subst hy; simp only; omega) (by rw [tot_cons, tot_nil]; exact unhide HD)).mono ?_
          rintro e w3 ⟨rfl, v3, m3, _, g3⟩
          have M3 := hide m3
          have G3 := hide (own_step ((unhide HG).trans (World.grownBy_alloc _ _ _)) (unhide HB) g3)
          clear m3 g3 HM HG c0 HA
          go_wp2
          go_roundw
          case rel => exact ⟨k + 1, n + m, v3, _, rfl, by omega, unhide M3, unhide G3⟩
          case measure => simp [intOf]; omega
        · go_wp2
          go_roundw
          case rel => exact ⟨k + 1, n, vn, L, rfl, by omega, unhide HM, unhide HG⟩
          case measure => simp [intOf]; omega
      · go_wp2_with fail
        refine (Need_far wr b n vn L (unhide HM) m (by omega) (by omega) (by omega)).mono ?_
        rintro e wr' ⟨rfl, rfl⟩
        go_wp2
        go_roundw
        case rel => exact ⟨k + 1, n, vn, L, rfl, by omega, unhide HM, unhide HG⟩
        case measure => simp [intOf]; omega
    · have hout : ¬ ((k : Int) < (ns : Int) ∧ (k : Int) < 40) := by omega
      have HLL : Hid (∀ K : Prop, ((¬ (k : Int) < (ns : Int)) → K) → (((k : Int) < (ns : Int) ∧ ¬ (k : Int) < 40) → K) → K) := hide (fun K h1 h2 => by
        by_cases e : (k : Int) < (ns : Int)
        · exact h2 ⟨e, fun h => hout ⟨e, h⟩⟩
        · exact h1 e)
      clear hlt hout
      refine unhide HLL _ ?_ ?_
      all_goals intro hx
      all_goals try obtain ⟨hx1, hx2⟩ := hx
      all_goals go_wp2_with fail
      all_goals refine (Bytes_any wr b n vn L (unhide HM)).mono ?_
      all_goals rintro e w3 ⟨u3, rfl, o3, g3⟩
      all_goals
        have M3 := hide ((unhide HM).grown g3)
        have G3 : Hid (w.grownBy w3 none) := hide ((unhide HG).trans g3)
        have O3 := hide o3
        have hTl := tellN_len (n := n) (unhide HM).small.2
        obtain ⟨co, ccap, hu3, _, _, _⟩ := o3.sl
        subst hu3
        have hTI : ((tellN n L).length : Int) ≤ 1400 := by omega
        clear o3 g3 HM HG
      all_goals go_wp2_with (at_builtin; refine wpList_append_mine rfl (.tmp 73) (.tmp 74) rfl w3.heap.size _ [] rfl (own_empty w3) _ (tellN n L) rfl ((unhide O3).sl.alloc _) (by simp; omega) (by simp) ?_)
      all_goals intro v4 w4 o4 b4
      all_goals
        have O4 : Hid (Own w4 w3.heap.size v4 (tellN n L)) := hide o4
        have B4 : Hid (Below w3.heap.size w3 w4) := hide (((Below.refl w3.heap.size w3).alloc (Nat.le_refl _) _).trans b4)
        have T4 := hide (((unhide HT).kept (unhide G3)).below (unhide B4) (Nat.le_refl _))
        clear o4 b4
      all_goals go_wp2_with (at_builtin; refine wpList_append_mine rfl (.tmp 75) (.tmp 76) rfl w3.heap.size _ (tellN n L) rfl (unhide O4) _ tl rfl (unhide T4) (by omega) (unhide B4).size ?_)
      all_goals intro v5 w5 o5 b5
      all_goals
        have S5 := hide o5.sl
        have B5 : Hid (w3.grownBy w5 none) := hide (grown_of_below ((unhide B4).trans b5))
        have M5 := hide ((unhide M3).grown (unhide B5))
        have G5 : Hid (w.grownBy w5 none) := hide ((unhide G3).trans (unhide B5))
        clear o5 b5 O4 B4 T4 B5 M3 G3
      all_goals go_wp2_with fail
      all_goals refine (Read_any w5 v5 _ (unhide S5)).mono ?_
      all_goals rintro e w6 ⟨g6, h6⟩
      all_goals
        have m5 := unhide M5
        rw [rdN_tell n L tl m5.le m5.len m5.lw] at h6
        rcases h6 with ⟨h6, _⟩ | ⟨a6, L6, n6, c, vc, h6, rfl, hc, m6⟩
      all_goals try (cases h6; done)
      all_goals
        simp only [Option.some.injEq, Prod.mk.injEq] at h6
        obtain ⟨rfl, rfl, rfl⟩ := h6
        have C6 := hide m6
        have M6 := hide ((unhide M5).grown g6)
        have G6 : Hid (w.grownBy w6 none) := hide ((unhide G5).trans g6)
        clear m6 g6 m5 M5 G5 hc S5
      all_goals go_wp2_with fail
      all_goals refine (Size_any w6 c n vc L (unhide C6)).mono ?_
      all_goals rintro e w7 ⟨rfl, rfl⟩
      all_goals go_wp2_with fail
      all_goals refine (Size_any w7 b n vn L (unhide M6)).mono ?_
      all_goals rintro e w7' ⟨rfl, rfl⟩
      all_goals go_wp2_with fail
      all_goals refine (Blocks_any w7' c n vc L (unhide C6)).mono ?_
      all_goals rintro e w7 ⟨rfl, rfl⟩
      all_goals go_wp2_with fail
      all_goals refine (Blocks_any w7 b n vn L (unhide M6)).mono ?_
      all_goals rintro e w7' ⟨rfl, rfl⟩
      all_goals go_wp2
      all_goals
        go_loopw [15] (fun i wr => ∃ j : Nat, i = .int .i64 (j : Int) ∧ j ≤ n + 100 ∧ wr = w7') (fun i _ => n + 100 - (intOf i).toNat)
        case atStart => exact ⟨0, rfl, by omega, rfl⟩
        case round =>
          obtain ⟨j, rfl, hj, rfl⟩ := hrel
          have hjI : (j : Int) ≤ 32868 := by omega
          by_cases hjn : j < n
          · have hjn' : (j : Int) < (n : Int) := by omega
            go_wp2_with fail
            refine (Size_any _ b n vn L (unhide M6)).mono ?_
            rintro e wx ⟨rfl, rfl⟩
            go_wp2_with fail
            refine (At_ok _ b n vn L (unhide M6) j hjn).mono ?_
            rintro e wx ⟨c1, rfl, hc1, rfl⟩
            go_wp2_with fail
            refine (At_ok _ c n vc L (unhide C6) j hjn).mono ?_
            rintro e wx ⟨c2, rfl, hc2, rfl⟩
            have hcc : c1 = c2 := by rw [hc1] at hc2; exact Option.some.inj hc2
            subst hcc
            clear hc1 hc2
            go_wp2
            go_roundw
            case rel => exact ⟨j + 100, rfl, by omega, by first | rfl | trivial⟩
            case measure => simp [intOf]; omega
          · have hjn' : ¬ (j : Int) < (n : Int) := by omega
            go_wp2_with fail
            refine (Size_any _ b n vn L (unhide M6)).mono ?_
            rintro e wx ⟨rfl, rfl⟩
            go_wp2
            go_ret
            exact ⟨rfl, below_of_grown (unhide G6)⟩

set_option maxRecDepth 100000 in
theorem Back.lifted (os : Os) (started : os.Started) (H : Type) (enc : TypeId × Value → H) :
    ReturnsInHanded {} Try.checked os 3 .any (Rows.inodeBackSpec.pre6 enc Try.prog Try.f3 Rows.inodeBackRow.domain false) (Rows.inodeBackSpec.post enc Try.prog Try.f3 false true false false) := by
  refine returnsInHanded_of_change_sized (C := Try.checked) own_knob started (by kernel_rfl) Try.func3
    (ChangeSpec.witness6 (enc := enc) (C := Try.checked) false ⟨#[], #[.slice none 0 0, .slice none 0 0], []⟩ 8 (by kernel_rfl) (by kernel_rfl) (by kernel_rfl) (by kernel_rfl)) ?_
  intro W base args ds gs before hval0 hW hcnd hsz0 hholds
  have hval : ∀ (j : Nat) t v, Try.f3.params[j]? = some t → args[j]? = some v → Value.okWide Try.prog W .any base t v := hval0
  have hsz : (DataW.weightsEach Try.prog (Try.f3.params.toList ++ Rows.inodeBackSpec.plain.varTypes Try.prog) (ds ++ gs)).all (· ≤ reachBytes) = true := hsz0
  have hW' := hW
  obtain ⟨p, q, hA0, hV, rfl, hfz, hnd⟩ := hW
  have hA : DataW.TrodAll enc Try.prog W 0 (fun _ => true) true Try.f3.params.toList args.toList ds p := hA0
  rw [Try.params3] at hA hval hsz
  obtain ⟨v0, v1, d0, d1, p0, p1, rfl, rfl, rfl, h0, h1⟩ := trodAll_two hA
  obtain ⟨rfl, rfl⟩ := trodVars_none hV
  have k0 := h0
  have lt0 : ∀ x ∈ p0, x.block < W.heap.size := by obtain ⟨m, hm⟩ := k0; exact DataW.trod_lt m _ _ _ hm
  have k1 := h1
  have lt1 : ∀ x ∈ p1, x.block < W.heap.size := by obtain ⟨m, hm⟩ := k1; exact DataW.trod_lt m _ _ _ hm
  obtain ⟨a0, len0, cap0, rfl⟩ := okWide_slice Try.underlying22 (hval 0 22 v0 rfl rfl)
  obtain ⟨a1, len1, cap1, rfl⟩ := okWide_slice Try.underlying23 (hval 1 23 v1 rfl rfl)
  obtain ⟨l0, hl0⟩ := open_icalls h0
  obtain ⟨l, hl, hd⟩ := open_bytes h1
  have hlen : l.length ≤ 140737488351232 := by
    rcases hd with ⟨_, rfl⟩ | ⟨es, sp, rfl, h⟩
    · simp
    · have := sized_slice hsz (j := 1) (t := 23) (e := 5) rfl rfl Try.underlying23
      rw [Try.bytes5] at this
      simp only [reachBytes] at this
      omega
  clear hA0 hval0 hsz0
  refine (Back.walk _ _ l0 l W hl0 hl hlen).mono fun e W' ⟨he, bel⟩ => ?_
  subst he
  exact ⟨_, rfl, _, _, _, [], _, [], hW', trodAll_mk1 (shut_bool Try.underlying4 _), (trodAll_cons_mk (Below.trod laid_out (by kernel_rfl) (of_decide_eq_true (by kernel_rfl)) k0 bel lt0) (trodAll_cons_mk (Below.trod laid_out (by kernel_rfl) (of_decide_eq_true (by kernel_rfl)) k1 bel lt1) trodAll_mk0)), rfl, bel.frame _, fun h => by cases h⟩

theorem inodeBack_holds : Rows.InodeBackSaid :=
  OpenClaim.holds_of_wide 3 Try.f3 rfl rfl rfl rfl rfl rfl rfl ⟨rfl, rfl, rfl, rfl, rfl⟩ rfl rfl rfl rfl rfl (by kernel_rfl) Try.func3 (by kernel_rfl)
    (of_decide_eq_true (by kernel_rfl)) (by unfold Func.isWrapper; first | (rw [if_pos (by decide +kernel)]; kernel_rfl) | (rw [if_neg (by decide +kernel)]; exact ⟨rfl, rfl⟩))
    (fun os started H enc _ => Back.lifted os started H enc)
#print axioms inodeBack_holds
end Go.Proofs.Ythjcdibblhcgpaa
