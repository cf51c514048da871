/-
  DERIVED. Take.
-/
import Derived.Test.YtmnmciajldoabaaAround
import Derived.Deep.RegionWith
import Derived.Deep.RegionLaw
namespace Go.Proofs.Ytmnmciajldoabaa
open Go.RowKit Go.Shelf
set_option linter.unusedVariables false
attribute [local go_sem] Oper.semAt_some

/-- A statement that is left at its end alone. -/
def onlyN (Q : Exit → Act → World → Prop) : Exit → Act → World → Prop
  | .normal, a, w => Q .normal a w
  | _, _, _ => False
theorem wp_onlyN {n : Nat} {P : Program} {c : Code} {Q : Exit → Act → World → Prop} {a : Act} {w : World} (h : c.wp P (onlyN Q) a w) : c.wpIn Fence.wide n P Q a w :=
  wpIn_mono (wpIn_wide.2 h) fun e a w h => by cases e <;> first | exact h | exact h.elim

set_option maxRecDepth 100000 in
set_option maxHeartbeats 2000000 in
theorem Take_ok (w : World) (b B n : Nat) (U V : Nat → Bool) (h : MapAt w b B U V) (hn : n ≤ total (runsOf B U V)) :
    Calls Try.prog 8 #[.pointer (some ⟨b, 0, none⟩), .int .i64 (n : Int)] w fun e w' => ∃ v, e = .returned (.tuple #[v, .int .i64 0]) ∧ ROwn w' w.heap.size v (cut n (runsOf B U V)) ∧ MapAt w' b B (marks U (cut n (runsOf B U V))) V ∧ w.grownBy w' (some b) := by
  have hB := h.le
  have htot := runsOf_total B U V
  have hn' : (n : Int) ≤ 512 := by omega
  have hn0 : ¬ (n : Int) < 0 := by omega
  refine (callsIn_wide (n := 3)).1 ?_
  refine callsIn_of_wp_marks Try.func8 rfl trivial ?_ rfl
  simp only [Try.ntmps8, List.size_toArray, List.length_cons, List.length_nil, Nat.reduceAdd, Nat.reduceSub, Array.replicate_succ, Array.replicate_zero, List.push_toArray, List.append_toArray, List.nil_append, List.cons_append]
  have HM := hide h
  clear h
  gi_wp2_with fail
  have bM := Boxed.new w 24 (.pointer (some ⟨b, 0, none⟩))
  have bN := Boxed.new (w.alloc (.cells #[.pointer (some ⟨b, 0, none⟩)] 24)) 3 (.int .i64 (n : Int))
  rw [World.size_alloc] at bN
  obtain ⟨W1, hW1⟩ : ∃ W1, W1 = (w.alloc (.cells #[.pointer (some ⟨b, 0, none⟩)] 24)).alloc (.cells #[.int .i64 (n : Int)] 3) := ⟨_, rfl⟩
  have hg1 : w.grownBy W1 none := by rw [hW1]; exact (World.grownBy_alloc _ _ _).trans (World.grownBy_alloc _ _ _)
  have hs1 : W1.heap.size = w.heap.size + 2 := by rw [hW1]; simp
  have bM1 : Boxed W1 w.heap.size 24 (.pointer (some ⟨b, 0, none⟩)) := by rw [hW1]; exact bM.alloc _
  have HM1 := hide ((unhide HM).grown hg1 (by simp))
  rw [← hW1] at bN ⊢
  clear hW1 bM
  have cM := bM1.cell
  have cN := bN.cell
  have HbM := hide bM1
  have HbN := hide bN
  have HG1 := hide hg1
  have HS1 := hide hs1
  clear bM1 bN hg1 hs1
  refine wp_onlyN ?_
  have hgt : decide ((total (runsOf B U V) : Int) < (n : Int)) = false := decide_eq_false (by omega)
  go_region_with (go_at_call 22; refine (Free_any _ b B U V ((unhide HM1).drewN _)).mono ?_; rintro e w2 ⟨rfl, hg2⟩; have c2 : w2.cell? ⟨w.heap.size + 1, 0, none⟩ = some (.int .i64 (n : Int)) := hg2.cell cN (by simp); have c3 : (w2.alloc (.cells #[.slice none 0 0] 28)).cell? ⟨w.heap.size, 0, none⟩ = some (.pointer (some ⟨b, 0, none⟩)) := (World.grownBy_alloc _ _ none).cell (hg2.cell cM (by simp)) (by simp); have HG2 := hide hg2; clear hg2)
  all_goals simp only [onlyN]
  all_goals gi_wp2_with fail
  all_goals refine ⟨trivial, (callsIn_wide.2 (All_any _ _)).mono ?_⟩
  all_goals rintro e w' ⟨rfl, rfl⟩
  all_goals gi_wp2
  all_goals
    have hgw2 : w.grownBy w2 none := (unhide HG1).trans ⟨(unhide HG2).os, (unhide HG2).tape, (unhide HG2).output, (unhide HG2).size, (unhide HG2).block⟩
    have hs2 : w.heap.size + 2 ≤ w2.heap.size := by have := (unhide HG2).size; have := unhide HS1; simp at *; omega
    have HbM2 : Boxed w2 w.heap.size 24 (.pointer (some ⟨b, 0, none⟩)) := ((unhide HG2).block _ (by have := unhide HS1; simp; omega) (by simp)).trans (unhide HbM)
    have HbN2 : Boxed w2 (w.heap.size + 1) 3 (.int .i64 (n : Int)) := ((unhide HG2).block _ (by have := unhide HS1; simp; omega) (by simp)).trans (unhide HbN)
    obtain ⟨Wl, hWl⟩ : ∃ Wl, Wl = (w2.alloc (.cells #[.slice none 0 0] 28)).alloc (.cells #[.pointer (some ⟨b, 0, none⟩)] 24) := ⟨_, rfl⟩
    have hgl : w2.grownBy Wl none := by rw [hWl]; exact (World.grownBy_alloc _ _ _).trans (World.grownBy_alloc _ _ _)
    have hsl : Wl.heap.size = w2.heap.size + 2 := by rw [hWl]; simp
    have bT : Boxed Wl w2.heap.size 28 (.slice none 0 0) := by rw [hWl]; exact (Boxed.new w2 28 _).alloc _
    have bA : Boxed Wl (w2.heap.size + 1) 24 (.pointer (some ⟨b, 0, none⟩)) := by
      rw [hWl]
      have := Boxed.new (w2.alloc (.cells #[.slice none 0 0] 28)) 24 (.pointer (some ⟨b, 0, none⟩))
      rwa [World.size_alloc] at this
    have hbw := (unhide HM).lt
    have hml : MapAt Wl b B U V := (unhide HM).grown (hgw2.trans hgl) (by simp)
    have bNl : Boxed Wl (w.heap.size + 1) 3 (.int .i64 (n : Int)) := HbN2.kept hgl (by simp)
    have bMl : Boxed Wl w.heap.size 24 (.pointer (some ⟨b, 0, none⟩)) := HbM2.kept hgl (by simp)
    rw [← hWl]
    obtain ⟨tb, htb⟩ : ∃ tb, tb = w2.heap.size := ⟨_, rfl⟩
    rw [← htb] at hs2 hsl bT bA ⊢
    have hgwl : w.grownBy Wl none := hgw2.trans hgl
    have hcut0 : cut n [] = [] := rfl
    have hst0 : TSt w b B n w.heap.size (w.heap.size + 1) tb U V [] Wl := ⟨by rw [hcut0]; exact hml, by simpa [total] using bNl, bMl, ⟨_, bT, by rw [hcut0]; exact World.ownsRow_nil _ _ _ _⟩, hgwl.but _, by omega⟩
    clear hgw2 HbM2 HbN2 hWl htb hgl HG1 HG2 HbM HbN HS1 HM1 c2 c3 cM cN bNl bMl
    refine range_boxed (n := 3) (gf := 40) (lb := #[.pointer (some ⟨tb + 1, 0, none⟩)]) rfl (enters_of Try.func40 (by kernel_rfl) rfl)
      (AllIt_stops 2 b B (tb + 1) tb (tb + 1) U V Wl bA.cell bA.lt hml (by omega) (by omega) (fun j => by rintro ⟨len, cap, e⟩; rw [bT.cell] at e; cases e)) (fun _ => rfl)
      (fun pre => TSt w b B n w.heap.size (w.heap.size + 1) tb U V (pre.map cl))
      (fun c pre W => (c = .exit 1 ∧ n ≤ total (pre.map cl)) ∧ TSt w b B n w.heap.size (w.heap.size + 1) tb U V (pre.map cl) W)
      (fun x W0 a' W => (RBox W W0.heap.size (cl x) ∧ (∀ (j : Nat) (C : Array Value) (t : TypeId) (fr : Nat × Nat), W0.heap[j]? = some (Obj.cells C t fr) → W.heap[j]? = W0.heap[j]?)) ∧ (∃ pre, TSt w b B n w.heap.size (w.heap.size + 1) tb U V pre W0) ∧ a' = { tmps := #[.pointer (some ⟨b, 0, none⟩), .int .i64 (n : Int), .pointer (some ⟨w.heap.size, 0, none⟩), .pointer (some ⟨w.heap.size + 1, 0, none⟩), .slice none 0 0, .int .i64 0, .pointer (some ⟨tb, 0, none⟩), .pointer (some ⟨W0.heap.size, 0, none⟩), .bool false, .pointer (some ⟨b, 0, none⟩), .bool false, .bool false, .int .i64 (n : Int), .bool false, .bool false, .bool false, .int .i64 (n : Int), .pointer (some ⟨b, 0, none⟩), .int .i64 (total (runsOf B U V) : Int), .bool false, .pointer (some ⟨b, 0, none⟩), .func (.func 40) #[] #[.pointer (some ⟨tb + 1, 0, none⟩)], rv (cl x), undef, undef, undef, undef, undef, undef, undef, undef, undef, undef, undef, undef, undef, undef, undef, undef, undef, undef, undef], defers := [] })
      (TSt.own w b B n _ _ tb U V _ (by have := hgwl.size; omega))
      (fun c => OwnFrom.and (ownFrom_pure _ _) (TSt.own w b B n _ _ tb U V _ (by have := hgwl.size; omega)))
      (fun x W0 a' s A A' row hs hg hr => by
        obtain ⟨⟨h1, h2⟩, h3⟩ := hs
        have kc : ∀ (j : Nat) (C : Array Value) (t : TypeId) (fr : Nat × Nat), A.heap[j]? = some (Obj.cells C t fr) → A'.heap[j]? = A.heap[j]? := fun j C t fr hj => hg.block j (lt_of_block hj) (fun e => by
          obtain ⟨_, o, ho, hc⟩ := hr j e.symm
          rw [hj] at ho
          cases ho
          cases hc)
        exact ⟨⟨(kc _ _ _ _ h1).trans h1, fun j C t fr hj => (kc j C t fr ((h2 j C t fr hj).trans hj)).trans (h2 j C t fr hj)⟩, h3⟩)
      (fun W0 W l o o' hl ho hc hk => Kp.turn (N := Wl.heap.size) (by omega) W l o o' hl ho hc hk)
      hst0 ?assign ?body ?done ?stop
    case assign =>
      rintro l pre x W K hst hK
      have HK := hide hK
      have HS := hide hst
      have hx := cl_in x
      obtain ⟨y, hy⟩ : ∃ y, y = cl x := ⟨_, rfl⟩
      rw [← hy] at hx HK ⊢
      obtain ⟨y1, y2⟩ := y
      unfold rv at HK ⊢
      simp only at hx HK ⊢
      clear hy hK hst
      gi_wp2
      refine unhide HK _ _ ((KeepsOthers.alloc _ _).from _) ((TSt.own w b B n _ _ tb U V (w.heap.size) (Nat.le_refl _)).alloc (s := pre) _ (unhide HS)) ⟨⟨heap_alloc_new _ _, fun j C t fr hj => Below.heap_alloc _ _ _ (lt_of_block hj)⟩, ⟨_, unhide HS⟩, rfl⟩
    case body =>
      rintro l pre x W0 a' W hst ⟨⟨hbx, hkc⟩, ⟨pre0, hst0'⟩, rfl⟩ hlt
      have hlen := runs_len B U V hB
      have hyin := cl_in x
      obtain ⟨y, hy⟩ : ∃ y, y = cl x := ⟨_, rfl⟩
      obtain ⟨xs, hxs⟩ : ∃ xs, xs = pre.map cl := ⟨_, rfl⟩
      have hxl : xs.length = pre.length := by rw [hxs]; simp
      have hmap : (pre ++ [x]).map cl = xs ++ [y] := by rw [hxs, hy]; simp
      have HMp := hide hmap
      rw [← hy] at hyin hbx ⊢
      rw [← hxs] at hst
      clear hy hxs hmap
      by_cases hful : total xs < n
      · obtain ⟨v, hv1, hv2⟩ := hst.got
        obtain ⟨v0, hv01, hv02⟩ := hst0'.got
        obtain rfl : v0 = v := by
          have h1 := (hkc _ _ _ _ hv01).trans hv01
          have h2 := h1.symm.trans (show W.heap[tb]? = _ from hv1)
          simpa using h2
        have R : TRd w b B n w.heap.size (w.heap.size + 1) tb U V xs y v0 W0 W := ⟨hst, hbx, hkc, hv01, by omega, by omega, by omega, hv1, hv2, fun g hg => by obtain ⟨_, cur, hq⟩ := hv02.row hg; exact lt_of_block hq, hst0'.size, hful, hyin, by omega, by omega, hbw⟩
        have hzin := tz_in R
        have cN := hst.num.cell
        have c0 := hbx.c0
        have c1 := hbx.c1
        have cf := hbx.frozen 1
        have cM := hst.ptr.cell
        have hr1 : ((n - total xs : Nat) : Int) ≤ 512 := by omega
        have hr0 : ((n - total xs : Nat) : Int) ≠ 0 := by omega
        have hy2 : (y.2 : Int) ≤ 512 := by omega
        by_cases hmin : y.2 ≤ n - total xs
        · have ez : tz n xs y = (y.1, y.2) := by simp only [tz]; rw [Nat.min_eq_left hmin]
          have hmi : (y.2 : Int) ≤ ((n - total xs : Nat) : Int) := by omega
          gi_wp2_with fail
          refine ⟨trivial, (CallsIn.inRound l (callsIn_wide.2 (use_any _ b B (y.1, y.2) (marks U (cut n xs)) V (by have := R.set; rw [ez] at this; exact this) (by simp only; omega)))).mono ?_⟩
          rintro e Wu ⟨⟨ve, rfl⟩, hm, hg⟩
          have HU : TUse b B n U V xs y W0 W Wu := ⟨by rw [ez]; exact hm, by rw [ez]; exact hg⟩
          have rb := HU.box R
          rw [ez] at rb
          have d0 := rb.c0
          have d1 := rb.c1
          have tvc := (HU.tv R).cell
          have HO := hide (HU.to R)
          clear hm hg
          have hcl := cut_len xs n
          have HB : Hid (w.heap.size ≤ (Wu.alloc (.cells #[.int .i64 (y.1 : Int), .int .i64 ((y.2 : Nat) : Int)] 36)).heap.size) := hide (by have := R.tlt; have := HU.size R; simp; omega)
          have HL : Hid ((cut n xs).length ≤ 512) := hide (by omega)
          have HC : Hid (∀ j u, ([.int .i64 (y.1 : Int), .int .i64 ((y.2 : Nat) : Int)] : List Value)[j]? = some u → (Wu.alloc (.cells #[.int .i64 (y.1 : Int), .int .i64 ((y.2 : Nat) : Int)] 36)).cell? ((⟨Wu.heap.size, 0, none⟩ : Addr).add j) = some u) := hide (fun j u hj => by
            rw [addr_add, cell_of_row _ _ _ _ _ _ (heap_alloc_new _ _)]
            simpa using hj)
          gi_wp2_with (gi_at_builtin; refine wpListIn_append_run rfl (.tmp 33) (.tmp 35) rfl w.heap.size v0 (cut n xs) rfl (World.ownsRow.alloc (unhide HO) _) (unhide HB) (unhide HL) ⟨Wu.heap.size, 0, none⟩ 1 (y.1, y.2) rfl (unhide HC) ?_; intro v' X ho hgr hbk; have HA : TApp w n xs y v0 v' Wu X := ⟨by rw [ez]; exact ho, by rw [ez]; exact hgr, hbk.imp id (fun ⟨g, h1, h2⟩ => ⟨g, h1, by simp at h2; omega⟩)⟩; obtain ⟨g', cap', rfl⟩ := ownsRow_succ (k := (cut n xs).length) (show X.ownsRow w.heap.size 36 2 v' ((cut n xs).length + 1) _ by have := ho; unfold ROwn at this; rw [List.length_append] at this; exact this); have bt := HA.tv R HU; have bn := HA.num R HU; have hnt : w.heap.size + 1 ≠ tb := box_ne bn bt (by decide); have e1 := bt.cell; have e2 := bt.frozen; have bn' := bn.other hnt (.slice (some ⟨g', 0, none⟩) ((cut n xs).length + 1) cap'); have e3 := bn'.cell; have e4 := bn'.frozen; have rx := HA.box R HU; rw [ez] at rx; have hrt : W0.heap.size ≠ tb := (by have := R.tlt; omega); have rx' : RBox (X.setCell ⟨tb, 0, none⟩ (.slice (some ⟨g', 0, none⟩) ((cut n xs).length + 1) cap')) W0.heap.size (y.1, y.2) := (Below.heap_setCell _ _ _ _ hrt).trans rx; have e5 := rx'.c1; have T := take_round R HU HA (tb + 2) (by omega); simp only [ez] at T; (try rw [Int.sub_self] at T); have HT := hide T; clear T HA ho hgr hbk)
          exact ⟨⟨(unhide HT).2.1, (unhide HT).2.2⟩, by show TSt w b B n w.heap.size (w.heap.size + 1) tb U V ((pre ++ [x]).map cl) _; rw [unhide HMp]; exact (unhide HT).1⟩
        · have ez : tz n xs y = (y.1, n - total xs) := by simp only [tz]; rw [Nat.min_eq_right (by omega)]
          have hmi : ¬ (y.2 : Int) ≤ ((n - total xs : Nat) : Int) := by omega
          gi_wp2_with fail
          refine ⟨trivial, (CallsIn.inRound l (callsIn_wide.2 (use_any _ b B (y.1, n - total xs) (marks U (cut n xs)) V (by have := R.set; rw [ez] at this; exact this) (by simp only; omega)))).mono ?_⟩
          rintro e Wu ⟨⟨ve, rfl⟩, hm, hg⟩
          have HU : TUse b B n U V xs y W0 W Wu := ⟨by rw [ez]; exact hm, by rw [ez]; exact hg⟩
          have rb := HU.box R
          rw [ez] at rb
          have d0 := rb.c0
          have d1 := rb.c1
          have tvc := (HU.tv R).cell
          have HO := hide (HU.to R)
          clear hm hg
          have hcl := cut_len xs n
          have HB : Hid (w.heap.size ≤ (Wu.alloc (.cells #[.int .i64 (y.1 : Int), .int .i64 ((n - total xs : Nat) : Int)] 36)).heap.size) := hide (by have := R.tlt; have := HU.size R; simp; omega)
          have HL : Hid ((cut n xs).length ≤ 512) := hide (by omega)
          have HC : Hid (∀ j u, ([.int .i64 (y.1 : Int), .int .i64 ((n - total xs : Nat) : Int)] : List Value)[j]? = some u → (Wu.alloc (.cells #[.int .i64 (y.1 : Int), .int .i64 ((n - total xs : Nat) : Int)] 36)).cell? ((⟨Wu.heap.size, 0, none⟩ : Addr).add j) = some u) := hide (fun j u hj => by
            rw [addr_add, cell_of_row _ _ _ _ _ _ (heap_alloc_new _ _)]
            simpa using hj)
          gi_wp2_with (gi_at_builtin; refine wpListIn_append_run rfl (.tmp 33) (.tmp 35) rfl w.heap.size v0 (cut n xs) rfl (World.ownsRow.alloc (unhide HO) _) (unhide HB) (unhide HL) ⟨Wu.heap.size, 0, none⟩ 1 (y.1, n - total xs) rfl (unhide HC) ?_; intro v' X ho hgr hbk; have HA : TApp w n xs y v0 v' Wu X := ⟨by rw [ez]; exact ho, by rw [ez]; exact hgr, hbk.imp id (fun ⟨g, h1, h2⟩ => ⟨g, h1, by simp at h2; omega⟩)⟩; obtain ⟨g', cap', rfl⟩ := ownsRow_succ (k := (cut n xs).length) (show X.ownsRow w.heap.size 36 2 v' ((cut n xs).length + 1) _ by have := ho; unfold ROwn at this; rw [List.length_append] at this; exact this); have bt := HA.tv R HU; have bn := HA.num R HU; have hnt : w.heap.size + 1 ≠ tb := box_ne bn bt (by decide); have e1 := bt.cell; have e2 := bt.frozen; have bn' := bn.other hnt (.slice (some ⟨g', 0, none⟩) ((cut n xs).length + 1) cap'); have e3 := bn'.cell; have e4 := bn'.frozen; have rx := HA.box R HU; rw [ez] at rx; have hrt : W0.heap.size ≠ tb := (by have := R.tlt; omega); have rx' : RBox (X.setCell ⟨tb, 0, none⟩ (.slice (some ⟨g', 0, none⟩) ((cut n xs).length + 1) cap')) W0.heap.size (y.1, n - total xs) := (Below.heap_setCell _ _ _ _ hrt).trans rx; have e5 := rx'.c1; have T := take_round R HU HA (tb + 2) (by omega); simp only [ez] at T; (try rw [Int.sub_self] at T); have HT := hide T; clear T HA ho hgr hbk)
          exact ⟨⟨(unhide HT).2.1, (unhide HT).2.2⟩, by show TSt w b B n w.heap.size (w.heap.size + 1) tb U V ((pre ++ [x]).map cl) _; rw [unhide HMp]; exact (unhide HT).1⟩
      · have h0 : n - total xs = 0 := by omega
        have cN := hst.num.cell
        rw [h0] at cN
        have HS := hide (hst.stay (by omega) y)
        have HT : Hid (n ≤ total (xs ++ [y])) := hide (by rw [total_append]; omega)
        clear hst hst0' hkc
        gi_wp2
        exact ⟨KeepsFrom.refl _ _, ⟨rfl, by rw [unhide HMp]; exact unhide HT⟩, by rw [unhide HMp]; exact unhide HS⟩
    case done =>
      rintro D ys W hD rfl hst hK
      rw [cl_map (runsOf_in hB)] at hst
      obtain ⟨v, hv1, hv2⟩ := hst.got
      have c := hv1.cell
      gi_wp2
      refine ⟨by simp, .inl ⟨_, _, rfl, run_takeDeferred hK, ?_⟩⟩
      refine ⟨_, results_tmp2 rfl _ _ _, v, rfl, ownsRow_putObj hv2 _ hK rfl, ?_, ?_⟩
      · refine hst.map.of (World.putObj_heap_other ?_)
        rintro rfl
        have := hst.map.blk.symm.trans hK
        cases this
      · exact hst.grown.andThen (grownBy_putObj' W D _) (fun j e => .inl (by cases e; have := hgwl.size; omega))
    case stop =>
      rintro D c pre W hD hpre ⟨⟨rfl, hful⟩, hst⟩ hK
      have hpin : ∀ x ∈ pre, 1 ≤ x.2 ∧ x.1 + x.2 ≤ 512 := fun x hx => runsOf_in hB x (hpre.subset hx)
      rw [cl_map hpin] at hst hful
      have hcut : cut n pre = cut n (runsOf B U V) := by
        obtain ⟨r, hr⟩ := hpre
        rw [← hr, cut_full pre r n hful]
      obtain ⟨v, hv1, hv2⟩ := hst.got
      have hm := hst.map
      rw [hcut] at hv2 hm
      have c := hv1.cell
      gi_wp2
      refine ⟨by simp, .inl ⟨_, _, rfl, run_takeDeferred hK, ?_⟩⟩
      refine ⟨_, results_tmp2 rfl _ _ _, v, rfl, ownsRow_putObj hv2 _ hK rfl, ?_, ?_⟩
      · refine hm.of (World.putObj_heap_other ?_)
        rintro rfl
        have := hm.blk.symm.trans hK
        cases this
      · exact hst.grown.andThen (grownBy_putObj' W D _) (fun j e => .inl (by cases e; have := hgwl.size; omega))
end Go.Proofs.Ytmnmciajldoabaa
