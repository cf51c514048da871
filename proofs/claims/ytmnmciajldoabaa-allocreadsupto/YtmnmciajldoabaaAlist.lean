/-
  DERIVED. The law's listed: the runs that All gives, left behind so many.
-/
import Derived.Test.YtmnmciajldoabaaAround
import Derived.Deep.RegionLaw
namespace Go.Proofs.Ytmnmciajldoabaa
open Go.RowKit Go.Shelf
set_option linter.unusedVariables false
attribute [local go_sem] Oper.semAt_some

/-- Where listed stands: mb, tb the boxes of most and of the list. -/
structure LSt (w : World) (b B m mb tb : Nat) (U V : Nat → Bool) (xs : List (Nat × Nat)) (W : World) : Prop where
  map : MapAt W b B U V
  num : Boxed W mb 3 (.int .i64 (m : Int))
  got : ∃ v, Boxed W tb 28 v ∧ ROwn W w.heap.size v (xs.take m)
  grown : w.grownBy W none
  size : tb < W.heap.size
theorem LSt.own (w : World) (b B m mb tb : Nat) (U V : Nat → Bool) (N : Nat) (hN : w.heap.size ≤ N) : OwnFrom N (fun pre : List (Nat × Nat) => LSt w b B m mb tb U V (pre.map cl)) := fun s X Y row h hg hr => by
  have cells : ∀ {j : Nat} {C : Array Value} {t : TypeId} {fr : Nat × Nat}, X.heap[j]? = some (.cells C t fr) → Y.heap[j]? = X.heap[j]? := @fun j C t fr hj => hg.block j (lt_of_block hj) (fun e => by
    obtain ⟨_, o, ho, hc⟩ := hr j e.symm
    rw [hj] at ho
    cases ho
    cases hc)
  obtain ⟨v, hv1, hv2⟩ := h.got
  refine ⟨h.map.of (cells h.map.blk), (cells h.num).trans h.num, ⟨v, (cells hv1).trans hv1, hv2.kept hg fun q hq e => ?_⟩, h.grown.andThen hg (fun j e => .inl (by have := (hr j e).1; omega)), Nat.lt_of_lt_of_le h.size hg.size⟩
  obtain ⟨_, cur, hc⟩ := hv2.row hq
  obtain ⟨_, o, ho, hcc⟩ := hr q e.symm
  rw [hc] at ho
  cases ho
  cases hcc
/-- What a round has at its beginning. -/
structure LRd (w : World) (b B m mb tb : Nat) (U V : Nat → Bool) (xs : List (Nat × Nat)) (y : Nat × Nat) (v : Value) (W0 W : World) : Prop where
  st : LSt w b B m mb tb U V xs W
  box : RBox W W0.heap.size y
  kc : ∀ (j : Nat) (C : Array Value) (t : TypeId) (fr : Nat × Nat), W0.heap[j]? = some (Obj.cells C t fr) → W.heap[j]? = W0.heap[j]?
  tv0 : Boxed W0 tb 28 v
  wt : w.heap.size ≤ tb
  tv : Boxed W tb 28 v
  to : ROwn W w.heap.size v (xs.take m)
  low : ∀ g, v.ownBlock = some g → g < W0.heap.size
  tlt : tb < W0.heap.size
  lt : xs.length < m
theorem LSt.stay {w : World} {b B m mb tb : Nat} {U V : Nat → Bool} {xs : List (Nat × Nat)} {W : World} (h : LSt w b B m mb tb U V xs W) (hm : m ≤ xs.length) (y : Nat × Nat) : LSt w b B m mb tb U V (xs ++ [y]) W := by
  have e : (xs ++ [y]).take m = xs.take m := List.take_append_of_le_length hm
  exact ⟨h.map, h.num, by rw [e]; exact h.got, h.grown, h.size⟩
section
variable {w : World} {b B m mb tb : Nat} {U V : Nat → Bool} {xs : List (Nat × Nat)} {y : Nat × Nat} {v : Value} {W0 W : World}
/-- Behind append. -/
structure LApp (w : World) (m : Nat) (xs : List (Nat × Nat)) (y : Nat × Nat) (v v' : Value) (W X : World) : Prop where
  to : ROwn X w.heap.size v' (xs.take m ++ [y])
  grown : (W.alloc (.cells #[.int .i64 (y.1 : Int), .int .i64 (y.2 : Int)] 36)).grownBy X v.ownBlock
  blk : v'.ownBlock = v.ownBlock ∨ ∃ g, v'.ownBlock = some g ∧ W.heap.size ≤ g
theorem LApp.keep {X : World} {v' : Value} (ha : LApp w m xs y v v' W X) {j : Nat} (hj : j < W.heap.size) (hne : v.ownBlock ≠ some j) : X.heap[j]? = W.heap[j]? :=
  (ha.grown.block j (by simp; omega) (fun e => hne e.symm)).trans (Below.heap_alloc _ _ _ hj)
theorem LApp.keepT (h : LRd w b B m mb tb U V xs y v W0 W) {X : World} {v' : Value} (ha : LApp w m xs y v v' W X) {j : Nat} {C : Array Value} {t : TypeId} {fr : Nat × Nat} (hj : W.heap[j]? = some (.cells C t fr)) (ht : t ≠ 36) : X.heap[j]? = W.heap[j]? :=
  ha.keep (lt_of_block hj) (fun e => h.to.ne e hj ht rfl)
theorem LApp.tv (h : LRd w b B m mb tb U V xs y v W0 W) {X : World} {v' : Value} (ha : LApp w m xs y v v' W X) : Boxed X tb 28 v := (ha.keepT h h.tv (by decide)).trans h.tv
theorem list_round (h : LRd w b B m mb tb U V xs y v W0 W) {X : World} {v' : Value} (ha : LApp w m xs y v v' W X) (N : Nat) (hN : tb < N) :
    LSt w b B m mb tb U V (xs ++ [y]) (X.setCell ⟨tb, 0, none⟩ v') ∧ KeepsFrom N W (X.setCell ⟨tb, 0, none⟩ v') ∧ Kp (tb + 1) tb W0 (X.setCell ⟨tb, 0, none⟩ v') := by
  have etake : (xs ++ [y]).take m = xs.take m ++ [y] := by
    rw [List.take_of_length_le (by have := h.lt; omega : xs.length ≤ m), List.take_of_length_le (by have := h.lt; simp; omega)]
  have far : ∀ q, q ≠ tb → (X.setCell ⟨tb, 0, none⟩ v').heap[q]? = X.heap[q]? := fun q h1 => Below.heap_setCell _ _ _ _ h1
  have tb1 : Boxed (X.setCell ⟨tb, 0, none⟩ v') tb 28 v' := (ha.tv h).set v'
  have hmap1 : MapAt X b B U V := h.st.map.of (ha.keepT h h.st.map.blk (by decide))
  have hnum1 : Boxed X mb 3 (.int .i64 (m : Int)) := (ha.keepT h h.st.num (by decide)).trans h.st.num
  have hbt := box_ne hmap1.blk (ha.tv h) (by decide)
  have hmt := box_ne hnum1 (ha.tv h) (by decide)
  have all : ∀ k, k < W.heap.size → v.ownBlock ≠ some k → k ≠ tb → (X.setCell ⟨tb, 0, none⟩ v').heap[k]? = W.heap[k]? := fun k hk h3 h4 => by
    rw [far k h4, ha.keep hk h3]
  have sizes : W.heap.size < X.heap.size := by have := ha.grown.size; simp at this; omega
  have hW0 : W0.heap.size < W.heap.size := h.box.lt
  refine ⟨⟨hmap1.of (far b hbt), (far mb hmt).trans hnum1, ⟨v', tb1, ?_⟩, ?_, ?_⟩, ?_, ?_⟩
  · rw [etake]
    obtain ⟨h1, h2⟩ := ha.to
    refine ⟨h1, ?_⟩
    rcases h2 with h2 | ⟨g, cap, cur, rfl, hb, hg, r⟩
    · exact .inl h2
    · exact .inr ⟨g, cap, cur, rfl, hb, (far g (ha.to.ne rfl (ha.tv h) (by decide))).trans hg, r⟩
  · have hw : w.heap.size ≤ W.heap.size := h.st.grown.size
    refine ⟨ha.grown.os.trans h.st.grown.os, ha.grown.tape.trans h.st.grown.tape, ha.grown.output.trans h.st.grown.output, by simp; omega, fun k hk _ => ?_⟩
    have := h.wt
    rw [all k (by omega) (fun e => by have := (h.to.row e).1; omega) (by omega)]
    exact h.st.grown.block k hk (by simp)
  · simp
    have := h.tlt
    omega
  · refine ⟨by simp; omega, fun k o hk ho hc => ?_⟩
    have nc : ∀ {q : Nat} {C : Array Value} {t : TypeId} {fr : Nat × Nat}, W.heap[q]? = some (Obj.cells C t fr) → k ≠ q := @fun q C t fr hq e => by
      rw [e, hq] at ho
      cases ho
      cases hc
    rw [all k (Array.getElem?_eq_some_iff.1 ho).1 (fun e => by obtain ⟨_, cur, hq⟩ := h.to.row e; exact nc hq rfl) (nc h.tv)]
    exact ho
  · have isv : ∀ {j : Nat} {u : Value} {A : World} {ys : List (Nat × Nat)}, ROwn A w.heap.size u ys → u.ownBlock = some j → ∃ len cap, u = .slice (some ⟨j, 0, none⟩) len cap := @fun j u A ys hu2 hj => by
      rcases hu2.2 with ⟨rfl, _⟩ | ⟨g, cap, cur, rfl, _⟩
      · cases hj
      · cases hj; exact ⟨_, _, rfl⟩
    have toArr : ∀ j, v.ownBlock = some j → arr tb W0 j := fun j hj => by
      obtain ⟨len, cap, e⟩ := isv h.to hj
      exact ⟨len, cap, by rw [h.tv0.cell, e]⟩
    refine ⟨by simp; omega, fun j C t fr hj hc hna => ?_, fun j hj => ?_⟩
    · have hl := lt_of_block hc
      rw [all j (by omega) (fun e => hna (toArr j e)) (by omega)]
      exact h.kc j C t fr hc
    · obtain ⟨len, cap, e⟩ := hj
      rw [tb1.cell] at e
      cases e
      rcases ha.blk with hb | ⟨g, hb, hg⟩
      · exact .inl (toArr j hb.symm)
      · have hgj : j = g := by simpa [Value.ownBlock] using hb
        subst hgj
        refine .inr ⟨by omega, ?_⟩
        obtain ⟨_, cur, hq⟩ := ha.to.row rfl
        have := lt_of_block hq
        simpa using this
end

set_option maxRecDepth 100000 in
set_option maxHeartbeats 2000000 in
theorem listed_any (w : World) (b B m : Nat) (U V : Nat → Bool) (h : MapAt w b B U V) (hm : m ≤ 600) (hm1 : 1 ≤ m) :
    Calls Try.prog 31 #[.pointer (some ⟨b, 0, none⟩), .int .i64 (m : Int)] w fun e w' => ∃ v, e = .returned v ∧ ROwn w' w.heap.size v ((runsOf B U V).take m) ∧ w.grownBy w' none := by
  have hB := h.le
  have hmi : (m : Int) ≤ 600 := by omega
  refine (callsIn_wide (n := 3)).1 ?_
  refine callsIn_of_wp_marks Try.func31 rfl trivial ?_ rfl
  simp only [Try.ntmps31, List.size_toArray, List.length_cons, List.length_nil, Nat.reduceAdd, Nat.reduceSub, Array.replicate_succ, Array.replicate_zero, List.push_toArray, List.append_toArray, List.nil_append, List.cons_append]
  have HM := hide h
  clear h
  gi_wp2_with fail
  refine ⟨trivial, (callsIn_wide.2 (All_any _ _)).mono ?_⟩
  rintro e w' ⟨rfl, rfl⟩
  gi_wp2
  have bM := Boxed.new w 3 (.int .i64 (m : Int))
  have bT := Boxed.new (w.alloc (.cells #[.int .i64 (m : Int)] 3)) 28 (.slice none 0 0)
  have bA := Boxed.new ((w.alloc (.cells #[.int .i64 (m : Int)] 3)).alloc (.cells #[.slice none 0 0] 28)) 24 (.pointer (some ⟨b, 0, none⟩))
  rw [World.size_alloc] at bT
  rw [World.size_alloc, World.size_alloc] at bA
  obtain ⟨Wl, hWl⟩ : ∃ Wl, Wl = ((w.alloc (.cells #[.int .i64 (m : Int)] 3)).alloc (.cells #[.slice none 0 0] 28)).alloc (.cells #[.pointer (some ⟨b, 0, none⟩)] 24) := ⟨_, rfl⟩
  have hgwl : w.grownBy Wl none := by rw [hWl]; exact ((World.grownBy_alloc _ _ _).trans (World.grownBy_alloc _ _ _)).trans (World.grownBy_alloc _ _ _)
  have hsl : Wl.heap.size = w.heap.size + 3 := by rw [hWl]; simp
  have bMl : Boxed Wl w.heap.size 3 (.int .i64 (m : Int)) := by rw [hWl]; exact (bM.alloc _).alloc _
  have bTl : Boxed Wl (w.heap.size + 1) 28 (.slice none 0 0) := by rw [hWl]; exact bT.alloc _
  have hml : MapAt Wl b B U V := (unhide HM).grown hgwl (by simp)
  have hbw := (unhide HM).lt
  rw [← hWl] at bA ⊢
  clear hWl bM bT
  obtain ⟨tb, htb⟩ : ∃ tb, tb = w.heap.size + 1 := ⟨_, rfl⟩
  rw [← htb] at bTl bA ⊢
  have hsl2 : Wl.heap.size = tb + 2 := by omega
  have htw : w.heap.size ≤ tb := by omega
  have htw1 : w.heap.size < tb := by omega
  clear hsl
  have hst0 : LSt w b B m w.heap.size tb U V [] Wl := ⟨hml, bMl, ⟨_, bTl, by simp; exact World.ownsRow_nil _ _ _ _⟩, hgwl, by omega⟩
  clear htb
  refine range_boxed (n := 3) (gf := 40) (lb := #[.pointer (some ⟨tb + 1, 0, none⟩)]) rfl (enters_of Try.func40 (by kernel_rfl) rfl)
    (AllIt_stops 2 b B (tb + 1) tb (tb + 1) U V Wl bA.cell bA.lt hml (by omega) (by omega) (fun j => by rintro ⟨len, cap, e⟩; rw [bTl.cell] at e; cases e)) (fun _ => rfl)
    (fun pre => LSt w b B m w.heap.size tb U V (pre.map cl))
    (fun c pre W => (c = .exit 0 ∧ m ≤ (pre.map cl).length) ∧ LSt w b B m w.heap.size tb U V (pre.map cl) W)
    (fun x W0 a' W => (RBox W W0.heap.size (cl x) ∧ (∀ (j : Nat) (C : Array Value) (t : TypeId) (fr : Nat × Nat), W0.heap[j]? = some (Obj.cells C t fr) → W.heap[j]? = W0.heap[j]?)) ∧ (∃ pre, LSt w b B m w.heap.size tb U V pre W0) ∧ a' = { tmps := #[.pointer (some ⟨b, 0, none⟩), .int .i64 (m : Int), undef, .pointer (some ⟨w.heap.size, 0, none⟩), .slice none 0 0, .pointer (some ⟨tb, 0, none⟩), .pointer (some ⟨W0.heap.size, 0, none⟩), .pointer (some ⟨b, 0, none⟩), .func (.func 40) #[] #[.pointer (some ⟨tb + 1, 0, none⟩)], rv (cl x), undef, undef, undef, undef, undef, undef, undef, undef, undef], defers := [] })
    (LSt.own w b B m _ tb U V _ (by have := hgwl.size; omega))
    (fun c => OwnFrom.and (ownFrom_pure _ _) (LSt.own w b B m _ tb U V _ (by have := hgwl.size; omega)))
    (fun x W0 a' s A A' row hs hg hr => by
      obtain ⟨⟨h1, h2⟩, h3⟩ := hs
      have kc : ∀ (j : Nat) (C : Array Value) (t : TypeId) (fr : Nat × Nat), A.heap[j]? = some (Obj.cells C t fr) → A'.heap[j]? = A.heap[j]? := fun j C t fr hj => hg.block j (lt_of_block hj) (fun e => by
        obtain ⟨_, o, ho, hc⟩ := hr j e.symm
        rw [hj] at ho
        cases ho
        cases hc)
      exact ⟨⟨(kc _ _ _ _ h1).trans h1, fun j C t fr hj => (kc j C t fr ((h2 j C t fr hj).trans hj)).trans (h2 j C t fr hj)⟩, h3⟩)
    (fun W0 W l o o' hl ho hc hk => Kp.turn (N := Wl.heap.size) (by omega) W l o o' hl ho hc hk)
    hst0 ?assign ?body ?done ?stop
  case assign =>
    rintro l pre x W K hst hK
    have HK := hide hK
    have HS := hide hst
    have hx := cl_in x
    obtain ⟨y, hy⟩ : ∃ y, y = cl x := ⟨_, rfl⟩
    rw [← hy] at hx HK ⊢
    obtain ⟨y1, y2⟩ := y
    unfold rv at HK ⊢
    simp only at hx HK ⊢
    clear hy hK hst
    gi_wp2
    refine unhide HK _ _ ((KeepsOthers.alloc _ _).from _) ((LSt.own w b B m _ tb U V (w.heap.size) (Nat.le_refl _)).alloc (s := pre) _ (unhide HS)) ⟨⟨heap_alloc_new _ _, fun j C t fr hj => Below.heap_alloc _ _ _ (lt_of_block hj)⟩, ⟨_, unhide HS⟩, rfl⟩
  case body =>
    rintro l pre x W0 a' W hst ⟨⟨hbx, hkc⟩, ⟨pre0, hst0'⟩, rfl⟩ hlt
    have hlen := runs_len B U V hB
    obtain ⟨y, hy⟩ : ∃ y, y = cl x := ⟨_, rfl⟩
    obtain ⟨xs, hxs⟩ : ∃ xs, xs = pre.map cl := ⟨_, rfl⟩
    have hxl : xs.length = pre.length := by rw [hxs]; simp
    have hmap : (pre ++ [x]).map cl = xs ++ [y] := by rw [hxs, hy]; simp
    have HMp := hide hmap
    rw [← hy] at hbx ⊢
    rw [← hxs] at hst
    clear hy hxs hmap
    obtain ⟨v, hv1, hv2⟩ := hst.got
    obtain ⟨v0, hv01, hv02⟩ := hst0'.got
    obtain rfl : v0 = v := by
      have h1 := (hkc _ _ _ _ hv01).trans hv01
      have h2 := h1.symm.trans (show W.heap[tb]? = _ from hv1)
      simpa using h2
    have cN := hst.num.cell
    have cT := hv1.cell
    have hll : (xs.take m).length = min m xs.length := List.length_take
    by_cases hful : xs.length < m
    · have R : LRd w b B m w.heap.size tb U V xs y v0 W0 W := ⟨hst, hbx, hkc, hv01, by omega, hv1, hv2, fun g hg => by obtain ⟨_, cur, hq⟩ := hv02.row hg; exact lt_of_block hq, hst0'.size, hful⟩
      have c0 := hbx.c0
      have c1 := hbx.c1
      have vform : ∃ ao cap, v0 = .slice ao (xs.take m).length cap := by
        rcases hv2.2 with ⟨rfl, h0⟩ | ⟨g, cap, cur, rfl, _⟩
        · exact ⟨none, 0, by rw [h0]⟩
        · exact ⟨_, _, rfl⟩
      obtain ⟨vo, vcap, hvf⟩ := vform
      obtain ⟨nl, hnl⟩ : ∃ nl, nl = (xs.take m).length := ⟨_, rfl⟩
      rw [← hnl] at hvf hll
      subst hvf
      have hge : ¬ ((m : Int) ≤ (nl : Int)) := by omega
      have hni : (nl : Int) ≤ 600 := by omega
      have HO := hide hv2
      have HL : Hid ((xs.take m).length ≤ 512) := hide (by rw [← hnl]; omega)
      have HB : Hid (w.heap.size ≤ (W.alloc (.cells #[.int .i64 (y.1 : Int), .int .i64 (y.2 : Int)] 36)).heap.size) := hide (by have := hst.grown.size; simp; omega)
      have HC : Hid (∀ j u, ([.int .i64 (y.1 : Int), .int .i64 (y.2 : Int)] : List Value)[j]? = some u → (W.alloc (.cells #[.int .i64 (y.1 : Int), .int .i64 (y.2 : Int)] 36)).cell? ((⟨W.heap.size, 0, none⟩ : Addr).add j) = some u) := hide (fun j u hj => by
        rw [addr_add, cell_of_row _ _ _ _ _ _ (heap_alloc_new _ _)]
        simpa using hj)
      have HR := hide R
      clear R hv2 hv1 hv01 hv02 hst hst0' hnl hll hxl
      gi_wp2_with (gi_at_builtin; refine wpListIn_append_run rfl (.tmp 14) (.tmp 16) rfl w.heap.size (.slice vo nl vcap) (xs.take m) rfl (World.ownsRow.alloc (unhide HO) _) (unhide HB) (unhide HL) ⟨W.heap.size, 0, none⟩ 1 (y.1, y.2) rfl (unhide HC) ?_; intro v' X ho hgr hbk; have HA : LApp w m xs y (.slice vo nl vcap) v' W X := ⟨ho, hgr, hbk.imp id (fun ⟨g, h1, h2⟩ => ⟨g, h1, by simp at h2; omega⟩)⟩; obtain ⟨g', cap', hv'⟩ := ownsRow_succ (k := (xs.take m).length) (show X.ownsRow w.heap.size 36 2 v' ((xs.take m).length + 1) _ by have := ho; unfold ROwn at this; rw [List.length_append] at this; exact this); obtain ⟨n', hn'⟩ : ∃ n', v' = .slice (some ⟨g', 0, none⟩) n' cap' := ⟨_, hv'⟩; clear hv'; subst hn'; have bt := HA.tv (unhide HR); have e1 := bt.cell; have e2 := bt.frozen; have T := list_round (unhide HR) HA (tb + 2) (by omega); have HT := hide T; clear T HA ho hgr hbk)
      exact ⟨⟨by first | exact (unhide HT).2.1 | (rw [hsl2]; exact (unhide HT).2.1), (unhide HT).2.2⟩, by show LSt w b B m w.heap.size tb U V ((pre ++ [x]).map cl) _; rw [unhide HMp]; exact (unhide HT).1⟩
    · have vform : ∃ ao cap, v0 = .slice ao (xs.take m).length cap := by
        rcases hv2.2 with ⟨rfl, h0⟩ | ⟨g, cap, cur, rfl, _⟩
        · exact ⟨none, 0, by rw [h0]⟩
        · exact ⟨_, _, rfl⟩
      obtain ⟨vo, vcap, hvf⟩ := vform
      have hnl : (xs.take m).length = m := by omega
      rw [hnl] at hvf
      subst hvf
      have hge : ((m : Int) ≤ (m : Int)) := by omega
      have HS := hide (hst.stay (by omega) y)
      have HT : Hid (m ≤ (xs ++ [y]).length) := hide (by simp; omega)
      clear hst hst0' hkc hv2 hv1 hv01 hv02 hnl hll hxl
      gi_wp2
      exact ⟨KeepsFrom.refl _ _, ⟨rfl, by rw [unhide HMp]; exact unhide HT⟩, by rw [unhide HMp]; exact unhide HS⟩
  case done =>
    rintro D ys W hD rfl hst hK
    rw [cl_map (runsOf_in hB)] at hst
    obtain ⟨v, hv1, hv2⟩ := hst.got
    have c := hv1.cell
    gi_wp2
    refine ⟨by simp, .inl ⟨_, _, rfl, run_takeDeferred hK, ?_⟩⟩
    refine ⟨_, results_tmp rfl _ _ _, v, rfl, ownsRow_putObj hv2 _ hK rfl, ?_⟩
    exact hst.grown.andThen (grownBy_putObj' W D _) (fun j e => .inl (by cases e; have := hgwl.size; omega))
  case stop =>
    rintro D c pre W hD hpre ⟨⟨rfl, hful⟩, hst⟩ hK
    have hpin : ∀ x ∈ pre, 1 ≤ x.2 ∧ x.1 + x.2 ≤ 512 := fun x hx => runsOf_in hB x (hpre.subset hx)
    rw [cl_map hpin] at hst hful
    have hcut : pre.take m = (runsOf B U V).take m := by
      obtain ⟨r, hr⟩ := hpre
      rw [← hr, List.take_append_of_le_length hful]
    obtain ⟨v, hv1, hv2⟩ := hst.got
    rw [hcut] at hv2
    have c := hv1.cell
    gi_wp2
    refine ⟨by simp, .inl ⟨_, _, rfl, run_takeDeferred hK, ?_⟩⟩
    refine ⟨_, results_tmp rfl _ _ _, v, rfl, ownsRow_putObj hv2 _ hK rfl, ?_⟩
    exact hst.grown.andThen (grownBy_putObj' W D _) (fun j e => .inl (by cases e; have := hgwl.size; omega))
end Go.Proofs.Ytmnmciajldoabaa
