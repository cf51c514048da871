/-
  BcachePlays: for every int and every slice of calls it returns true, and its arguments read as before. Conditions: none.
-/
import Derived.Test.YtmhlfbgchhmffaaCawake
import Derived.Test.YtmhlfbgchhmffaaCdo3
import Derived.Test.YtmhlfbgchhmffaaCopen
namespace Go.Proofs.Ytmhlfbgchhmffaa
open Go.ChangeShapes Go.WideShapes Go.ChangeAt Go.RowKit
set_option linter.unusedVariables false

/-- A call, as it reads. -/
structure CCl where
  kind : Int
  k : Int
  v : Int
  d : Bool
instance : Inhabited CCl := ⟨⟨0, 0, 0, false⟩⟩
theorem Try.cellsCCall : Try.prog.cellsOf 33 = 4 := by kernel_rfl
theorem Try.cellsBool : Try.prog.cellsOf 4 = 1 := by kernel_rfl
theorem Try.underCCall : ∃ f0 f1 f2 f3, Try.prog.underlying 33 = some (.struct #[f0, f1, f2, f3]) ∧ (f0.offset = 0 ∧ f1.offset = 1 ∧ f2.offset = 2 ∧ f3.offset = 3) ∧ f0.type = 3 ∧ f1.type = 3 ∧ f2.type = 3 ∧ f3.type = 4 := ⟨_, _, _, _, Try.underlying33, ⟨rfl, rfl, rfl, rfl⟩, rfl, rfl, rfl, rfl⟩
structure CClAt (w : World) (b o : Nat) (c : CCl) : Prop where
  c0 : w.cell? ⟨b, o, none⟩ = some (.int .i64 c.kind)
  c1 : w.cell? ⟨b, o + 1, none⟩ = some (.int .i64 c.k)
  c2 : w.cell? ⟨b, o + 2, none⟩ = some (.int .i64 c.v)
  c3 : w.cell? ⟨b, o + 3, none⟩ = some (.bool c.d)
  i1 : I64 c.k
/-- A slice of calls. -/
def CClL (w : World) (v : Value) (l : List CCl) : Prop :=
  ∃ ao cap, v = .slice ao l.length cap ∧ l.length ≤ 9223372036854775807 ∧ (0 < l.length → ∃ b off, ao = some ⟨b, off, none⟩ ∧ b < w.heap.size ∧ ∀ i, (h : i < l.length) → CClAt w b (off + i * 4) l[i])
theorem CClAt.below {w w' : World} {b o : Nat} {c : CCl} (h : CClAt w b o c) (hb : b < w.heap.size) (hg : Below w.heap.size w w') : CClAt w' b o c :=
  ⟨(hg.cell (p := ⟨b, o, none⟩) hb).trans h.c0, (hg.cell (p := ⟨b, o + 1, none⟩) hb).trans h.c1, (hg.cell (p := ⟨b, o + 2, none⟩) hb).trans h.c2, (hg.cell (p := ⟨b, o + 3, none⟩) hb).trans h.c3, h.i1⟩
theorem CClL.at {w w' : World} {ao : Option Addr} {n cap : Nat} {l : List CCl} (h : CClL w (.slice ao n cap) l) (hg : Below w.heap.size w w') {i : Nat} (hi : i < l.length) : ∃ b off, ao = some ⟨b, off, none⟩ ∧ CClAt w' b (off + i * 4) l[i] := by
  obtain ⟨ao', cap', e, _, h4⟩ := h
  cases e
  obtain ⟨b, off, e2, hb, h5⟩ := h4 (by omega)
  exact ⟨b, off, e2, (h5 i hi).below hb hg⟩

set_option maxRecDepth 100000 in
theorem open_ccalls {H : Type} {enc : TypeId × Value → H} {W : World} {a : Option Addr} {n c : Nat} {d : DataW H} {p : List MemPlace}
    (h : DataW.Trod enc Try.prog W 0 (fun _ => true) true 22 (.slice a n c) d p) : ∃ l : List CCl, CClL W (.slice a n c) l := by
  obtain ⟨fuel, hf⟩ := h
  obtain ⟨f0, f1, f2, f3, hu, ⟨o0, o1, o2, o3⟩, t0, t1, t2, t3⟩ := Try.underCCall
  rcases Go.Deep.open_slice Try.underlying22 hf with ⟨hcs, hx⟩ | ⟨x, n', cap, m, k, D, Pl, hcs, _, hl, hm, hz, hx, hcell⟩
  · simp [Value.cells] at hcs
    obtain ⟨rfl, rfl, rfl⟩ := hcs
    exact ⟨[], none, 0, rfl, by simp, fun h => by simp at h⟩
  · simp [Value.cells] at hcs
    obtain ⟨rfl, rfl, rfl⟩ := hcs
    rw [if_pos rfl] at hz
    subst hz
    unfold maxLen at hm
    have hel : ∀ i, i < n → ∃ e : CCl, I64 e.k ∧ W.cell? (x.add (i * 4)) = some (.int .i64 e.kind) ∧ W.cell? (x.add (i * 4 + 1)) = some (.int .i64 e.k) ∧ W.cell? (x.add (i * 4 + 2)) = some (.int .i64 e.v) ∧ W.cell? (x.add (i * 4 + 3)) = some (.bool e.d) := by
      intro i hi
      obtain ⟨cs, q1, q2⟩ := hcell i (by omega)
      rw [Try.cellsCCall] at q1
      obtain ⟨_, hlen, hc⟩ := World.cells?_some q1
      match cs, hlen with
      | [c0, c1, c2, c3], _ =>
        obtain ⟨xs, k', _, _, _, hxl, hfl⟩ := DataW.trod_struct hu q2
        match xs, hxl with
        | [x0, x1, x2, x3], _ =>
          have g0 := hfl 0 f0 rfl
          have g1 := hfl 1 f1 rfl
          have g2 := hfl 2 f2 rfl
          have g3 := hfl 3 f3 rfl
          rw [o0, t0, Try.cellsInt] at g0
          rw [o1, t1, Try.cellsInt] at g1
          rw [o2, t2, Try.cellsInt] at g2
          rw [o3, t3, Try.cellsBool] at g3
          obtain ⟨s0, e0, _, w0⟩ := DataW.trod_int Try.underlying3 g0
          obtain ⟨s1, e1, _, w1⟩ := DataW.trod_int Try.underlying3 g1
          obtain ⟨s2, e2, _, w2⟩ := DataW.trod_int Try.underlying3 g2
          obtain ⟨s3, e3, _⟩ := DataW.trod_bool Try.underlying4 g3
          simp at e0 e1 e2 e3
          subst e0 e1 e2 e3
          have k0 := hc 0 (by omega)
          have k1 := hc 1 (by omega)
          have k2 := hc 2 (by omega)
          have k3 := hc 3 (by omega)
          rw [Go.Deep.add_add] at k0 k1 k2 k3
          have b1 := bounds_i64 w1
          exact ⟨⟨s0, s1, s2, s3⟩, ⟨by simp only; omega, by simp only; omega⟩, k0, k1, k2, k3⟩
    obtain ⟨F, hF⟩ := Go.Deep.choose_lt (α := CCl) hel
    have hlen : ((List.range n).map F).length = n := by simp
    refine ⟨(List.range n).map F, some x, _, by rw [hlen], by rw [hlen]; omega, fun hz => ?_⟩
    rw [hlen] at hz
    have h0 := (hF 0 (by omega)).2.1
    have hsp := World.cell?_spot h0
    obtain ⟨b, off, sp⟩ := x
    have hsp' : sp = none := by
      cases sp with
      | none => rfl
      | some k => simp [Addr.add] at hsp
    subst hsp'
    refine ⟨b, off, rfl, ?_, fun i hi => ?_⟩
    · rw [addr_add] at h0
      exact World.block_lt_of_cell? W ⟨b, off + 0 * 4, none⟩ h0
    · have hi' : i < n := by rw [hlen] at hi; exact hi
      obtain ⟨q0, q1, q2, q3, q4⟩ := hF i hi'
      rw [addr_add] at q1 q2 q3 q4
      have e : ((List.range n).map F)[i] = F i := by simp
      rw [e]
      simp only [← Nat.add_assoc] at q2 q3 q4
      exact ⟨q1, q2, q3, q4, q0⟩

set_option maxRecDepth 100000 in
set_option maxHeartbeats 4000000 in
theorem Plays.walk (m : Int) (vs : Value) (cs : List CCl) (w : World) (hm : I64 m) (hs : CClL w vs cs) :
    Calls Try.prog 3 #[.int .i64 m, vs] w fun e w' => e = .returned (.bool true) ∧ Below w.heap.size w w' := by
  have HI := hide hs
  obtain ⟨so, scap, rfl, hs1, _⟩ := hs
  obtain ⟨ns, hns⟩ : ∃ n, n = cs.length := ⟨_, rfl⟩
  rw [← hns] at hs1 HI ⊢
  have HNs := hide hns
  have hsi : (ns : Int) ≤ 9223372036854775807 := by omega
  clear hns
  by_cases hM : m < 1 ∨ 1024 < m
  · have HM := hide hM
    clear hM
    go_enter Try.func3, Try.ntmps3
    go_wp2_with fail
    refine (awake_ok _).mono ?_
    rintro e w1 ⟨rfl, g1⟩
    have G1 := hide g1
    clear g1
    go_wp2_with fail
    refine (Ii.New_no w1 m (unhide HM)).mono ?_
    rintro e w2 ⟨rfl, rfl⟩
    go_wp2_with fail
    refine (rNew_no w2 m (unhide HM)).mono ?_
    rintro e w3 ⟨rfl, rfl⟩
    go_wp2
    go_ret
    exact ⟨rfl, unhide G1⟩
  · obtain ⟨M, rfl⟩ : ∃ M : Nat, m = (M : Int) := ⟨m.toNat, by omega⟩
    have hM1 : 1 ≤ M := by omega
    have hM2 : M ≤ 1024 := by omega
    clear hM
    go_enter Try.func3, Try.ntmps3
    go_wp2_with fail
    refine (awake_ok _).mono ?_
    rintro e w1 ⟨rfl, g1⟩
    have G1 := hide g1
    clear g1
    go_wp2_with fail
    refine (Ii.New_any w1 M hM1 hM2).mono ?_
    rintro e w2 ⟨c, rfl, hc, a2, b2⟩
    obtain ⟨N, hN⟩ : ∃ N, N = w1.heap.size := ⟨_, rfl⟩
    rw [← hN] at a2
    have A2 := hide a2
    have HN : Hid (w.heap.size ≤ N) := hide (by rw [hN]; exact (unhide G1).size)
    have hsz2 : N ≤ w2.heap.size := by rw [hN]; exact b2.size
    have G2 := hide ((unhide G1).trans (b2.mono (unhide G1).size))
    clear a2 b2 hc hN G1
    go_wp2_with fail
    refine (rNew_any w2 N M hM1 hM2 hsz2).mono ?_
    rintro e w3 ⟨b, rfl, r3, b3⟩
    have HT : Hid (∃ L, Two N c b M 0 L (L.map strip) w3) := hide ⟨[], ⟨(unhide A2).below b3, ⟨_, r3⟩, Nat.le_trans hsz2 b3.size⟩⟩
    have G3 := hide ((unhide G2).trans (b3.mono (unhide G2).size))
    clear r3 b3 A2 G2
    go_wp2
    go_loopw [10] (fun i wr => ∃ n : Nat, i = .int .i64 (n : Int) ∧ n ≤ 300 ∧ Hid (∃ L, Two N c b M n L (L.map strip) wr) ∧ Hid (Below w.heap.size w wr)) (fun i _ => 300 - (intOf i).toNat)
    case atStart => exact ⟨0, rfl, by omega, HT, G3⟩
    case round =>
      obtain ⟨n, rfl, hn, HL, HB⟩ := hrel
      by_cases hlt : n < ns ∧ n < 300
      · obtain ⟨hlt1, hlt2⟩ := hlt
        have hl1 : (n : Int) < (ns : Int) := by omega
        have hl2 : (n : Int) < 300 := by omega
        have hnk : n < cs.length := by rw [← unhide HNs]; exact hlt1
        have hidx : (0 : Int) ≤ (n : Int) ∧ (n : Int) < (ns : Int) := ⟨by omega, hl1⟩
        obtain ⟨kb, ko, rfl, hcl⟩ := (unhide HI).at (unhide HB) hnk
        obtain ⟨x, hx⟩ : ∃ x, x = cs[n] := ⟨_, rfl⟩
        rw [← hx] at hcl
        obtain ⟨d0, d1, d2, d3, ik⟩ := hcl
        obtain ⟨L, hT⟩ := unhide HL
        have DA := hide (do_any wr N c b M n L x.kind x.k x.v x.d hT ⟨ik.1, ik.2⟩ (by omega))
        clear hx ik hT HL
        go_wp2_with fail
        refine (unhide DA).mono ?_
        rintro e w4 ⟨rfl, h4, b4⟩
        have H4 := hide h4
        have B4 := hide ((unhide HB).trans (b4.mono (unhide HN)))
        clear h4 b4
        go_wp2
        go_roundw
        case rel => exact ⟨n + 1, by go_num, by omega, H4, B4⟩
        case measure => simp [intOf]; omega
      · obtain ⟨L, hT⟩ := unhide HL
        have AA := hide (asked_any wr N c b M n L hT)
        have hszr : N ≤ wr.heap.size := hT.sz
        have go : ∀ P : Prop, (¬ (n : Int) < (ns : Int) → P) → ((n : Int) < (ns : Int) → ¬ (n : Int) < 300 → P) → P := fun P h1 h2 => by
          by_cases h : (n : Int) < (ns : Int)
          · exact h2 h (by omega)
          · exact h1 h
        clear hT hlt HL
        refine go _ (fun h1 => ?_) (fun h1 h2 => ?_)
        all_goals
          clear go
          go_wp2_with fail
          refine (unhide AA).mono ?_
          rintro e w5 ⟨rfl, _, b5⟩
          have B5 := hide ((unhide HB).trans (b5.mono (unhide HB).size))
          clear b5
          go_wp2
          go_ret
          exact ⟨rfl, unhide B5⟩

set_option maxRecDepth 100000 in
theorem Plays.lifted (os : Os) (started : os.Started) (H : Type) (enc : TypeId × Value → H) :
    ReturnsInHanded {} Try.checked os 3 .any (Rows.bcachePlaysSpec.pre6 enc Try.prog Try.f3 Rows.bcachePlaysRow.domain false) (Rows.bcachePlaysSpec.post enc Try.prog Try.f3 false true false false) := by
  refine returnsInHanded_of_change (C := Try.checked) own_knob started (by kernel_rfl) Try.func3
    (ChangeSpec.witness6 (enc := enc) (C := Try.checked) false ⟨#[], #[.int .i64 0, .slice none 0 0], []⟩ 8 (by kernel_rfl) (by kernel_rfl) (by kernel_rfl) (by kernel_rfl)) ?_
  intro W base args ds gs before hval0 hW hcnd _
  have hval : ∀ (j : Nat) t v, Try.f3.params[j]? = some t → args[j]? = some v → Value.okWide Try.prog W .any base t v := hval0
  have hW' := hW
  obtain ⟨p, q, hA0, hV, rfl, hfz, hnd⟩ := hW
  have hA : DataW.TrodAll enc Try.prog W 0 (fun _ => true) true Try.f3.params.toList args.toList ds p := hA0
  rw [Try.params3] at hA hval
  obtain ⟨v0, v1, d0, d1, p0, p1, rfl, rfl, rfl, h0, h1⟩ := trodAll_two hA
  obtain ⟨rfl, rfl⟩ := trodVars_none hV
  obtain ⟨a0, rfl, rfl, rfl, w0⟩ := open_int Try.underlying3 (hval 0 3 v0 rfl rfl) h0
  have k1 := h1
  have lt1 : ∀ x ∈ p1, x.block < W.heap.size := by obtain ⟨m, hm⟩ := k1; exact DataW.trod_lt m _ _ _ hm
  obtain ⟨a1, len1, cap1, rfl⟩ := okWide_slice Try.underlying22 (hval 1 22 v1 rfl rfl)
  obtain ⟨l1, hl1⟩ := open_ccalls h1
  have b0 := bounds_i64 w0
  clear hA0 hval0
  refine (Plays.walk a0 _ l1 W ⟨by omega, by omega⟩ hl1).mono fun e W' ⟨he, bel⟩ => ?_
  subst he
  exact ⟨_, rfl, _, _, _, [], _, [], hW', trodAll_mk1 (shut_bool Try.underlying4 _), (trodAll_cons_mk (shut_int Try.underlying3 w0) (trodAll_cons_mk (Below.trod laid_out (by kernel_rfl) (of_decide_eq_true (by kernel_rfl)) k1 bel lt1) trodAll_mk0)), rfl, bel.frame _, fun h => by cases h⟩

theorem bcachePlays_holds : Rows.BcachePlaysSaid :=
  OpenClaim.holds_of_wide 3 Try.f3 rfl rfl rfl rfl rfl rfl rfl ⟨rfl, rfl, rfl, rfl, rfl⟩ rfl rfl rfl rfl rfl (by kernel_rfl) Try.func3 (by kernel_rfl)
    (of_decide_eq_true (by kernel_rfl)) (by unfold Func.isWrapper; first | (rw [if_pos (by decide +kernel)]; kernel_rfl) | (rw [if_neg (by decide +kernel)]; exact ⟨rfl, rfl⟩))
    (fun os started H enc _ => Plays.lifted os started H enc)
#print axioms bcachePlays_holds
end Go.Proofs.Ytmhlfbgchhmffaa
