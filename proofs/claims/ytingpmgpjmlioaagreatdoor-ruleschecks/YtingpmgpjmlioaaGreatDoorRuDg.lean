/-
  DERIVED. The walks of Decide's closure, of caught at a Decision and of Decide.
-/
import Derived.Test.YtingpmgpjmlioaaGreatDoorRuDe
namespace Go.Proofs.YtingpmgpjmlioaaGreatDoor
open Go.RowKit
set_option linter.unusedVariables false

theorem EvOwn.same {w w' : World} {base : Nat} {v : Value} {L : List EvM} (h : EvOwn w base v L) (hk : ∀ g, base ≤ g → w'.heap[g]? = w.heap[g]?) : EvOwn w' base v L := by
  obtain ⟨R, ⟨h1, h2⟩, h3, h4⟩ := h
  refine ⟨R, ⟨h1, ?_⟩, h3, fun i e r hi hr => ?_⟩
  · rcases h2 with h | ⟨g, cap, cur, a, b, c, r⟩
    · exact .inl h
    · exact .inr ⟨g, cap, cur, a, b, (hk g b).trans c, r⟩
  · obtain ⟨a, b, c1, c2⟩ := h4 i e r hi hr
    refine ⟨a, b, c1, ?_⟩
    rcases c2 with h | ⟨g, cap, cur, a, b, c, r⟩
    · exact .inl h
    · exact .inr ⟨g, cap, cur, a, b, (hk g b).trans c, r⟩

/-- What Decide's closure is. -/
def decP (S : Sc) (hs : List HaV) (cmd : List UInt8) : Except Int Dc := match hs.find? (fun h => h.cmd == cmd) with
  | none => .error 136
  | some h => match needR S.given h.needs with
    | .error e => .error e
    | .ok _ => decideR S (h.cases.map CsV.p)
theorem decP_eq (S : Sc) (hs : List HaV) (cmd : List UInt8) : decP S hs cmd = decR S (hs.map HaV.p) cmd := by
  unfold decP decR handR
  rw [show (hs.map HaV.p).find? (fun h => h.cmd == cmd) = (hs.find? (fun h => h.cmd == cmd)).map HaV.p by rw [List.find?_map]; rfl]
  cases hs.find? (fun h => h.cmd == cmd) with
  | none => rfl
  | some h =>
    simp only [Option.map_some]
    rw [show (HaV.p h).needs = h.needs from rfl, show (HaV.p h).cases = h.cases.map CsV.p from rfl]
    cases needR S.given h.needs <;> rfl
def bigHa (h : HaV) : Prop := ∀ x ∈ h.cases, bigCs x

def decM (nd : List Ne → Except Int Unit) (dc : List Cs → Except Int Dc) : Option HaV → Except Int Dc
  | none => .error 136
  | some h => match nd h.needs with
    | .error e => .error e
    | .ok _ => dc (h.cases.map CsV.p)
theorem decP_m (S : Sc) (hs : List HaV) (cmd : List UInt8) : decP S hs cmd = decM (needR S.given) (decideR S) (hs.find? (fun h => h.cmd == cmd)) := by
  unfold decP decM
  cases hs.find? (fun h => h.cmd == cmd) with
  | none => rfl
  | some h => rfl
theorem decM_err {nd : List Ne → Except Int Unit} {dc : List Cs → Except Int Dc} {h : HaV} {n : Int} (hn : nd h.needs = .error n) : decM nd dc (some h) = .error n := by simp only [decM, hn]
theorem decM_ok {nd : List Ne → Except Int Unit} {dc : List Cs → Except Int Dc} {h : HaV} {u : Unit} (hn : nd h.needs = .ok u) : decM nd dc (some h) = dc (h.cases.map CsV.p) := by simp only [decM, hn]

set_option maxRecDepth 20000 in
set_option maxHeartbeats 4000000 in
theorem decideC1_any (p q s : Nat) (S : Sc) (ha : Option Addr) (hc : Nat) (hs : List HaV) (va : Option Addr) (vn vc : Nat) (cmd : List UInt8) (w : World) (hp : w.heap[p]? = some (.cells (rulV ha hs.length hc va vn vc) 25)) (hq : w.heap[q]? = some (.cells #[sv cmd] 9)) (hsb : SBox w s S) (ht : SlOf 3 HaR w (.slice ha hs.length hc) hs) (hbig : ∀ h ∈ hs, bigHa h) (hS : S.at w) (hva : Vars w) :
    Calls Tryz.prog 34 #[.pointer (some ⟨p, 0, none⟩), .pointer (some ⟨q, 0, none⟩), .pointer (some ⟨s, 0, none⟩)] w (EndsD w (decP S hs cmd)) := by
  have hb1 : Below w.heap.size w (w.alloc (.cells dc0 37)) := (Below.refl _ _).alloc (Nat.le_refl _) _
  have he1 : (w.alloc (.cells dc0 37)).heap[w.heap.size]? = some (.cells dc0 37) := heap_alloc_new _ _
  obtain ⟨w1, hw1⟩ : ∃ w1, w1 = w.alloc (.cells dc0 37) := ⟨_, rfl⟩
  rw [← hw1] at hb1 he1
  have HW := hide hw1
  have HB1 := hide hb1
  have hp1 := rowKept hp hb1 (Nat.le_refl _)
  have hq1 := rowKept hq hb1 (Nat.le_refl _)
  have r0 : w1.cell? ⟨p, 0, none⟩ = some (.slice ha hs.length hc) := (cell_of_row _ _ _ _ _ _ hp1).trans rfl
  have r1 : w1.cell? ⟨p, 1, none⟩ = some (.slice va vn vc) := (cell_of_row _ _ _ _ _ _ hp1).trans rfl
  have c0 : w1.cell? ⟨q, 0, none⟩ = some (sv cmd) := (cell_of_row _ _ _ _ _ _ hq1).trans rfl
  have HH := hide (handlerOf_any ha hc hs va vn vc cmd w1 (ht.grown (fun _ _ _ _ _ => HaR.grown) hb1))
  have HHa : Hid (∀ h, hs.find? (fun h => h.cmd == cmd) = some h → HaO w1 h ∧ bigHa h) := hide (fun h hf => by
    have hm := List.mem_of_find?_eq_some hf
    obtain ⟨b, o, hr⟩ := (ht.grown (fun _ _ _ _ _ => HaR.grown) hb1).mem hm
    exact ⟨hr.2.2.2, hbig h hm⟩)
  have HN : Hid (∀ (W : World) (a : Option Addr) (c : Nat) (l : List Ne), Below w1.heap.size w1 W → SlOf 2 NeAt W (.slice a l.length c) l → Calls Tryz.prog 36 #[.agg (scv S), .slice a l.length c] W (EndsU W (needR S.given l))) := hide (fun W a c l hW hl =>
    have h0 := hb1.trans (hW.mono hb1.size)
    need_any S a c l W hl (hS.grown h0))
  have HD : Hid (∀ (W : World) (a : Option Addr) (c : Nat) (l : List CsV), Below w1.heap.size w1 W → SlOf 3 CsR W (.slice a l.length c) l → (∀ x ∈ l, bigCs x) → Calls Tryz.prog 37 #[.agg (scv S), .slice a l.length c] W (EndsD W (decideR S (l.map CsV.p)))) := hide (fun W a c l hW hl hb =>
    have h0 := hb1.trans (hW.mono hb1.size)
    decide_any S a c l W hl hb (hS.grown h0) (hva.below h0 (Nat.le_refl _)))
  have hsb1 := hsb.below hb1 (Nat.le_refl _)
  have HS2 : Hid (∀ W, Below w1.heap.size w1 W → W.cell? ⟨s, 0, none⟩ = some (sv S.stream) ∧ W.cell? ⟨s, 1, none⟩ = some (.slice S.sa S.state.length S.sc) ∧ W.cell? ⟨s, 2, none⟩ = some (.slice S.ga S.given.length S.gc) ∧ W.cell? ⟨s, 3, none⟩ = some (.map (some S.mp))) := hide (fun W hW => by
    obtain ⟨s0, s1, s2, s3, -⟩ := (hsb1.below hW (Nat.le_refl _)).cells
    exact ⟨s0, s1, s2, s3⟩)
  have HE2 : Hid (∀ W, Below w1.heap.size w1 W → W.heap[w.heap.size]? = some (.cells dc0 37)) := hide (fun W hW => rowKept he1 hW (Nat.le_refl _))
  obtain ⟨nd, hnd⟩ : ∃ nd : List Ne → Except Int Unit, nd = needR S.given := ⟨_, rfl⟩
  obtain ⟨dc, hdc⟩ : ∃ dc : List Cs → Except Int Dc, dc = decideR S := ⟨_, rfl⟩
  obtain ⟨fd, hfd⟩ : ∃ fd, fd = hs.find? (fun h => h.cmd == cmd) := ⟨_, rfl⟩
  obtain ⟨R, hR⟩ : ∃ R, R = decP S hs cmd := ⟨_, rfl⟩
  rw [← hR]
  have HR : Hid (R = decM nd dc fd) := hide (by rw [hR, hfd, hnd, hdc]; exact decP_m S hs cmd)
  rw [← hfd] at HH HHa
  rw [← hnd] at HN
  rw [← hdc] at HD
  obtain ⟨N, hN⟩ : ∃ N, N = hs.length := ⟨_, rfl⟩
  rw [← hN] at r0 HH
  obtain ⟨B, hB⟩ : ∃ B, B = w.heap.size := ⟨_, rfl⟩
  have HBe := hide hB
  rw [← hB] at HE2
  obtain ⟨st, sl, gl, sa, sc, ga, gc, mp⟩ := S
  simp only at HS2
  simp only [scv] at HN HD
  obtain ⟨SN, hSN⟩ : ∃ SN, SN = sl.length := ⟨_, rfl⟩
  obtain ⟨GN, hGN⟩ : ∃ GN, GN = gl.length := ⟨_, rfl⟩
  rw [← hSN, ← hGN] at HS2 HN HD
  have hBB : w1.heap.size = B + 1 := by rw [hw1, hB]; simp
  have hBw : w.heap.size ≤ B := by omega
  clear hp hq hsb ht hbig hS hva hw1 hb1 he1 hp1 hq1 hsb1 hnd hdc hfd hR hN hB hSN hGN
  go_enter Tryz.func34, Tryz.ntmps34
  go_upto_region 1 with fail
  rw [show w.alloc (.cells #[Value.bool false, .string ⟨#[]⟩, .slice none 0 0] 37) = w1 from (unhide HW).symm]
  rw [← unhide HBe]
  cases fd with
  | none =>
    go_wp2_with (go_at_call 35; refine (unhide HH).mono ?_; rintro e w3 ⟨rfl, b3⟩; have HB3 := hide b3; clear b3)
    exact ⟨rfl, by rw [unhide HR]; exact ⟨rfl, (unhide HB1).trans ((unhide HB3).mono (unhide HB1).size)⟩⟩
  | some h =>
    have HHo := hide (unhide HHa h rfl)
    go_upto_region 2 with (go_at_call 35; refine (unhide HH).mono ?_; rintro e w3 ⟨rfl, b3⟩; have HB3 := hide b3; clear b3)
    have hb4 : Below w3.heap.size w3 (w3.alloc (.cells h.v 62)) := (Below.refl _ _).alloc (Nat.le_refl _) _
    have hx4 : (w3.alloc (.cells h.v 62)).heap[w3.heap.size]? = some (.cells h.v 62) := heap_alloc_new _ _
    have hb14 := (unhide HB3).trans (hb4.mono (unhide HB3).size)
    obtain ⟨w4, hw4⟩ : ∃ w4, w4 = w3.alloc (.cells h.v 62) := ⟨_, rfl⟩
    rw [show w3.alloc (.cells #[Value.string ⟨h.cmd.toArray⟩, .slice h.na h.needs.length h.nc, .slice h.ca h.cases.length h.cc] 62) = w4 from hw4.symm]
    rw [← hw4] at hx4 hb14
    obtain ⟨p4, hp4⟩ : ∃ p4, p4 = w3.heap.size := ⟨_, rfl⟩
    rw [← hp4] at hx4 ⊢
    have HX4 := hide hx4
    have HB4 := hide hb14
    obtain ⟨z0, z1, z2, -⟩ := cells3 hx4
    obtain ⟨s0, s1, s2, s3⟩ := unhide HS2 w4 (unhide HB4)
    have HN4 := hide (unhide HN w4 h.na h.nc h.needs hb14 ((unhide HHo).1.1.grown (fun _ _ _ _ _ => NeAt.grown) hb14))
    clear hb4 hw4 hp4 hx4 hb14 r0 r1 c0
    cases hT : nd h.needs with
    | error n =>
      have HX : Hid (R = .error n) := hide ((unhide HR).trans (decM_err hT))
      rw [hT] at HN4
      clear hT
      go_wp2_with (go_at_call 36; refine (unhide HN4).mono ?_; rintro e w5 ⟨rfl, b5⟩; have HB5 := hide ((unhide HB4).trans (b5.mono (unhide HB4).size)); clear b5)
      exact ⟨rfl, by rw [unhide HX]; exact ⟨rfl, (unhide HB1).trans ((unhide HB5).mono (unhide HB1).size)⟩⟩
    | ok u =>
      have HX : Hid (R = dc (h.cases.map CsV.p)) := hide ((unhide HR).trans (decM_ok hT))
      rw [hT] at HN4
      clear hT
      go_upto_region 3 with (go_at_call 36; refine (unhide HN4).mono ?_; rintro e w5 ⟨rfl, b5⟩; have HB5 := hide ((unhide HB4).trans (b5.mono (unhide HB4).size)); have HX5 := hide (rowKept (unhide HX4) b5 (Nat.le_refl _)); clear b5)
      clear z0 z1 z2 s0 s1 s2 s3
      obtain ⟨z0, z1, z2, -⟩ := cells3 (unhide HX5)
      obtain ⟨s0, s1, s2, s3⟩ := unhide HS2 w5 (unhide HB5)
      have HO5 := hide (unhide HD w5 h.ca h.cc h.cases (unhide HB5) ((unhide HHo).1.2.grown (fun _ _ _ _ _ => CsR.grown) (unhide HB5)) (unhide HHo).2)
      rw [← unhide HX] at HO5
      cases R with
      | error n =>
        go_wp2_with (go_at_call 37; refine (unhide HO5).mono ?_; rintro e w6 ⟨rfl, b6⟩; have HB6 := hide ((unhide HB5).trans (b6.mono (unhide HB5).size)); clear b6)
        exact ⟨rfl, rfl, (unhide HB1).trans ((unhide HB6).mono (unhide HB1).size)⟩
      | ok d =>
        obtain ⟨dr, ds, de⟩ := d
        go_wp2_with (go_at_call 37; refine (unhide HO5).mono ?_; rintro e w6 ⟨⟨v, rfl, o6⟩, b6⟩; have HB6 := hide ((unhide HB5).trans (b6.mono (unhide HB5).size)); have he := unhide HE2 w6 (unhide HB6); obtain ⟨va, vc, hv⟩ := o6.slice; obtain ⟨vn, hvn⟩ : ∃ vn, vn = de.length := ⟨_, rfl⟩; rw [← hvn] at hv; subst hv; obtain ⟨e0, e1, e2, ef⟩ := cells3 he; have HP := hide (row_put3 he (.bool dr) (sv ds) (.slice va vn vc)); have HQ := hide (And.intro (evown_put3 (o6.mono (base' := w1.heap.size) (unhide HB5).size) (show B < w1.heap.size by omega) (.bool dr) (sv ds) (.slice va vn vc)) (below_put3 ((unhide HB1).trans ((unhide HB6).mono (unhide HB1).size)) hBw (.bool dr) (sv ds) (.slice va vn vc))); clear b6 o6 he hvn z0 z1 z2 s0 s1 s2 s3)
        refine bodyPost_ret (results_cell_row rfl _ _ B 37 (dcV ⟨dr, ds, de⟩ (.slice va vn vc)) (0, 0) _ rfl (unhide HP) Tryz.underlying37 rfl sizeDecision) rfl ?_
        exact ⟨⟨_, rfl, (unhide HQ).1.mono (unhide HB1).size⟩, (unhide HQ).2⟩

/-! ### caught at a Decision -/
set_option maxRecDepth 20000 in
theorem catchD_panicking (p : Addr) (x n : Int) (older : List PanicEntry) (w : World) (hc : w.cell? p = some (.int .i64 x)) (hz : w.frozen? p = false) :
    CallsD Tryz.prog 77 #[.pointer (some p)] (.panicking ({ v := .iface 27 (.int .i64 n), recovered := false } :: older)) w fun e u' w' =>
      e = .returned (.tuple #[]) ∧ u' = .panicking ({ v := .iface 27 (.int .i64 n), recovered := true } :: older) ∧ w' = w.setCell p (.int .i64 n) := by
  refine callsD_of_wpS Tryz.func77 rfl fun c₀ cs hu => ?_
  apply wpS_seq
  apply wpS_region
  simp [wpOpsS, go_sem, assert_errno, recoverD, hu, Tryz.ntmps77, Exit.thenS]
  apply wpS_seq
  apply wpS_region
  simp [wpOpsS, go_sem, Exit.thenS]
  refine wpS_cond (t := true) (by simp [Act.eval, Array.replicate]) ?_
  simp only [if_true]
  apply wpS_region
  simp [wpOpsS, go_sem, hc, hz, bodyPostS, results, Tryz.results77]

set_option maxRecDepth 20000 in
theorem catchD_idle (p : Addr) (w : World) :
    CallsD Tryz.prog 77 #[.pointer (some p)] .returning w fun e u' w' => e = .returned (.tuple #[]) ∧ u' = .returning ∧ w' = w := by
  refine callsD_of_wpS Tryz.func77 rfl fun c₀ cs hu => ?_
  apply wpS_seq
  apply wpS_region
  simp [wpOpsS, go_sem, assert_nil, recoverD, hu, Tryz.ntmps77, Exit.thenS]
  apply wpS_seq
  apply wpS_region
  simp [wpOpsS, go_sem, Exit.thenS]
  refine wpS_cond (t := false) (by simp [Act.eval, Array.replicate]) ?_
  simp only [Bool.false_eq_true, if_false]
  refine wpS_of_wp (wp_skip ?_)
  cases c₀
  simp_all [bodyPostS, results, Tryz.results77]

/-- What caught, and Decide, answers. -/
def CaughtD (w : World) (R : Except Int Dc) (e : Ending) (w' : World) : Prop := (match R with
  | .ok d => ∃ v, e = .returned (.tuple #[.agg (dcV d v), .int .i64 0]) ∧ EvOwn w' w.heap.size v d.events
  | .error n => e = .returned (.tuple #[.agg dc0, .int .i64 n])) ∧ Below w.heap.size w w'

set_option maxRecDepth 20000 in
set_option maxHeartbeats 2000000 in
theorem caughtD_any (p1 p2 p3 : Addr) (R : Except Int Dc) (w : World) (hc : ∀ W, Below w.heap.size w W → Calls Tryz.prog 34 #[.pointer (some p1), .pointer (some p2), .pointer (some p3)] W (EndsD W R)) :
    Calls Tryz.prog 33 #[.func (.func 34) #[] #[.pointer (some p1), .pointer (some p2), .pointer (some p3)]] w (CaughtD w R) := by
  have hmf : ∀ (fn : Fn) (first cap : Array Value) (w : World), (Instr.makeFunc fn first cap).run Tryz.prog w = .ok (.func fn first cap) w := fun _ _ _ _ => rfl
  have hb2 : Below w.heap.size w ((w.alloc (.cells dc0 37)).alloc (.cells #[.int .i64 0] 27)) := below2 _ _ _
  have HC := hide (hc _ hb2)
  obtain ⟨hf2, -⟩ := boxes2 w (.cells dc0 37) (.cells #[.int .i64 0] 27)
  have hq2 : ((w.alloc (.cells dc0 37)).alloc (.cells #[.int .i64 0] 27)).cell? ⟨w.heap.size + 1, 0, none⟩ = some (.int .i64 0) ∧ ((w.alloc (.cells dc0 37)).alloc (.cells #[.int .i64 0] 27)).frozen? ⟨w.heap.size + 1, 0, none⟩ = false := by simp [go_sem]
  have HQ := hide hq2
  have HB2 := hide hb2
  have HF2 := hide hf2
  clear hb2 hf2 hc hq2
  go_enter_defers Tryz.func33, Tryz.ntmps33
  cases R with
  | error n =>
    go_wp2_with (go_at_call 34; refine (unhide HC).mono ?_; rintro e w3 ⟨rfl, b3⟩; have B3 := hide b3; clear b3)
    have b3 := unhide B3
    have hf3 := rowKept (unhide HF2) b3 (Nat.le_refl _)
    have q0 := (b3.cell (p := ⟨w.heap.size + 1, 0, none⟩) (by simp)).trans (unhide HQ).1
    have q1 := (b3.frozen (p := ⟨w.heap.size + 1, 0, none⟩) (by simp)).trans (unhide HQ).2
    refine leaves_cons (f := 77) (args := #[.pointer (some ⟨w.heap.size + 1, 0, none⟩)]) (by simp) (by simp [go_sem]) ?_
    refine (catchD_panicking ⟨w.heap.size + 1, 0, none⟩ 0 n [] w3 q0 q1).mono ?_
    rintro e u' w'' ⟨rfl, rfl, rfl⟩
    have hf4 : (w3.setCell ⟨w.heap.size + 1, 0, none⟩ (.int .i64 n)).heap[w.heap.size]? = some (.cells dc0 37) := (heap_setCell_other _ ⟨w.heap.size + 1, 0, none⟩ _ _ (by simp)).trans hf3
    have q4 : (w3.setCell ⟨w.heap.size + 1, 0, none⟩ (.int .i64 n)).cell? ⟨w.heap.size + 1, 0, none⟩ = some (.int .i64 n) := World.cell?_setCell_same _ _ _ q0
    refine ⟨.tuple #[.agg dc0, .int .i64 n], ?_, rfl, ((unhide HB2).trans (b3.mono (unhide HB2).size)).setCell (p := ⟨w.heap.size + 1, 0, none⟩) (by simp) _⟩
    exact results_cc rfl _ _ w.heap.size (w.heap.size + 1) 37 _ (0, 0) _ rfl rfl hf4 Tryz.underlying37 rfl sizeDecision (load_errno _ _ _ q4)
  | ok d =>
    obtain ⟨dr, ds, de⟩ := d
    go_wp2_with (go_at_call 34; refine (unhide HC).mono ?_; rintro e w3 ⟨⟨v, rfl, o3⟩, b3⟩; have B3 := hide b3; have HSF := hide o3; obtain ⟨va, vc, hv⟩ := o3.slice; obtain ⟨vn, hvn⟩ : ∃ vn, vn = de.length := ⟨_, rfl⟩; rw [← hvn] at hv; subst hv; have hf3 := rowKept (unhide HF2) b3 (Nat.le_refl _); obtain ⟨r0, r1, r2, rf⟩ := cells3 hf3; have q0 := (b3.cell (p := ⟨w.heap.size + 1, 0, none⟩) (by simp)).trans (unhide HQ).1; have q1 := (b3.frozen (p := ⟨w.heap.size + 1, 0, none⟩) (by simp)).trans (unhide HQ).2; clear b3 o3 hf3 hvn)
    refine leaves_cons (f := 77) (args := #[.pointer (some ⟨w.heap.size + 1, 0, none⟩)]) (by simp) (by simp [go_sem]) ?_
    refine (catchD_idle ⟨w.heap.size + 1, 0, none⟩ _).mono ?_
    rintro e u' w'' ⟨rfl, rfl, rfl⟩
    have b3 := unhide B3
    have hf3 := row_put3 (rowKept (unhide HF2) b3 (Nat.le_refl _)) (.bool dr) (sv ds) (.slice va vn vc)
    refine ⟨.tuple #[.agg (dcV ⟨dr, ds, de⟩ (.slice va vn vc)), .int .i64 0], ?_, ⟨_, rfl, ?_⟩, ?_⟩
    · exact results_cc rfl _ _ w.heap.size (w.heap.size + 1) 37 _ (0, 0) _ rfl rfl ((heap_setCell_other _ ⟨w.heap.size + 1, 0, none⟩ _ _ (by simp)).trans hf3) Tryz.underlying37 rfl sizeDecision (load_errno _ _ _ (World.cell?_setCell_same _ _ _ (u := .int .i64 0) (by simp [World.cell?_setCell_far, q0])))
    · have h1 := evown_put3 (unhide HSF) (q := w.heap.size) (by simp; omega) (.bool dr) (sv ds) (.slice va vn vc)
      refine (h1.same (fun g hg => heap_setCell_other _ ⟨w.heap.size + 1, 0, none⟩ _ _ (by simp at hg ⊢; omega))).mono (by simp; omega)
    · exact (below_put3 ((unhide HB2).trans (b3.mono (unhide HB2).size)) (Nat.le_refl _) (.bool dr) (sv ds) (.slice va vn vc)).setCell (p := ⟨w.heap.size + 1, 0, none⟩) (by simp) _
end Go.Proofs.YtingpmgpjmlioaaGreatDoor

namespace Go.Proofs.YtingpmgpjmlioaaGreatDoor
open Go.RowKit
set_option linter.unusedVariables false

/-- What Decide is. -/
def decE (st : List UInt8) (l m : List Fld) (hs : List Ha) (cmd : List UInt8) : Except Int Dc := decR ⟨st, l, m, none, 0, none, 0, 0⟩ hs cmd
section same
variable (st : List UInt8) (l m : List Fld) (la : Option Addr) (lc : Nat) (ma : Option Addr) (mc mp : Nat)
theorem allR_same : ∀ d, allR ⟨st, l, m, la, lc, ma, mc, mp⟩ d = allR ⟨st, l, m, none, 0, none, 0, 0⟩ d
  | [] => by rw [allR, allR]
  | d :: r => by
    rw [allR, allR, holdsR_same, holdsR_same st l m none 0 none 0 0, allR_same r]
theorem evalA_fun : evalA ⟨st, l, m, la, lc, ma, mc, mp⟩ = evalA ⟨st, l, m, none, 0, none, 0, 0⟩ := by
  funext x
  rw [evalA_same st l m la lc ma mc mp x, evalA_same st l m none 0 none 0 0 x]
theorem eventR_same (e : Em) : eventR ⟨st, l, m, la, lc, ma, mc, mp⟩ e = eventR ⟨st, l, m, none, 0, none, 0, 0⟩ e := by
  unfold eventR setsR
  rw [evalA_fun]
theorem outcomeR_same (c : Cs) : outcomeR ⟨st, l, m, la, lc, ma, mc, mp⟩ c = outcomeR ⟨st, l, m, none, 0, none, 0, 0⟩ c := by
  unfold outcomeR
  rw [eventsR_eq, eventsR_eq, show eventR ⟨st, l, m, la, lc, ma, mc, mp⟩ = eventR ⟨st, l, m, none, 0, none, 0, 0⟩ from funext (eventR_same st l m la lc ma mc mp)]
theorem decR_same (hs : List Ha) (cmd : List UInt8) : decR ⟨st, l, m, la, lc, ma, mc, mp⟩ hs cmd = decE st l m hs cmd := by
  unfold decE decR
  have h : decideR ⟨st, l, m, la, lc, ma, mc, mp⟩ = decideR ⟨st, l, m, none, 0, none, 0, 0⟩ := by
    funext x
    rw [decideR_eq, decideR_eq, show allR ⟨st, l, m, la, lc, ma, mc, mp⟩ = allR ⟨st, l, m, none, 0, none, 0, 0⟩ from funext (allR_same st l m la lc ma mc mp), show outcomeR ⟨st, l, m, la, lc, ma, mc, mp⟩ = outcomeR ⟨st, l, m, none, 0, none, 0, 0⟩ from funext (outcomeR_same st l m la lc ma mc mp)]
  rw [h]
end same

set_option maxRecDepth 20000 in
set_option maxHeartbeats 4000000 in
theorem Decide_any (ha : Option Addr) (hc : Nat) (hs : List HaV) (va : Option Addr) (vn vc : Nat) (st : List UInt8) (l m : List Fld) (la : Option Addr) (lc : Nat) (cmd : List UInt8) (ma : Option Addr) (mc : Nat) (w : World) (ht : SlOf 3 HaR w (.slice ha hs.length hc) hs) (hbig : ∀ h ∈ hs, bigHa h) (hl : FdL w (.slice la l.length lc) l) (hm : FdL w (.slice ma m.length mc) m) (hst : st.length ≤ 140737488355328) (hfs : ∀ f ∈ l, small f) (hfg : ∀ f ∈ m, small f) (hva : Vars w) :
    Calls Tryz.prog 11 #[.agg (rulV ha hs.length hc va vn vc), sv st, .slice la l.length lc, sv cmd, .slice ma m.length mc] w (CaughtD w (decE st l m (hs.map HaV.p) cmd)) := by
  have hmf : ∀ (fn : Fn) (first cap : Array Value) (w : World), (Instr.makeFunc fn first cap).run Tryz.prog w = .ok (.func fn first cap) w := fun _ _ _ _ => rfl
  have hb2 := below3 w (.cells (rulV ha hs.length hc va vn vc) 25) (.cells #[sv cmd] 9) (.cells dc0 37)
  obtain ⟨hp2, hq2, he2⟩ := boxes3 w (.cells (rulV ha hs.length hc va vn vc) 25) (.cells #[sv cmd] 9) (.cells dc0 37)
  obtain ⟨w2, hw2⟩ : ∃ w2, w2 = ((w.alloc (.cells (rulV ha hs.length hc va vn vc) 25)).alloc (.cells #[sv cmd] 9)).alloc (.cells dc0 37) := ⟨_, rfl⟩
  rw [← hw2] at hb2 hp2 hq2 he2
  have HW := hide hw2
  have HB2 := hide hb2
  have HP2 := hide hp2
  have HQ2 := hide hq2
  have HE2 := hide he2
  have HT := hide (ht.grown (fun _ _ _ _ _ => HaR.grown) hb2)
  have HBig := hide hbig
  have HL := hide (hl.below hb2 (Nat.le_refl _))
  have HM := hide (hm.below hb2 (Nat.le_refl _))
  have HVA := hide (hva.below hb2 (Nat.le_refl _))
  have HN := hide (newScope_any st l m la lc ma mc w2)
  have HST := hide (And.intro hst (And.intro hfs hfg))
  obtain ⟨R, hR⟩ : ∃ R, R = decE st l m (hs.map HaV.p) cmd := ⟨_, rfl⟩
  rw [← hR]
  have HR := hide hR
  have hBB : w2.heap.size = w.heap.size + 3 := by rw [hw2]; simp
  have hBw : w.heap.size ≤ w.heap.size + 2 := by omega
  obtain ⟨B, hB⟩ : ∃ B, B = w.heap.size := ⟨_, rfl⟩
  have HBe := hide hB
  rw [← hB] at HP2 HQ2 HE2 hBB
  have hBw' : w.heap.size ≤ B + 2 := by omega
  obtain ⟨HN0, hHN0⟩ : ∃ HN0, HN0 = hs.length := ⟨_, rfl⟩
  obtain ⟨LN, hLN⟩ : ∃ LN, LN = l.length := ⟨_, rfl⟩
  obtain ⟨MN, hMN⟩ : ∃ MN, MN = m.length := ⟨_, rfl⟩
  have HLN := hide (And.intro hHN0 (And.intro hLN hMN))
  rw [← hHN0] at HW ⊢
  rw [← hLN, ← hMN] at HN ⊢
  clear hR hw2 hb2 hp2 hq2 he2 ht hbig hl hm hst hfs hfg hva hB hHN0 hLN hMN hBw
  go_enter Tryz.func11, Tryz.ntmps11
  go_upto_region 1 with fail
  rw [show ((w.alloc (.cells #[Value.slice ha HN0 hc, .slice va vn vc] 25)).alloc (.cells #[Value.string ⟨cmd.toArray⟩] 9)).alloc (.cells #[Value.bool false, .string ⟨#[]⟩, .slice none 0 0] 37) = w2 from (unhide HW).symm]
  rw [← unhide HBe]
  go_wp2_with fail
  refine (unhide HN).mono ?_
  rintro e w3 ⟨mp, rfl, hpm, b3⟩
  have HPM := hide hpm
  have HB3 := hide b3
  clear hpm b3
  go_upto_region 2 with fail
  have hb4 : Below w3.heap.size w3 (w3.alloc (.cells (scv ⟨st, l, m, la, lc, ma, mc, mp⟩) 82)) := (Below.refl _ _).alloc (Nat.le_refl _) _
  have hs4 := SBox.new w3 ⟨st, l, m, la, lc, ma, mc, mp⟩
  obtain ⟨w4, hw4⟩ : ∃ w4, w4 = w3.alloc (.cells (scv ⟨st, l, m, la, lc, ma, mc, mp⟩) 82) := ⟨_, rfl⟩
  rw [show w3.alloc (.cells #[Value.string ⟨st.toArray⟩, .slice la l.length lc, .slice ma m.length mc, .map (some mp)] 82) = w4 from hw4.symm]
  rw [← hw4] at hb4 hs4
  have b24 := (unhide HB3).trans (hb4.mono (unhide HB3).size)
  have hsat : Sc.at ⟨st, l, m, la, lc, ma, mc, mp⟩ w4 := ⟨(unhide HL).below b24 (Nat.le_refl _), (unhide HM).below b24 (Nat.le_refl _), (unhide HPM).grown hb4, (unhide HST).1, (unhide HST).2.1, (unhide HST).2.2⟩
  have hp4 := rowKept (unhide HP2) b24 (Nat.le_refl _)
  have hq4 := rowKept (unhide HQ2) b24 (Nat.le_refl _)
  have he4 := rowKept (unhide HE2) b24 (Nat.le_refl _)
  have ht4 := (unhide HT).grown (fun _ _ _ _ _ => HaR.grown) b24
  have hva4 := (unhide HVA).below b24 (Nat.le_refl _)
  have HC := hide (caughtD_any ⟨B, 0, none⟩ ⟨B + 1, 0, none⟩ ⟨w3.heap.size, 0, none⟩ (decP ⟨st, l, m, la, lc, ma, mc, mp⟩ hs cmd) w4 (fun W hW =>
    decideC1_any _ _ _ ⟨st, l, m, la, lc, ma, mc, mp⟩ ha hc hs va vn vc cmd W (rowKept hp4 hW (Nat.le_refl _)) (rowKept hq4 hW (Nat.le_refl _)) (hs4.below hW (Nat.le_refl _)) (ht4.grown (fun _ _ _ _ _ => HaR.grown) hW) (unhide HBig) (hsat.grown hW) (hva4.below hW (Nat.le_refl _))))
  rw [decP_eq, decR_same, ← unhide HR] at HC
  have HBE := hide b24
  have HE4 := hide he4
  obtain ⟨g3, hg3⟩ : ∃ g3, g3 = w3.heap.size := ⟨_, rfl⟩
  rw [← hg3] at HC ⊢
  clear hb4 hs4 hw4 b24 hsat hp4 hq4 he4 ht4 hva4 hg3
  cases R with
  | error n =>
    go_wp2_with (go_at_call 33; refine (unhide HC).mono ?_; rintro e w6 ⟨rfl, b6⟩; have he := rowKept (unhide HE4) b6 (Nat.le_refl _); obtain ⟨e0, e1, e2, ef⟩ := cells3 he; have HP := hide (row_put3 he (.bool false) (sv []) (.slice none 0 0)); have HQ := hide (below_put3 ((unhide HB2).trans (((unhide HBE).trans (b6.mono (unhide HBE).size)).mono (unhide HB2).size)) hBw' (.bool false) (sv []) (.slice none 0 0)); clear b6 he)
    refine bodyPost_ret (results_ct rfl _ _ (B + 2) 37 dc0 (0, 0) _ (.int .i64 n) rfl rfl (unhide HP) Tryz.underlying37 rfl sizeDecision) rfl ?_
    exact ⟨rfl, unhide HQ⟩
  | ok d =>
    obtain ⟨dr, ds, de⟩ := d
    go_wp2_with (go_at_call 33; refine (unhide HC).mono ?_; rintro e w6 ⟨⟨v, rfl, o6⟩, b6⟩; have he := rowKept (unhide HE4) b6 (Nat.le_refl _); obtain ⟨va6, vc6, hv⟩ := o6.slice; obtain ⟨vn6, hvn⟩ : ∃ vn6, vn6 = de.length := ⟨_, rfl⟩; rw [← hvn] at hv; subst hv; obtain ⟨e0, e1, e2, ef⟩ := cells3 he; have HP := hide (row_put3 he (.bool dr) (sv ds) (.slice va6 vn6 vc6)); have HQ := hide (And.intro (evown_put3 (o6.mono (base' := w2.heap.size) (unhide HBE).size) (show B + 2 < w2.heap.size by omega) (.bool dr) (sv ds) (.slice va6 vn6 vc6)) (below_put3 ((unhide HB2).trans (((unhide HBE).trans (b6.mono (unhide HBE).size)).mono (unhide HB2).size)) hBw' (.bool dr) (sv ds) (.slice va6 vn6 vc6))); clear b6 o6 he hvn)
    refine bodyPost_ret (results_ct rfl _ _ (B + 2) 37 (dcV ⟨dr, ds, de⟩ (.slice va6 vn6 vc6)) (0, 0) _ (.int .i64 0) rfl rfl (unhide HP) Tryz.underlying37 rfl sizeDecision) rfl ?_
    exact ⟨⟨_, rfl, (unhide HQ).1.mono (unhide HB2).size⟩, (unhide HQ).2⟩
end Go.Proofs.YtingpmgpjmlioaaGreatDoor
