/-
  DERIVED. RulesSound: states that are records stay records, and the events of a decision are records.
-/
import Derived.Test.YtingpmgpjmlioaaGreatDoorRuFb
import Derived.Test.YtingpmgpjmlioaaGreatDoorRuEs
import Derived.Test.YtingpmgpjmlioaaGreatDoorRuUg
import Derived.Test.YtingpmgpjmlioaaGreatDoorRuTb
import Derived.Test.YtingpmgpjmlioaaGreatDoorShR3
import Derived.Test.YtingpmgpjmlioaaGreatDoorUpLaid
import Derived.Test.YtingpmgpjmlioaaGreatDoorCards
import Derived.Test.YtingpmgpjmlioaaGreatDoorTie
import Derived.SevenTiedAt
namespace Go.Proofs.YtingpmgpjmlioaaGreatDoor
open Go.ChangeShapes Go.WideShapes Go.ChangeAt Go.RowKit
open Go.ChangeMaps (open_string shut_string)
set_option linter.unusedVariables false

theorem ExC.num {w : World} {b o : Nat} {x : Ex} (h : ExC w b o x) : allX numB x = true := by
  obtain ⟨_, _, _, a, c, _, h⟩ := h
  exact h.num
theorem asl_num {w : World} {v : Value} {l : List As} (h : SlOf 5 AsAt w v l) : ∀ a ∈ l, allX numB a.e = true := fun a ha => by
  obtain ⟨b, o, h⟩ := h.mem ha
  exact h.2.num
theorem ha_num {w : World} {v : Value} {hs : List Ha} (h : SlOf 3 HaAt w v hs) : ∀ x ∈ hs, ∀ c ∈ x.cases, ∀ m ∈ c.emits, ∀ a ∈ m.sets, allX numB a.e = true := fun x hx c hc m hm => by
  obtain ⟨_, _, _, _, _, _, _, h⟩ := h.mem hx
  obtain ⟨_, _, _, _, _, _, _, h⟩ := h.mem hc
  obtain ⟨_, _, _, _, _, _, h⟩ := h.mem hm
  exact asl_num h
theorem evo_num {w : World} {v : Value} {vs : List Evo} (h : SlOf 3 EvoAt w v vs) : ∀ x ∈ vs, ∀ a ∈ x.sets, allX numB a.e = true := fun x hx => by
  obtain ⟨_, _, _, ⟨_, _, _, h⟩, _⟩ := h.mem hx
  exact asl_num h

/-- What a state is on its way through the events. -/
def StOk (w : World) (a : Option Addr) (c : Nat) (S : List Fld) : Prop := FdN w a c S ∧ RecW S
/-- What a decision of good rules comes to. -/
def DOk (d : Dc) (n : Int) : Prop := ((n ≠ 0 ∨ d.refused = true) ∧ d.events = []) ∨ (n = 0 ∧ d.refused = false ∧ 0 < d.events.length ∧ d.events.length ≤ 16 ∧ ∀ e ∈ d.events, nameB e.type = true ∧ RecW e.fields)
theorem allG_errz {Hd : Cd → Except Int Bool} (hz : ∀ d n, Hd d = .error n → n ≠ 0) : ∀ (l : List Cd) (n : Int), allG Hd l = .error n → n ≠ 0
  | [], n, h => by rw [allG] at h; cases h
  | d :: r, n, h => by
    rw [allG] at h
    cases hd : Hd d with
    | error e => rw [hd] at h; cases h; exact hz d _ hd
    | ok b =>
      rw [hd] at h
      cases b with
      | false => cases h
      | true => exact allG_errz hz r n h
theorem eventsG_errz {mv : Em → Except Int EvM} (hz : ∀ d n, mv d = .error n → n ≠ 0) : ∀ (l : List Em) (n : Int), eventsG mv l = .error n → n ≠ 0
  | [], n, h => by rw [eventsG] at h; cases h
  | m :: r, n, h => by
    rw [eventsG] at h
    cases hd : mv m with
    | error e => rw [hd] at h; cases h; exact hz m _ hd
    | ok v =>
      rw [hd] at h
      simp only at h
      cases hr : eventsG mv r with
      | error e => rw [hr] at h; cases h; exact eventsG_errz hz r _ hr
      | ok us => rw [hr] at h; cases h
theorem decideG_errz {al : List Cd → Except Int Bool} {out : Cs → Except Int Dc} (h1 : ∀ l n, al l = .error n → n ≠ 0) (h2 : ∀ c n, out c = .error n → n ≠ 0) : ∀ (l : List Cs) (n : Int), decideG al out l = .error n → n ≠ 0
  | [], n, h => by rw [decideG] at h; cases h
  | c :: r, n, h => by
    rw [decideG] at h
    cases hd : al c.whn with
    | error e => rw [hd] at h; cases h; exact h1 _ _ hd
    | ok b =>
      rw [hd] at h
      cases b with
      | true => exact h2 _ _ h
      | false => exact decideG_errz h1 h2 r n h
theorem dec_err {st : List UInt8} {l m : List Fld} {hs : List Ha} {cmd : List UInt8} {n : Int} (h : decE st l m hs cmd = .error n) : n ≠ 0 := by
  cases hf : hs.find? (fun x => x.cmd == cmd) with
  | none =>
    unfold decE decR handR at h
    rw [hf] at h
    cases h
    decide
  | some x =>
    obtain ⟨hp, k, hk, rfl, hmin⟩ := List.find?_eq_some_iff_getElem.1 hf
    rw [dec_some (k := k) (x := hs[k]) (fun j hj u hu => by
      obtain ⟨hjl, rfl⟩ := List.getElem?_eq_some_iff.1 hu
      simpa using hmin j hj) (List.getElem?_eq_getElem hk) (by simpa using hp)] at h
    split at h
    · refine decideG_errz (fun l n hl => allG_errz (fun d n hd => holdsE_err hd) l n hl) (fun c n hc => ?_) _ _ h
      unfold outG at hc
      split at hc
      · cases hc
      · cases hE : eventsG (madeP st l m) c.emits with
        | error e => rw [hE] at hc; cases hc; exact eventsG_errz (fun d n hd => madeP_err hd) _ _ hE
        | ok vs => rw [hE] at hc; cases hc
    · cases h; decide
theorem dok_of {st : List UInt8} {l m : List Fld} {hs : List Ha} {cmd : List UInt8} (hst : st.length ≤ 200) (hl : RecW l) (hm : RecW m) (hg : ∀ h ∈ hs, ∀ c ∈ h.cases, goodC c) : DOk (decV (decE st l m hs cmd)) (decN (decE st l m hs cmd)) := by
  cases h : decE st l m hs cmd with
  | error n =>
    refine .inl ⟨?_, rfl⟩
    left
    simpa [decN] using dec_err h
  | ok d =>
    rcases dec_rec hst hl hm hg h with ⟨h1, h2⟩ | ⟨h1, h2, h3, h4⟩
    · exact .inl ⟨.inr h1, h2⟩
    · exact .inr ⟨rfl, h1, h2, h3, h4⟩

set_option maxRecDepth 20000 in
set_option maxHeartbeats 16000000 in
theorem RuSound.walk (ha : Option Addr) (hc : Nat) (hs : List Ha) (va : Option Addr) (vc : Nat) (vs : List Evo) (s : ByteArray) (la : Option Addr) (lc : Nat) (l : List Fld) (ea : Option Addr) (ec : Nat) (L : List Lv) (cs : ByteArray) (ma : Option Addr) (mc : Nat) (m : List Fld) (w : World)
    (ht : SlOf 3 HaAt w (.slice ha hs.length hc) hs) (hbig : ∀ h ∈ hs, bigHaP h) (hv : SlOf 3 EvoAt w (.slice va vs.length vc) vs) (hfv : ∀ h ∈ vs, fitEv h) (hvl : vs.length < 100000000000000000) (hst : s.data.toList.length ≤ 140737488355328) (hl : FdN w la lc l) (hfs : ∀ f ∈ l, okFd f) (hL : SlOf 3 LvAt w (.slice ea L.length ec) L) (hfL : ∀ x ∈ L, okLv x) (hm : FdN w ma mc m) (hfg : ∀ f ∈ m, okFd f) (hva : Vars w) :
    Calls Tryz.prog 4 #[.agg (rulV ha hs.length hc va vs.length vc), .string s, .slice la l.length lc, .slice ea L.length ec, .string cs, .slice ma m.length mc] w fun e w' => e = .returned (.bool true) ∧ Below w.heap.size w w' := by
  rw [str_list s, str_list cs]
  obtain ⟨st, hste⟩ : ∃ st, st = s.data.toList := ⟨_, rfl⟩
  obtain ⟨cmd, hcmd⟩ : ∃ cmd, cmd = cs.data.toList := ⟨_, rfl⟩
  rw [← hste] at hst ⊢
  rw [← hcmd]
  clear hste hcmd
  obtain ⟨Y, hY, hsV⟩ := haPick ht (fun x hx => (hbig x hx).1)
  obtain ⟨Z, hZ, hvV⟩ := evPick hv hfv
  have e1 : hs.length = Y.length := by rw [← hY]; simp
  have e2 : vs.length = Z.length := by rw [← hZ]; simp
  have hb1 : Below w.heap.size w (w.alloc (.cells (rulV ha hs.length hc va vs.length vc) 25)) := (Below.refl _ _).alloc (Nat.le_refl _) _
  have hr1 : (w.alloc (.cells (rulV ha hs.length hc va vs.length vc) 25)).heap[w.heap.size]? = some (.cells (rulV ha hs.length hc va vs.length vc) 25 (0, 0)) := heap_alloc_new _ _
  obtain ⟨w1, hw1⟩ : ∃ w1, w1 = w.alloc (.cells (rulV ha hs.length hc va vs.length vc) 25) := ⟨_, rfl⟩
  rw [← hw1] at hb1 hr1
  have HW := hide hw1
  obtain ⟨B, hB⟩ : ∃ B, B = w.heap.size := ⟨_, rfl⟩
  rw [← hB] at hr1
  have HBe := hide hB
  obtain ⟨K1, hK1⟩ : ∃ K1, K1 = checkT hs vs := ⟨_, rfl⟩
  obtain ⟨K2, hK2⟩ : ∃ K2, K2 = checkF l := ⟨_, rfl⟩
  obtain ⟨K3, hK3⟩ : ∃ K3, K3 = checkF m := ⟨_, rfl⟩
  have HSB : Hid (∀ W, Below w1.heap.size w1 W → (W.cell? ⟨B, 0, none⟩ = some (.slice ha hs.length hc) ∧ W.cell? ⟨B, 1, none⟩ = some (.slice va vs.length vc))) := hide (fun W hW => ⟨kept hW ((cell_of_row _ _ _ _ _ _ hr1).trans rfl), kept hW ((cell_of_row _ _ _ _ _ _ hr1).trans rfl)⟩)
  have HBW : Hid (∀ W, Below w1.heap.size w1 W → Below w.heap.size w W) := hide (fun W hW => hb1.trans (hW.mono hb1.size))
  have HLW : Hid (∀ W, Below w1.heap.size w1 W → FdN W la lc l) := hide (fun W hW => hl.below (hb1.trans (hW.mono hb1.size)) (Nat.le_refl _))
  have HMW : Hid (∀ W, Below w1.heap.size w1 W → FdN W ma mc m) := hide (fun W hW => hm.below (hb1.trans (hW.mono hb1.size)) (Nat.le_refl _))
  have HEW : Hid (∀ W, Below w1.heap.size w1 W → SlOf 3 LvAt W (.slice ea L.length ec) L) := hide (fun W hW => hL.grown (fun _ _ _ _ _ => LvAt.grown) (hb1.trans (hW.mono hb1.size)))
  have HC1 : Hid (∀ W, Below w1.heap.size w1 W → Calls Tryz.prog 7 #[.agg #[.slice ha hs.length hc, .slice va vs.length vc]] W fun e w' => e = .returned (.int .i64 K1) ∧ Below W.heap.size W w') := hide (fun W hW => by
    have h := hb1.trans (hW.mono hb1.size)
    have := uCheck_any ha hc Y va vc Z W ⟨by rw [← e1]; exact hsV.grown (fun _ _ _ _ _ => HaR.grown) h, by rw [← e2]; exact hvV.grown (fun _ _ _ _ _ => EvR.grown) h⟩
    rw [hY, hZ, ← e1, ← e2, ← hK1] at this
    exact this)
  have HC2 : Hid (∀ W, Below w1.heap.size w1 W → Calls Tryz.prog 9 #[.slice la l.length lc] W fun e w' => e = .returned (.int .i64 K2) ∧ Below W.heap.size W w') := hide (fun W hW => by rw [hK2]; exact rCheck_any _ _ _ l W (unhide HLW W hW).1 (fun f hf => (hfs f hf).fits))
  have HC3 : Hid (∀ W, Below w1.heap.size w1 W → Calls Tryz.prog 9 #[.slice ma m.length mc] W fun e w' => e = .returned (.int .i64 K3) ∧ Below W.heap.size W w') := hide (fun W hW => by rw [hK3]; exact rCheck_any _ _ _ m W (unhide HMW W hW).1 (fun f hf => (hfg f hf).fits))
  have HG : Hid (K1 = 0 → K2 = 0 → K3 = 0 → RecW l ∧ RecW m ∧ (∀ h ∈ hs, ∀ c ∈ h.cases, goodC c) ∧ ∀ v ∈ vs, ∀ a ∈ v.sets, goodA a) := hide (fun h1 h2 h3 => by
    rw [hK1] at h1
    rw [hK2] at h2
    rw [hK3] at h3
    obtain ⟨q1, q2⟩ := check_good h1 (ha_num ht) (evo_num hv)
    exact ⟨⟨h2, fun f hf => (hfs f hf).small⟩, ⟨h3, fun f hf => (hfg f hf).small⟩, q1, q2⟩)
  have HFo : Hid (∀ (W : World) (a : Option Addr) (n c : Nat) (S : List Fld) (t : List UInt8) (ver : Int) (fa : Option Addr) (nf fc : Nat) (fs : List Fld), S.length = n → fs.length = nf → Below w1.heap.size w1 W → FdN W a c S → RecW S → FdL W (.slice fa fs.length fc) fs → (∀ f ∈ fs, small f) → Calls Tryz.prog 10 #[.agg #[.slice ha hs.length hc, .slice va vs.length vc], sv st, .slice a n c, .agg #[sv t, .int .i64 ver, .slice fa nf fc]] W fun e w' => ∃ v, e = .returned v ∧ FOwn w' W.heap.size v (foldR vs st S t fs) ∧ Below W.heap.size W w') := hide (fun W a n c S t ver fa nf fc fs hn hnf hW h1 h2 h3 h4 => by
    subst hn hnf
    have h := hb1.trans (hW.mono hb1.size)
    exact Fold_any ha hs.length hc va vs.length vc vs st a c S t ver fa fc fs W (hv.grown (fun _ _ _ _ _ => EvoAt.grown) h) hvl h1 (by have := h2.len; omega) h3 hst h2.2 h4 (hva.below h (Nat.le_refl _)))
  have HDe : Hid (∀ (W : World) (a : Option Addr) (n c : Nat) (S : List Fld), S.length = n → Below w1.heap.size w1 W → FdL W (.slice a S.length c) S → RecW S → RecW m → Calls Tryz.prog 11 #[.agg #[.slice ha hs.length hc, .slice va vs.length vc], sv st, .slice a n c, sv cmd, .slice ma m.length mc] W (CaughtD W (decE st S m hs cmd))) := hide (fun W a n c S hn hW h1 h2 h3 => by
    subst hn
    have h := hb1.trans (hW.mono hb1.size)
    rw [e1, ← hY]
    refine Decide_any ha hc Y va vs.length vc st S m a c cmd ma mc W ?_ (bigHaP.v hY hbig) h1 (unhide HMW W hW).1 hst h2.2 h3.2 (hva.below h (Nat.le_refl _))
    rw [← e1]
    exact hsV.grown (fun _ _ _ _ _ => HaR.grown) h)
  have HA := hide (uawake_go w1 (hva.below hb1 (Nat.le_refl _)))
  obtain ⟨NH, hNH⟩ : ∃ NH, NH = hs.length := ⟨_, rfl⟩
  obtain ⟨NV, hNV⟩ : ∃ NV, NV = vs.length := ⟨_, rfl⟩
  obtain ⟨NM, hNM⟩ : ∃ NM, NM = m.length := ⟨_, rfl⟩
  obtain ⟨NE, hNE⟩ : ∃ NE, NE = L.length := ⟨_, rfl⟩
  rw [← hNH, ← hNV] at HW HSB HC1 HFo HDe ⊢
  rw [← hNM] at HC3 HDe ⊢
  have HNE := hide hNE
  have HOk := hide hfL
  rw [← hNE] at HEW ⊢
  have hNEb : NE ≤ 9223372036854775807 := by have := hL.len; omega
  clear hw1 hb1 hr1 hB ht hbig hv hfv hvl hl hfs hL hfL hm hfg hva hK1 hK2 hK3 hsV hvV hY hZ e1 e2 hNH hNV hNM hNE
  go_enter Tryz.func4, Tryz.ntmps4
  go_upto_region 1 with fail
  rw [show w.alloc (.cells #[Value.slice ha NH hc, .slice va NV vc] 25) = w1 from (unhide HW).symm]
  rw [← unhide HBe]
  go_upto_region 2 with (go_at_call 6; refine (unhide HA).mono ?_; rintro e w2 ⟨rfl, b2⟩; have HK2 := hide b2; clear b2)
  clear HA
  obtain ⟨r0, r1⟩ := unhide HSB w2 (unhide HK2)
  have HC := hide (unhide HC1 w2 (unhide HK2))
  go_wp2_with fail
  refine (unhide HC).mono ?_
  rintro e w3 ⟨rfl, b3⟩
  have HK3 := hide ((unhide HK2).trans (b3.mono (unhide HK2).size))
  clear b3 r0 r1 HC HC1
  by_cases h1 : K1 = 0
  case neg =>
    have q1 : (K1 != 0) = true := by simpa using h1
    have HE := hide (unhide HBW _ (unhide HK3))
    clear h1 HG
    go_wp2_with fail
    go_ret
    exact ⟨rfl, unhide HE⟩
  subst h1
  have HC := hide (unhide HC2 w3 (unhide HK3))
  go_wp2_with fail
  refine (unhide HC).mono ?_
  rintro e w4 ⟨rfl, b4⟩
  have HK4 := hide ((unhide HK3).trans (b4.mono (unhide HK3).size))
  clear b4 HC HC2
  by_cases h2 : K2 = 0
  case neg =>
    have q1 : (K2 != 0) = true := by simpa using h2
    have HE := hide (unhide HBW _ (unhide HK4))
    clear h2 HG
    go_wp2_with fail
    go_ret
    exact ⟨rfl, unhide HE⟩
  subst h2
  have HC := hide (unhide HC3 w4 (unhide HK4))
  go_wp2_with fail
  refine (unhide HC).mono ?_
  rintro e w5 ⟨rfl, b5⟩
  have HK5 := hide ((unhide HK4).trans (b5.mono (unhide HK4).size))
  clear b5 HC HC3
  by_cases h3 : K3 = 0
  case neg =>
    have q1 : (K3 != 0) = true := by simpa using h3
    have HE := hide (unhide HBW _ (unhide HK5))
    clear h3 HG
    go_wp2_with fail
    go_ret
    exact ⟨rfl, unhide HE⟩
  subst h3
  obtain ⟨hrl, hrm, hgc, hga⟩ := unhide HG (by first | rfl | trivial) (by first | rfl | trivial) (by first | rfl | trivial)
  have HRm := hide hrm
  have HS0 : Hid (∃ S : List Fld, S.length = l.length ∧ StOk w5 la lc S) := hide ⟨l, rfl, unhide HLW _ (unhide HK5), hrl⟩
  obtain ⟨n0, hn0⟩ : ∃ n0, n0 = l.length := ⟨_, rfl⟩
  rw [← hn0] at HS0 ⊢
  have HGc := hide hgc
  have HGa := hide hga
  clear hrl hrm hgc hga HG HLW hn0
  by_cases h4 : st.length ≤ 200
  case neg =>
    have q1 : decide ((200 : Int) < (st.length : Int)) = true := decide_eq_true (by omega)
    have q2 : (200 : Int) < (st.length : Int) := by omega
    have HE := hide (unhide HBW _ (unhide HK5))
    clear h4
    go_wp2_with fail
    go_ret
    exact ⟨rfl, unhide HE⟩
  have q1 : decide ((200 : Int) < (st.length : Int)) = false := decide_eq_false (by omega)
  have H200 := hide h4
  clear h4
  go_wp2_with fail
  go_loopw [2, 14] (fun v i wr => ∃ (k : Nat) (a : Option Addr) (n c : Nat), k ≤ NE ∧ i = .int .i64 k ∧ v = .slice a n c ∧ Hid (∃ S : List Fld, S.length = n ∧ StOk wr a c S) ∧ Hid (Below w1.heap.size w1 wr)) (fun _ i _ => NE - (intOf i).toNat)
  case atStart => exact ⟨0, la, n0, lc, by omega, rfl, rfl, HS0, HK5⟩
  case round =>
    clear HS0
    obtain ⟨k, sa, sn, sc, hk, rfl, rfl, HSt, HBr⟩ := hrel
    by_cases hlt : k < NE
    · obtain ⟨S, hSn, hso⟩ := unhide HSt
      have hx := List.getElem?_eq_getElem (l := L) (i := k) (by rw [← unhide HNE]; exact hlt)
      obtain ⟨x, hxe⟩ : ∃ x, x = L[k]'(by rw [← unhide HNE]; exact hlt) := ⟨_, rfl⟩
      rw [← hxe] at hx
      have hok := unhide HOk x (List.mem_of_getElem? hx)
      obtain ⟨eb, eo, hea, -, hat⟩ := (unhide HEW wr (unhide HBr)).at hx
      subst hea
      have HAt := hide hat
      obtain ⟨y0, y1, fa, fc, y2, hfd⟩ := hat
      obtain ⟨xt, xv, xf⟩ := x
      simp only at y0 y1 y2 hfd hok
      obtain ⟨nf, hnf⟩ : ∃ nf, nf = xf.length := ⟨_, rfl⟩
      rw [← hnf] at y2
      have HC := hide (rCheck_any fa xf.length fc xf wr hfd.1 (fun f hf => (hok.2.2.1 f hf).fits))
      rw [← hnf] at HC
      obtain ⟨K, hK⟩ : ∃ K, K = checkF xf := ⟨_, rfl⟩
      rw [← hK] at HC
      have hki : (k : Int) < (NE : Int) := by omega
      have hk0 : ¬ (k : Int) < 0 := by omega
      have HFd := hide hfd
      have HY0 := hide y0
      have HY1 := hide y1
      have HY2 := hide y2
      have HSo := hide hso
      have HSn := hide hSn
      have HOk1 := hide hok
      have HNf := hide hnf
      have HKe := hide hK
      clear hxe hx HAt hfd y0 y1 hso hSn hok hnf hK HSt
      go_wp2_with fail
      refine (unhide HC).mono ?_
      rintro e w6 ⟨rfl, b6⟩
      have HB6 := hide b6
      have HK6 := hide ((unhide HBr).trans (b6.mono (unhide HBr).size))
      clear b6 y2 HC
      by_cases hc : K = 0
      case neg =>
        have q5 : (K != 0) = true := by simpa using hc
        have HE := hide (unhide HBW _ (unhide HK6))
        clear hc
        go_wp2_with fail
        go_ret
        exact ⟨rfl, unhide HE⟩
      subst hc
      have hrx : RecW xf := ⟨((by first | exact (unhide HKe).symm | exact unhide HKe) : checkF xf = 0), fun f hf => ((unhide HOk1).2.2.1 f hf).small⟩
      have HRx := hide hrx
      clear hrx
      go_upto_region 9 with fail
      have HSV : Hid (∀ V, Below w6.heap.size w6 V → V.cell? ⟨B, 0, none⟩ = some (.slice ha NH hc) ∧ V.cell? ⟨B, 1, none⟩ = some (.slice va NV vc) ∧ V.cell? ⟨eb, eo + k * 3, none⟩ = some (sv xt) ∧ V.cell? ⟨eb, eo + k * 3 + 1, none⟩ = some (.int .i64 xv) ∧ V.cell? ⟨eb, eo + k * 3 + 2, none⟩ = some (.slice fa nf fc)) := hide (fun V hV => by
        have hb := (unhide HB6).trans (hV.mono (unhide HB6).size)
        obtain ⟨r0, r1⟩ := unhide HSB V ((unhide HK6).trans (hV.mono (unhide HK6).size))
        exact ⟨r0, r1, kept hb (unhide HY0), kept hb (unhide HY1), kept hb (unhide HY2)⟩)
      have bD : Below w6.heap.size w6 w6.drew := (Below.refl _ _).drew
      have S0 := hide (unhide HSV _ (Below.refl _ _))
      have SD := hide (unhide HSV _ bD)
      have HC := hide (unhide HFo w6.drew sa sn sc S xt xv fa nf fc xf (unhide HSn) (unhide HNf).symm ((unhide HK6).trans (bD.mono (unhide HK6).size)) ((unhide HSo).1.below ((unhide HB6).trans (bD.mono (unhide HB6).size)) (Nat.le_refl _)) (unhide HSo).2 ((unhide HNf) ▸ (unhide HFd).1.below ((unhide HB6).trans (bD.mono (unhide HB6).size)) (Nat.le_refl _)) (unhide HRx).2)
      have BD := hide bD
      clear bD
      go_region_held3 (fun V => V.cell? ⟨B, 0, none⟩ = some (.slice ha NH hc) ∧ V.cell? ⟨B, 1, none⟩ = some (.slice va NV vc) ∧ V.cell? ⟨eb, eo + k * 3, none⟩ = some (sv xt) ∧ V.cell? ⟨eb, eo + k * 3 + 1, none⟩ = some (.int .i64 xv) ∧ V.cell? ⟨eb, eo + k * 3 + 2, none⟩ = some (.slice fa nf fc))
        (first | with_reducible exact unhide S0 | with_reducible exact unhide SD | with_reducible exact unhide S7)
        ((go_at_call 10; refine (unhide HC).mono ?_; rintro e w7 ⟨v7, rfl, own7, b7⟩; have HB7 := hide ((unhide BD).trans (b7.mono (unhide BD).size)); have S7 := hide (unhide HSV _ (unhide HB7)); have HO7 := hide own7; clear own7 b7))
      have HRf : Hid (RecW (foldR vs st S xt xf)) := hide (fold_rec (unhide H200) (unhide HSo).2 (unhide HRx) (unhide HGa))
      obtain ⟨za, zc, rfl, hz⟩ := (unhide HO7).fdn
      obtain ⟨X, hX⟩ : ∃ X, X = foldR vs st S xt xf := ⟨_, rfl⟩
      rw [← hX] at HRf hz ⊢
      have HZ := hide hz
      have HK7 := hide ((unhide HK6).trans ((unhide HB7).mono (unhide HK6).size))
      have HC8 : Hid (Calls Tryz.prog 9 #[.slice za X.length zc] w7 fun e w' => e = .returned (.int .i64 0) ∧ Below w7.heap.size w7 w') := hide (by
        have := rCheck_any za X.length zc X w7 (unhide HZ).1 (fun f hf => (unhide HRf).fits f hf)
        rw [(unhide HRf).1] at this
        exact this)
      obtain ⟨NX, hNX⟩ : ∃ NX, NX = X.length := ⟨_, rfl⟩
      rw [← hNX] at HC8 ⊢
      have HNX := hide hNX
      clear hX hz hNX S0 SD S7 HO7 HC HSV HY0 HY1 HY2 BD
      go_wp2_with fail
      refine (unhide HC8).mono ?_
      rintro e w8 ⟨rfl, b8⟩
      have HK8 := hide ((unhide HK7).trans (b8.mono (unhide HK7).size))
      have HS8 : Hid (∃ S : List Fld, S.length = NX ∧ StOk w8 za zc S) := hide ⟨X, (unhide HNX).symm, (unhide HZ).below b8 (Nat.le_refl _), unhide HRf⟩
      clear b8
      go_wp2
      go_roundw
      case rel => exact ⟨k + 1, za, NX, zc, by omega, by go_num, rfl, HS8, HK8⟩
      case measure => simp [intOf]; omega
    · obtain ⟨S, hSn, hso⟩ := unhide HSt
      have hki : ¬ (k : Int) < (NE : Int) := by omega
      have hki2 : decide ((k : Int) < (NE : Int)) = false := decide_eq_false hki
      have HC : Hid (Calls Tryz.prog 11 #[.agg #[.slice ha NH hc, .slice va NV vc], sv st, .slice sa sn sc, sv cmd, .slice ma NM mc] wr (fun e w' => ∃ a c, e = .returned (.tuple #[.agg #[.bool (decV (decE st S m hs cmd)).refused, sv (decV (decE st S m hs cmd)).reason, .slice a (decV (decE st S m hs cmd)).events.length c], .int .i64 (decN (decE st S m hs cmd))]) ∧ EvOwn w' wr.heap.size (.slice a (decV (decE st S m hs cmd)).events.length c) (decV (decE st S m hs cmd)).events ∧ Below wr.heap.size wr w')) := hide ((unhide HDe wr sa sn sc S hSn (unhide HBr) hso.1.1 hso.2 (unhide HRm)).mono fun e w' h => caughtD_two h)
      have HDk := hide (dok_of (cmd := cmd) (unhide H200) hso.2 (unhide HRm) (unhide HGc))
      obtain ⟨d, hd⟩ : ∃ d, d = decV (decE st S m hs cmd) := ⟨_, rfl⟩
      obtain ⟨N, hN⟩ : ∃ N, N = decN (decE st S m hs cmd) := ⟨_, rfl⟩
      rw [← hd, ← hN] at HC HDk
      obtain ⟨rf, rs, evs⟩ := d
      obtain ⟨ND, hND⟩ : ∃ ND, ND = evs.length := ⟨_, rfl⟩
      have HND := hide hND
      simp only at HC
      rw [← hND] at HC
      have hdk : ((N ≠ 0 ∨ rf = true) ∧ ND = 0) ∨ (N = 0 ∧ rf = false ∧ 0 < ND ∧ ND ≤ 16 ∧ ∀ e ∈ evs, nameB e.type = true ∧ RecW e.fields) := by
        rcases unhide HDk with ⟨h1, h2⟩ | ⟨h1, h2, h3, h4, h5⟩
        · exact .inl ⟨h1, by simp only at h2; rw [hND, h2]; rfl⟩
        · exact .inr ⟨h1, h2, by rw [hND]; exact h3, by rw [hND]; exact h4, h5⟩
      obtain ⟨r0, r1⟩ := unhide HSB wr (unhide HBr)
      have HDK := hide hdk
      clear hd hN hND hdk HDk hso hSn HSt hlt
      go_upto_region 12 with fail
      go_upto_region 13 with (go_at_call 11; refine (unhide HC).mono ?_; rintro e w6 ⟨aa, ac, rfl, o6, b6⟩; have HO6 := hide o6; have HB6 := hide b6; clear o6 b6)
      clear r0 r1 HC
      have b67 : Below w6.heap.size w6 (w6.alloc (.cells #[.bool rf, sv rs, .slice aa ND ac] 37)) := (Below.refl _ _).alloc (Nat.le_refl _) _
      have hx7 : (w6.alloc (.cells #[.bool rf, sv rs, .slice aa ND ac] 37)).heap[w6.heap.size]? = some (.cells #[.bool rf, sv rs, .slice aa ND ac] 37 (0, 0)) := heap_alloc_new _ _
      obtain ⟨w7, hw7⟩ : ∃ w7, w7 = w6.alloc (.cells #[.bool rf, sv rs, .slice aa ND ac] 37) := ⟨_, rfl⟩
      rw [show w6.alloc (.cells #[Value.bool rf, .string ⟨rs.toArray⟩, .slice aa ND ac] 37) = w7 from hw7.symm]
      rw [← hw7] at b67 hx7
      obtain ⟨D, hD⟩ : ∃ D, D = w6.heap.size := ⟨_, rfl⟩
      rw [← hD] at hx7 ⊢
      have HX7 := hide hx7
      have HK7 := hide ((unhide HBr).trans (((unhide HB6).trans (b67.mono (unhide HB6).size)).mono (unhide HBr).size))
      have HO7 := hide (((unhide HO6).below b67 (Nat.le_refl _)).rd)
      have HDc : Hid (∀ W, Below w7.heap.size w7 W → W.cell? ⟨D, 0, none⟩ = some (.bool rf) ∧ W.cell? ⟨D, 2, none⟩ = some (.slice aa ND ac)) := hide (fun W hW => by
        obtain ⟨p0, p1, p2, -⟩ := cells3 (unhide HX7)
        exact ⟨kept hW p0, kept hW p2⟩)
      have hNDm : ND ≤ 9223372036854775807 := (unhide HO6).max
      obtain ⟨p0, p2⟩ := unhide HDc w7 (Below.refl _ _)
      have HE7 := hide (unhide HBW _ (unhide HK7))
      clear b67 hx7 hw7 hD HO6 HX7
      rcases unhide HDK with ⟨h1, h0⟩ | ⟨hN0, hrf, hpos, h16, hev⟩
      · subst h0
        by_cases hN : N = 0
        · have hrf : rf = true := by rcases h1 with h | h; exact absurd hN h; exact h
          subst hN hrf
          clear h1 HDK
          go_wp2_with fail
          go_ret
          exact ⟨rfl, unhide HE7⟩
        · have q5 : (N != 0) = true := by simpa using hN
          clear h1 HDK hN
          go_wp2_with fail
          go_ret
          exact ⟨rfl, unhide HE7⟩
      · subst hN0 hrf
        have HEv := hide hev
        clear hev HDK
        go_wp2_with fail
        go_loopw [17] (fun i wr => ∃ (j : Nat), j ≤ ND ∧ i = .int .i64 j ∧ Hid (Below w7.heap.size w7 wr)) (fun i _ => ND - (intOf i).toNat)
        case atStart => exact ⟨0, by omega, rfl, hide (Below.refl _ _)⟩
        case round =>
          obtain ⟨j, hj, rfl, HBq⟩ := hrel
          rename World => W1
          have HE1 := hide (unhide HBW _ ((unhide HK7).trans ((unhide HBq).mono (unhide HK7).size)))
          obtain ⟨p0, p2⟩ := unhide HDc W1 (unhide HBq)
          by_cases hlj : j < ND
          · obtain ⟨ra, rc, e7, _, _, hev7⟩ := unhide HO7
            injection e7 with i1 i2 i3
            subst i1 i3
            clear i2
            have hlt : j < evs.length := by rw [← unhide HND]; exact hlj
            obtain ⟨gb, go, fa, fc, e8, hgl, c0, c1, c2, hfd⟩ := hev7 j evs[j] (List.getElem?_eq_getElem hlt)
            subst e8
            obtain ⟨ev, hev⟩ : ∃ ev, ev = evs[j] := ⟨_, rfl⟩
            rw [← hev] at c0 c2 hfd
            obtain ⟨hnm, hrec⟩ := unhide HEv ev (by rw [hev]; exact List.getElem_mem hlt)
            obtain ⟨et, ef⟩ := ev
            simp only at c0 c1 c2 hfd hnm hrec
            have hlen : et.length ≤ 9223372036854775807 := by have := (nameB_len hnm).2; omega
            obtain ⟨nf, hnf⟩ : ∃ nf, nf = ef.length := ⟨_, rfl⟩
            have HC1 : Hid (Calls Tryz.prog 12 #[sv et] W1 fun e w' => e = .returned (.bool true) ∧ W1 = w') := hide (by
              have := rName_any et W1 hlen
              rw [hnm] at this
              exact this)
            have HC2 : Hid (Calls Tryz.prog 9 #[.slice fa nf fc] W1 fun e w' => e = .returned (.int .i64 0) ∧ Below W1.heap.size W1 w') := hide (by
              have := rCheck_any fa ef.length fc ef W1 (hfd.below (unhide HBq) (Nat.le_refl _)) (fun f hf => hrec.fits f hf)
              rw [hrec.1, ← hnf] at this
              exact this)
            rw [← hnf] at c2
            have HB9 : Hid (∀ W, Below W1.heap.size W1 W → W.cell? ⟨D, 2, none⟩ = some (.slice (some ⟨gb, go, none⟩) ND ac) ∧ W.cell? ⟨gb, go + j * 3 + 1, none⟩ = some (.int .i64 0)) := hide (fun W hW => by
              have hb := (unhide HBq).trans (hW.mono (unhide HBq).size)
              exact ⟨(unhide HDc W hb).2, kept hb c1⟩)
            have z0 := kept (unhide HBq) c0
            have z1 := kept (unhide HBq) c1
            have z2 := kept (unhide HBq) c2
            have hji : (j : Int) < (ND : Int) := by omega
            have hj0 : ¬ (j : Int) < 0 := by omega
            clear c0 c1 c2 hfd hnm hrec hlen hnf hev hev7 hgl hlt
            go_wp2_with fail
            refine (unhide HC1).mono ?_
            rintro e w9 ⟨rfl, rfl⟩
            go_wp2_with fail
            refine (unhide HC2).mono ?_
            rintro e w9 ⟨rfl, b9⟩
            have HB10 := hide b9
            clear b9 p0 p2 z0 z1 z2
            obtain ⟨p2, z1⟩ := unhide HB9 w9 (unhide HB10)
            have HBn := hide ((unhide HBq).trans ((unhide HB10).mono (unhide HBq).size))
            go_wp2_with fail
            go_roundw
            case rel => exact ⟨j + 1, by omega, by go_num, HBn⟩
            case measure => simp [intOf]; omega
          · have hji : ¬ (j : Int) < (ND : Int) := by omega
            have hp1 : decide ((0 : Int) < (ND : Int)) = true := decide_eq_true (by omega)
            have hp2 : decide ((ND : Int) ≤ (16 : Int)) = true := decide_eq_true (by omega)
            have hp3 : (0 : Int) < (ND : Int) := by omega
            have hp4 : (ND : Int) ≤ 16 := by omega
            clear HK7
            go_wp2_with fail
            go_ret
            exact ⟨by simp, unhide HE1⟩

set_option maxRecDepth 100000 in
theorem RuSound.lifted (os : Os) (started : os.Started) (H : Type) (enc : TypeId × Value → H) :
    ReturnsInHanded {} Tryz.checked os 4 .any (fun w args => (Rows.rulesSoundSpec.pre enc Tryz.prog Tryz.f4 [] false w args ∧ laidMetH Tryz.prog seatLaid w) ∧ sizedMet enc Tryz.prog Tryz.f4 (OpenSpec.ofChange Rows.rulesSoundSpec) false w args)
      (Rows.rulesSoundSpec.post enc Tryz.prog Tryz.f4 false true false false) := by
  refine returnsInHanded_of_change_and (C := Tryz.checked) (X := fun w _ => laidMetH Tryz.prog seatLaid w) (fun _ _ _ hh h => h.of_heap hh) own_knob started (by kernel_rfl) Tryz.func4
    (ChangeSpec.witness_at (enc := enc) (C := Tryz.checked) (os := os) (X := fun w _ => laidMetH Tryz.prog seatLaid w) false (laidWorld os) #[.agg (rulV none 0 0 none 0 0), .string ⟨#[]⟩, .slice none 0 0, .slice none 0 0, .string ⟨#[]⟩, .slice none 0 0] 8 rfl (by kernel_rfl) (by kernel_rfl) (by kernel_rfl) (by kernel_rfl) (by kernel_rfl) (laidWorld_met os _)) ?_
  intro W base args ds gs before hval0 hW _ hsz0 hL _
  have hval : ∀ (j : Nat) t v, Tryz.f4.params[j]? = some t → args[j]? = some v → Value.okWide Tryz.prog W .any base t v := hval0
  have hsz : (DataW.weightsEach Tryz.prog (Tryz.f4.params.toList ++ Rows.rulesSoundSpec.plain.varTypes Tryz.prog) (ds ++ gs)).all (· ≤ reachBytes) = true := hsz0
  have hW' := hW
  obtain ⟨p, q, hA0, hV, rfl, hfz, hnd⟩ := hW
  have hA : DataW.TrodAll enc Tryz.prog W 0 (fun _ => true) true Tryz.f4.params.toList args.toList ds p := hA0
  rw [Tryz.params4] at hA hval hsz
  obtain ⟨v0, vs0, d0, ds0, p0, q0, e0, rfl, rfl, h0, hA⟩ := trodAll_cons hA
  obtain ⟨v1, vs1, d1, ds1, p1, q1, rfl, rfl, rfl, h1, hA⟩ := trodAll_cons hA
  obtain ⟨v2, vs2, d2, ds2, p2, q2, rfl, rfl, rfl, h2, hA⟩ := trodAll_cons hA
  obtain ⟨v3, vs3, d3, ds3, p3, q3, rfl, rfl, rfl, h3, hA⟩ := trodAll_cons hA
  obtain ⟨v4, vs4, d4, ds4, p4, q4, rfl, rfl, rfl, h4, hA⟩ := trodAll_cons hA
  obtain ⟨v5, vs5, d5, ds5, p5, q5, rfl, rfl, rfl, h5, hA⟩ := trodAll_cons hA
  obtain ⟨rfl, rfl, rfl⟩ := trodAll_nil hA
  obtain rfl : args = #[v0, v1, v2, v3, v4, v5] := by cases args; simp_all
  obtain ⟨rfl, rfl⟩ := trodVars_none hV
  have k0 := h0
  have lt0 : ∀ x ∈ p0, x.block < W.heap.size := by obtain ⟨m, hm⟩ := k0; exact DataW.trod_lt m _ _ _ hm
  obtain ⟨a0, c0, l0, m0, r0, t0, rfl, g0, f0, b0, j0, o0, z0⟩ := open_ruA hsz (j := 0) rfl rfl (hval 0 25 v0 rfl rfl) h0
  obtain ⟨s1, rfl, rfl, rfl, hs1⟩ := open_string Tryz.underlying9 (hval 1 9 v1 rfl rfl) h1
  have ls1 : s1.data.toList.length ≤ 140737488351232 := by
    have := sized_string hsz (j := 1) (t := 9) rfl rfl
    simp only [reachBytes] at this
    omega
  have k2 := h2
  have lt2 : ∀ x ∈ p2, x.block < W.heap.size := by obtain ⟨m, hm⟩ := k2; exact DataW.trod_lt m _ _ _ hm
  obtain ⟨a2, c2, l2, rfl, g2, f2, b2⟩ := open_sfl hsz (j := 2) rfl rfl (okWide_slice Tryz.underlying30 (hval 2 30 v2 rfl rfl)) h2
  have k3 := h3
  have lt3 : ∀ x ∈ p3, x.block < W.heap.size := by obtain ⟨m, hm⟩ := k3; exact DataW.trod_lt m _ _ _ hm
  obtain ⟨a3, c3, l3, rfl, g3, f3, b3⟩ := open_evl hsz (j := 3) rfl rfl (okWide_slice Tryz.underlying31 (hval 3 31 v3 rfl rfl)) h3
  obtain ⟨s4, rfl, rfl, rfl, hs4⟩ := open_string Tryz.underlying9 (hval 4 9 v4 rfl rfl) h4
  have ls4 : s4.data.toList.length ≤ 140737488351232 := by
    have := sized_string hsz (j := 4) (t := 9) rfl rfl
    simp only [reachBytes] at this
    omega
  have k5 := h5
  have lt5 : ∀ x ∈ p5, x.block < W.heap.size := by obtain ⟨m, hm⟩ := k5; exact DataW.trod_lt m _ _ _ hm
  obtain ⟨a5, c5, l5, rfl, g5, f5, b5⟩ := open_sfl hsz (j := 5) rfl rfl (okWide_slice Tryz.underlying30 (hval 5 30 v5 rfl rfl)) h5
  clear hA0 hval0 hsz0
  refine (RuSound.walk a0 c0 l0 m0 r0 t0 s1 a2 c2 l2 a3 c3 l3 s4 a5 c5 l5 W g0 f0 j0 o0 (by omega) (by omega) g2 f2 g3 f3 g5 f5 (vars_of_laid hL)).mono fun e W' ⟨he, bel⟩ => ?_
  subst he
  exact ⟨_, rfl, _, _, _, [], _, [], hW', trodAll_mk1 (shut_bool Tryz.underlying4 _), (trodAll_cons_mk (Below.trod laid_out (by kernel_rfl) (of_decide_eq_true (by kernel_rfl)) k0 bel lt0) (trodAll_cons_mk (shut_string Tryz.underlying9 hs1) (trodAll_cons_mk (Below.trod laid_out (by kernel_rfl) (of_decide_eq_true (by kernel_rfl)) k2 bel lt2) (trodAll_cons_mk (Below.trod laid_out (by kernel_rfl) (of_decide_eq_true (by kernel_rfl)) k3 bel lt3) (trodAll_cons_mk (shut_string Tryz.underlying9 hs4) (trodAll_cons_mk (Below.trod laid_out (by kernel_rfl) (of_decide_eq_true (by kernel_rfl)) k5 bel lt5) trodAll_mk0)))))), rfl, bel.frame _, fun h => by cases h⟩

theorem rulesSound_holds : Rows.RulesSoundSaid :=
  OpenClaim.holds_of_wide 4 Tryz.f4 rfl rfl rfl rfl rfl rfl rfl ⟨rfl, rfl, rfl, rfl, rfl⟩ rfl rfl rfl rfl rfl (by kernel_rfl) Tryz.func4 (by kernel_rfl)
    (of_decide_eq_true (by kernel_rfl)) (by unfold Func.isWrapper; first | (rw [if_pos (by decide +kernel)]; kernel_rfl) | (rw [if_neg (by decide +kernel)]; exact ⟨rfl, rfl⟩))
    (fun os started H enc _ => RuSound.lifted os started H enc)

theorem rulesSoundCard_holds : Rows.RulesSoundCardSaid :=
  Claim7.holds_tied_plain_at .later [] _ _ _ _
    rulesSound_holds (fun _ h => by cases h) (by kernel_rfl) (fun _ h => by cases h) rulesSound_row_tie rfl ⟨rfl, rfl⟩ (by kernel_rfl) rfl
    (fun f fn hf hfn => by
      obtain rfl : f = 4 := Option.some.inj ((show Tryz.prog.funcNamed "cartulary/cartularylaw13.RulesSound" = some 4 by kernel_rfl).symm.trans hf) |>.symm
      obtain rfl : fn = Tryz.f4 := (Option.some.inj (Tryz.func4.symm.trans hfn)).symm
      exact ⟨by kernel_rfl, fun j t ht => by
        rw [Tryz.params4] at ht
        have h0 : ∀ (t : TypeId), t ∈ ([25, 9, 30, 31, 9, 30] : List TypeId) → Tryz.prog.wantsStandIn t = false := by
          intro t ht
          simp only [List.mem_cons, List.not_mem_nil, or_false] at ht
          rcases ht with rfl | rfl | rfl | rfl | rfl | rfl <;> kernel_rfl
        exact h0 t (List.mem_of_getElem? (by simpa using ht))⟩)
    (by kernel_rfl)
#print axioms rulesSoundCard_holds
end Go.Proofs.YtingpmgpjmlioaaGreatDoor
