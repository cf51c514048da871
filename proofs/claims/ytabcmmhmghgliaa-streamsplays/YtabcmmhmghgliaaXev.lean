/-
  DERIVED. Events in memory; the walks of Opened, namesAllowed, refused, eventsAllowed.
-/
import Derived.Test.YtabcmmhmghgliaaChk
namespace Go.Proofs.Ytabcmmhmghgliaa
open Go.RowKit
set_option linter.unusedVariables false

structure Evn where
  type : List UInt8
  ver : Int
  fields : List Fld

/-- An event whose texts are of this machine. -/
def fitE (e : Evn) : Prop := e.type.length ≤ 9223372036854775807 ∧ ∀ f ∈ e.fields, fits f
def okEv (e : Evn) : Prop := okEvent e.type e.ver e.fields

/-- A slice of events that reads as these. -/
def EvL (w : World) (v : Value) (es : List Evn) : Prop :=
  ∃ ao cap, v = .slice ao es.length cap ∧ es.length ≤ cap ∧ cap ≤ 9223372036854775807 ∧
    (es.length ≠ 0 → ∃ b off, ao = some ⟨b, off, none⟩ ∧ b < w.heap.size ∧ ∀ i, (h : i < es.length) →
      w.cell? ⟨b, off + i * 3, none⟩ = some (sv es[i].type) ∧ w.cell? ⟨b, off + i * 3 + 1, none⟩ = some (.int .i64 es[i].ver) ∧ ∃ a n c, w.cell? ⟨b, off + i * 3 + 2, none⟩ = some (.slice a n c) ∧ FdL w (.slice a n c) es[i].fields)

theorem EvL.below {B : Nat} {w w' : World} {v : Value} {es : List Evn} (h : EvL w v es) (hb : Below B w w') (hB : w.heap.size ≤ B) : EvL w' v es := by
  obtain ⟨ao, cap, rfl, h1, h2, h4⟩ := h
  refine ⟨ao, cap, rfl, h1, h2, fun hz => ?_⟩
  obtain ⟨b, off, e, hlt, hc⟩ := h4 hz
  refine ⟨b, off, e, by have := hb.size; omega, fun i hi => ?_⟩
  obtain ⟨c0, c1, a, n, c, c2, c3⟩ := hc i hi
  exact ⟨(hb.cell (p := ⟨b, off + i * 3, none⟩) (by show b < B; omega)).trans c0, (hb.cell (p := ⟨b, off + i * 3 + 1, none⟩) (by show b < B; omega)).trans c1, a, n, c, (hb.cell (p := ⟨b, off + i * 3 + 2, none⟩) (by show b < B; omega)).trans c2, c3.below hb hB⟩
theorem EvL.nil (w : World) : EvL w (.slice none 0 0) [] := ⟨none, 0, rfl, by simp, by omega, fun h => absurd rfl h⟩

theorem enters_ok {f : FuncId} {fn : Func} {c : Code} (hf : Try.prog.funcs[f]? = some fn) (hname : (fn.name == "runtime.NumGoroutine") = false) (hb : fn.body = some c) (args : Array Value) (w : World) : (callFunc f args).run Try.prog w = .ok (.enter f args) w := by
  have h1 : fn.name ≠ "runtime.NumGoroutine" := by simpa using hname
  simp [callFunc, hf, h1, hb]

theorem infoEvent : (Try.prog.info? 49).map (·.size) = some 3 := by kernel_rfl

theorem Opened_go (w : World) : Calls Try.prog 12 #[] w fun e w' => e = .returned (.agg (ev [111, 112, 101, 110, 101, 100] 1 none 0 0)) ∧ Below w.heap.size w w' := by
  have HB := hide ((Below.refl w.heap.size w).alloc (Nat.le_refl _) (.cells (ev [111, 112, 101, 110, 101, 100] 1 none 0 0) 49))
  go_enter Try.func12, Try.ntmps12
  go_wp2
  exact bodyPost_ret (results_cell_row rfl _ _ w.heap.size 49 (ev [111, 112, 101, 110, 101, 100] 1 none 0 0) (0, 0) _ rfl (heap_alloc_new _ _) Try.underlying49 rfl infoEvent) rfl ⟨rfl, unhide HB⟩

/-- Names that may be: P10.1. -/
def okNames (s k : List UInt8) : Prop := 1 ≤ s.length ∧ s.length ≤ 60 ∧ k.length ≤ 60

set_option maxHeartbeats 1000000 in
theorem namesAllowed_any (s k : List UInt8) (w : World) (hs : s.length ≤ 9223372036854775807) (hk : k.length ≤ 9223372036854775807) :
    Calls Try.prog 48 #[sv s, sv k] w fun e w' => e = .returned (.bool (ans (okNames s k))) ∧ w = w' := by
  by_cases hz : s = []
  · subst hz
    have HA := hide (ans_false (p := okNames [] k) (by simp [okNames]))
    go_enter Try.func48, Try.ntmps48
    go_wp2
    go_ret
    rw [unhide HA]
    exact ⟨rfl, rfl⟩
  · have hp : 0 < s.length := List.length_pos_iff.2 hz
    have hb : (s == []) = false := beq_eq_false_iff_ne.2 hz
    by_cases h60 : s.length ≤ 60
    · have h60' : decide ((s.length : Int) ≤ 60) = true := decide_eq_true (by omega)
      by_cases k60 : k.length ≤ 60
      · have HA := hide (ans_true (p := okNames s k) ⟨hp, h60, k60⟩)
        have k60' : decide ((k.length : Int) ≤ 60) = true := decide_eq_true (by omega)
        clear hz
        go_enter Try.func48, Try.ntmps48
        go_wp2
        go_ret
        rw [unhide HA]
        exact ⟨rfl, rfl⟩
      · have HA := hide (ans_false (p := okNames s k) (fun h => k60 h.2.2))
        have k60' : decide ((k.length : Int) ≤ 60) = false := decide_eq_false (by omega)
        clear hz
        go_enter Try.func48, Try.ntmps48
        go_wp2
        go_ret
        rw [unhide HA]
        exact ⟨rfl, rfl⟩
    · have HA := hide (ans_false (p := okNames s k) (fun h => h60 h.2.1))
      have h60' : decide ((s.length : Int) ≤ 60) = false := decide_eq_false (by omega)
      clear hz
      go_enter Try.func48, Try.ntmps48
      go_wp2
      go_ret
      rw [unhide HA]
      exact ⟨rfl, rfl⟩

set_option maxHeartbeats 1000000 in
theorem refused_any (t : List UInt8) (v : Int) (a : Option Addr) (n c : Nat) (fs : List Fld) (w : World) (ht : t.length ≤ 9223372036854775807) (hv : FdL w (.slice a n c) fs) (hfit : ∀ f ∈ fs, fits f) :
    Calls Try.prog 55 #[.agg (ev t v a n c)] w fun e w' => e = .returned (.bool (!ans (okEvent t v fs))) ∧ Below w.heap.size w w' := by
  have hb1 : Below w.heap.size w (w.alloc (.cells (ev t v a n c) 49)) := (Below.refl w.heap.size w).alloc (Nat.le_refl _) _
  have CK := hide (Check_any t v a n c fs (w.alloc (.cells (ev t v a n c) 49)) ht (hv.below hb1 (Nat.le_refl _)) hfit)
  have HB := hide hb1
  have hz1 := hb1.size
  clear hb1 hv hfit
  by_cases h : okEvent t v fs
  · have HA := hide (ans_true h)
    have HC := hide (chk_ok h)
    clear h
    go_enter Try.func55, Try.ntmps55
    go_wp2_with fail
    refine (unhide CK).mono ?_
    rintro e w2 ⟨rfl, b2⟩
    rw [unhide HC]
    have HB2 := hide ((unhide HB).trans (b2.mono hz1))
    clear b2
    go_wp2
    go_ret
    rw [unhide HA]
    exact ⟨rfl, unhide HB2⟩
  · have HA := hide (ans_false h)
    have HC := hide (chk_bad h)
    clear h
    go_enter Try.func55, Try.ntmps55
    go_wp2_with fail
    refine (unhide CK).mono ?_
    rintro e w2 ⟨rfl, b2⟩
    rw [unhide HC]
    have HB2 := hide ((unhide HB).trans (b2.mono hz1))
    clear b2
    go_wp2
    go_ret
    rw [unhide HA]
    exact ⟨rfl, unhide HB2⟩

/-- The place of the first that is refused, or -1. -/
def Idx (es : List Evn) (x : Int) : Prop := (x = -1 ∧ ∀ e ∈ es, okEv e) ∨ ∃ k : Nat, x = k ∧ ∃ e ∈ es, ¬ okEv e

set_option maxHeartbeats 4000000 in
theorem IndexFunc_go (a : Option Addr) (n c : Nat) (es : List Evn) (w : World) (hv : EvL w (.slice a n c) es) (hfit : ∀ e ∈ es, fitE e) :
    Calls Try.prog 60 #[.slice a n c, .func (.func 55) #[] #[]] w fun e w' => ∃ x, e = .returned (.int .i64 x) ∧ Idx es x ∧ Below w.heap.size w w' := by
  obtain ⟨ao, cap, e, h1, h2, h4⟩ := id hv
  cases e
  obtain ⟨N, hN⟩ : ∃ N, N = es.length := ⟨_, rfl⟩
  have HN := hide hN
  have H4 := hide h4
  have HV := hide hv
  have HF := hide hfit
  rw [← hN] at h1 ⊢
  clear h4 hN hv hfit
  have hent := enters_ok Try.func55 (by kernel_rfl) rfl
  go_enter Try.func60, Try.ntmps60
  go_wp2
  go_loopw [8] (fun i wr => ∃ k : Nat, k ≤ N ∧ i = .int .i64 k ∧ Hid (∀ j, j < k → ∀ g, es[j]? = some g → okEv g) ∧ Hid (Below w.heap.size w wr)) (fun i _ => N - (intOf i).toNat)
  case atStart => exact ⟨0, by omega, rfl, hide (fun j hj => by omega), hide (Below.refl _ _)⟩
  case round =>
    obtain ⟨k, hk, rfl, HJ, HB⟩ := hrel
    by_cases hlt : k < N
    · have hkl : k < es.length := by have := unhide HN; omega
      obtain ⟨b, off, rfl, hb, hc⟩ := unhide H4 (by omega)
      obtain ⟨c0, c1, fa, fl, fc, c2, c3⟩ := hc k hkl
      obtain ⟨f, hf⟩ : ∃ f, f = es[k] := ⟨_, rfl⟩
      rw [← hf] at c0 c1 c3
      have d0 := ((unhide HB).cell (p := ⟨b, off + k * 3, none⟩) hb).trans c0
      have d1 := ((unhide HB).cell (p := ⟨b, off + k * 3 + 1, none⟩) hb).trans c1
      have d2 := ((unhide HB).cell (p := ⟨b, off + k * 3 + 2, none⟩) hb).trans c2
      have HE : Hid (es[k]? = some f) := hide (by rw [hf]; exact List.getElem?_eq_getElem hkl)
      have hfe := unhide HF f (List.mem_of_getElem? (unhide HE))
      have CR := hide (refused_any f.type f.ver fa fl fc f.fields wr hfe.1 (c3.below (unhide HB) (Nat.le_refl _)) hfe.2)
      have hsz := (unhide HB).size
      obtain ⟨ft, fv, ff⟩ := f
      simp only at d0 d1 CR
      clear hf hc c0 c1 c2 c3 hfe
      by_cases he : okEv ⟨ft, fv, ff⟩
      · have HA := hide (ans_true (p := okEvent ft fv ff) he)
        have HJ2 : Hid (∀ j, j < k + 1 → ∀ g, es[j]? = some g → okEv g) := hide (fun j hj g hg => by
          by_cases h : j < k
          · exact unhide HJ j h g hg
          · have : j = k := by omega
            subst this
            rw [unhide HE] at hg
            cases hg
            exact he)
        clear he
        go_wp2_with fail
        refine (unhide CR).mono ?_
        rintro e w2 ⟨rfl, b2⟩
        rw [unhide HA]
        have HB2 := hide ((unhide HB).trans (b2.mono hsz))
        clear b2
        go_wp2
        go_roundw
        case rel => exact ⟨k + 1, by omega, by go_num, HJ2, HB2⟩
        case measure => simp [intOf]; omega
      · have HA := hide (ans_false (p := okEvent ft fv ff) he)
        have HX : Hid (Idx es k) := hide (.inr ⟨k, rfl, _, List.mem_of_getElem? (unhide HE), he⟩)
        clear he
        go_wp2_with fail
        refine (unhide CR).mono ?_
        rintro e w2 ⟨rfl, b2⟩
        rw [unhide HA]
        have HB2 := hide ((unhide HB).trans (b2.mono hsz))
        clear b2
        go_wp2
        go_ret
        exact ⟨_, rfl, unhide HX, unhide HB2⟩
    · have HX : Hid (Idx es (-1)) := hide (.inl ⟨rfl, fun g hg => by
        obtain ⟨j, hj, e⟩ := List.mem_iff_getElem.1 hg
        exact unhide HJ j (by have := unhide HN; omega) g (by rw [List.getElem?_eq_getElem hj, e])⟩)
      go_wp2
      go_ret
      exact ⟨_, rfl, unhide HX, unhide HB⟩

set_option maxHeartbeats 1000000 in
theorem ContainsFunc_go (a : Option Addr) (n c : Nat) (es : List Evn) (w : World) (hv : EvL w (.slice a n c) es) (hfit : ∀ e ∈ es, fitE e) :
    Calls Try.prog 54 #[.slice a n c, .func (.func 55) #[] #[]] w fun e w' => e = .returned (.bool (!ans (∀ e ∈ es, okEv e))) ∧ Below w.heap.size w w' := by
  have CI := hide (IndexFunc_go a n c es w hv hfit)
  clear hv hfit
  go_enter Try.func54, Try.ntmps54
  go_wp2_with fail
  refine (unhide CI).mono ?_
  rintro e w2 ⟨x, rfl, hx, b2⟩
  have HB := hide b2
  rcases hx with ⟨rfl, h⟩ | ⟨k, rfl, g, hg, h⟩
  · have HA := hide (ans_true h)
    clear h b2
    go_wp2
    go_ret
    rw [unhide HA]
    exact ⟨rfl, unhide HB⟩
  · have HA := hide (ans_false (p := ∀ e ∈ es, okEv e) fun h' => h (h' g hg))
    have hk : decide ((0 : Int) ≤ k) = true := decide_eq_true (by omega)
    clear h b2 hg
    go_wp2
    go_ret
    rw [unhide HA]
    exact ⟨by first | rfl | simp, unhide HB⟩

/-- Events that may be: P10.1. -/
def okEvs (es : List Evn) : Prop := 1 ≤ es.length ∧ es.length ≤ 16 ∧ ∀ e ∈ es, okEv e

set_option maxHeartbeats 1000000 in
theorem eventsAllowed_any (a : Option Addr) (n c : Nat) (es : List Evn) (w : World) (hv : EvL w (.slice a n c) es) (hfit : ∀ e ∈ es, fitE e) :
    Calls Try.prog 49 #[.slice a n c] w fun e w' => e = .returned (.bool (ans (okEvs es))) ∧ Below w.heap.size w w' := by
  have CI := hide (ContainsFunc_go a n c es w hv hfit)
  obtain ⟨N, hN⟩ : ∃ N, N = es.length := ⟨_, rfl⟩
  obtain rfl : n = N := by obtain ⟨_, _, e, _⟩ := hv; cases e; exact hN.symm
  have HN := hide hN
  clear hv hfit hN
  by_cases h0 : n = 0
  · subst h0
    have HA := hide (ans_false (p := okEvs es) fun h => by have := h.1; have := unhide HN; omega)
    go_enter Try.func49, Try.ntmps49
    go_wp2
    go_ret
    rw [unhide HA]
    exact ⟨rfl, Below.refl _ _⟩
  · have h0' : decide ((0 : Int) < (n : Int)) = true := decide_eq_true (by omega)
    by_cases h16 : n ≤ 16
    · have h16' : decide ((n : Int) ≤ 16) = true := decide_eq_true (by omega)
      by_cases h : ∀ e ∈ es, okEv e
      · have HA := hide (ans_true (p := okEvs es) ⟨by have := unhide HN; omega, by have := unhide HN; omega, h⟩)
        have HC := hide (ans_true h)
        clear h
        go_enter Try.func49, Try.ntmps49
        go_wp2_with fail
        refine (unhide CI).mono ?_
        rintro e w2 ⟨rfl, b2⟩
        rw [unhide HC]
        have HB := hide b2
        clear b2
        go_wp2
        go_ret
        rw [unhide HA]
        exact ⟨rfl, unhide HB⟩
      · have HA := hide (ans_false (p := okEvs es) fun h' => h h'.2.2)
        have HC := hide (ans_false h)
        clear h
        go_enter Try.func49, Try.ntmps49
        go_wp2_with fail
        refine (unhide CI).mono ?_
        rintro e w2 ⟨rfl, b2⟩
        rw [unhide HC]
        have HB := hide b2
        clear b2
        go_wp2
        go_ret
        rw [unhide HA]
        exact ⟨rfl, unhide HB⟩
    · have h16' : decide ((n : Int) ≤ 16) = false := decide_eq_false (by omega)
      have HA := hide (ans_false (p := okEvs es) fun h => by have := h.2.1; have := unhide HN; omega)
      go_enter Try.func49, Try.ntmps49
      go_wp2
      go_ret
      rw [unhide HA]
      exact ⟨rfl, Below.refl _ _⟩
end Go.Proofs.Ytabcmmhmghgliaa
