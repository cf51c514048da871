/-
  DERIVED. The reader: headers.
-/
import Derived.Test.YtankbanonbmffabGreatDoorRqK
namespace Go.Proofs.YtankbanonbmffabGreatDoor
open Go.RowKit
set_option linter.unusedVariables false

theorem step_append_hd {ops : Array Oper} {o : Oper} {a : Act} {w : World} {K : Act → World → Prop} {Q : Exit → Act → World → Prop} {E : Prop}
    (hg : o.guard = none) (s x : Operand) (ho : o.op = .call { callee := .builtin .append, args := #[s, x], argTypes := #[25, 25] })
    (base : Nat) (v : Value) (R : List Hd) (hs : a.eval s = v) (hown : HOwn w base v R) (q : Nat) (h : Hd) (hx : a.eval x = .slice (some ⟨q, 0, none⟩) 1 1) (hq : w.heap[q]? = some (.cells #[qv h.1, qv h.2] 40 (0, 0))) (hlen : R.length ≤ 1000000000) (hbase : base ≤ w.heap.size)
    (hK : ∀ v' w', HOwn w' base v' (R ++ [h]) → Below base w w' → (∀ (p : Nat) (cur : Array Value) (t : TypeId) (fr : Nat × Nat), w.heap[p]? = some (Obj.cells cur t fr) → t ≠ 40 → w'.heap[p]? = w.heap[p]?) → K (a.put o.dst v') w') :
    if Region.wanted o (yielded ops a.tmps) = true then Oper.wp Tryz.prog o a w K Q else E := by
  have hw : Region.wanted o (yielded ops a.tmps) = true := by simp [Region.wanted, hg]
  rw [if_pos hw]
  obtain ⟨i0, hi, hh⟩ := Option.map_eq_some_iff.1 Tryz.infoHeader
  simp only [Prod.mk.injEq] at hh
  obtain ⟨v', w', hrun, r1, r2, _⟩ := run_append_own (P := Tryz.prog) w base 25 o.type 40 i0 (.agg #[.string ⟨#[]⟩, .string ⟨#[]⟩]) 2 32 Tryz.underlying25 hi hh.1 hh.2.1 hh.2.2 rfl (by decide) v R.length (hcs R) hown ⟨q, 0, none⟩ 1 1 (hcs [h]) (by rw [hcs_len]; rfl) (fun j u hj => by
    rw [addr_add, Nat.zero_add, cell_of_row _ _ _ _ _ _ hq]
    rw [← hj]; simp [hcs]) (hcs_one [h]) (by unfold maxLen; omega) (by omega) hbase
  unfold Oper.wp
  simp [execOp, ho, resolve, invoke, builtin, hs, hx, hrun, Result.andThen]
  refine hK v' w' (by unfold HOwn; rw [hcs_append, List.length_append]; exact r1) ((Below.refl _ _).grown r2 hbase ?_) ?_
  · intro k hk
    rcases hown.2 with ⟨rfl, _⟩ | ⟨g, cap', cur, rfl, hb, _⟩
    · cases hk
    · simp only [Value.ownBlock, Option.some.injEq] at hk; omega
  · intro p cur t fr hp ht
    refine r2.block p (lt_of_block hp) (fun e => ?_)
    rcases hown.2 with ⟨rfl, _⟩ | ⟨g, cap', cur', rfl, hb, hg, _⟩
    · cases e
    · simp only [Value.ownBlock, Option.some.injEq] at e
      subst e
      rw [hp] at hg
      simp only [Option.some.injEq, Obj.cells.injEq] at hg
      exact ht hg.2.1

theorem le_alloc' (w : World) (o : Obj) : w.heap.size ≤ (w.alloc o).heap.size := by simp
def Rs.up {α : Type} (c : Nat) : Rs α → Rs α
  | .ok a n => .ok a (c + n)
  | .no e => .no e
theorem then_ok {α β : Type} {r : Rs α} {a : α} {n : Nat} (h : r = .ok a n) (s : List UInt8) (f : α → List UInt8 → Rs β) : r.then s f = (f a (s.drop n)).up n := by
  subst h
  simp only [Rs.then]
  cases f a (s.drop n) <;> rfl
theorem then_no {α β : Type} {r : Rs α} {e : Int} (h : r = .no e) (s : List UInt8) (f : α → List UInt8 → Rs β) : r.then s f = .no e := by subst h; rfl
theorem up_up {α : Type} (c d : Nat) (r : Rs α) : (r.up d).up c = r.up (c + d) := by cases r <;> simp [Rs.up, Nat.add_assoc]

/-- How far headers is: hs were read, and the line l behind them. -/
structure HdAt (x : List UInt8) (hs : List Hd) (l : List UInt8) (c n : Nat) : Prop where
  len : hs.length ≤ 16
  eq : qHeaders 17 [] x = (qHeaders (17 - hs.length) hs (x.drop c)).up c
  line : qLine 0 (x.drop c) = .ok l n
theorem qHeaders_succ (k : Nat) (hs : List Hd) (s : List UInt8) : qHeaders (k + 1) hs s = (qLine 0 s).then s fun l r => if l = [] then .ok hs 0 else if hs.length < 16 then (match qHeader l with
      | some h => qHeaders k (hs ++ [h]) r
      | none => .no 400) else .no 431 := rfl
theorem HdAt.step {x : List UInt8} {hs : List Hd} {l : List UInt8} {c n : Nat} (h : HdAt x hs l c n) : qHeaders 17 [] x = ((if l = [] then Rs.ok hs 0 else if hs.length < 16 then (match qHeader l with
      | some h => qHeaders (16 - hs.length) (hs ++ [h]) (x.drop (c + n))
      | none => .no 400) else .no 431).up n).up c := by
  have e : 17 - hs.length = (16 - hs.length) + 1 := by have := h.len; omega
  rw [h.eq, e, qHeaders_succ, then_ok h.line, List.drop_drop]
theorem HdAt.done {x : List UInt8} {hs : List Hd} {c n : Nat} (h : HdAt x hs [] c n) : qHeaders 17 [] x = .ok hs (c + n) := by
  rw [h.step, if_pos rfl]; rfl
theorem HdAt.full {x : List UInt8} {hs : List Hd} {l : List UInt8} {c n : Nat} (h : HdAt x hs l c n) (hl : l ≠ []) (h16 : ¬ hs.length < 16) : qHeaders 17 [] x = .no 431 := by
  rw [h.step, if_neg hl, if_neg h16]; rfl
theorem HdAt.bad {x : List UInt8} {hs : List Hd} {l : List UInt8} {c n : Nat} (h : HdAt x hs l c n) (hl : l ≠ []) (h16 : hs.length < 16) (hh : qHeader l = none) : qHeaders 17 [] x = .no 400 := by
  rw [h.step, if_neg hl, if_pos h16, hh]; rfl
theorem HdAt.good {x : List UInt8} {hs : List Hd} {l : List UInt8} {c n : Nat} (h : HdAt x hs l c n) (hl : l ≠ []) (h16 : hs.length < 16) {y : Hd} (hh : qHeader l = some y) : qHeaders 17 [] x = (qHeaders (17 - (hs ++ [y]).length) (hs ++ [y]) (x.drop (c + n))).up (c + n) := by
  rw [h.step, if_neg hl, if_pos h16, hh]
  simp only
  rw [up_up]
  have : 16 - hs.length = 17 - (hs ++ [y]).length := by simp
  rw [this]
theorem HdAt.next {x : List UInt8} {hs : List Hd} {l : List UInt8} {c n : Nat} (h : HdAt x hs l c n) (hl : l ≠ []) (h16 : hs.length < 16) {y : Hd} (hh : qHeader l = some y) {l' : List UInt8} {n' : Nat} (h' : qLine 0 (x.drop (c + n)) = .ok l' n') : HdAt x (hs ++ [y]) l' (c + n) n' :=
  ⟨by simp; omega, h.good hl h16 hh, h'⟩
theorem HdAt.stop {x : List UInt8} {hs : List Hd} {l : List UInt8} {c n : Nat} (h : HdAt x hs l c n) (hl : l ≠ []) (h16 : hs.length < 16) {y : Hd} (hh : qHeader l = some y) {s : Int} (h' : qLine 0 (x.drop (c + n)) = .no s) : qHeaders 17 [] x = .no s := by
  have e : 17 - (hs ++ [y]).length = (17 - (hs ++ [y]).length - 1) + 1 := by simp; omega
  rw [h.good hl h16 hh, e, qHeaders_succ, then_no h']; rfl

/-- How many header lines more there may be. -/
def hdMe (w : World) (g : Nat) : Nat := match w.cell? ⟨g, 5, none⟩ with
  | some (.slice _ n _) => 100 - n
  | _ => 0
theorem hdMe_eq {w : World} {g : Nat} {R : Rd} {a : Option Addr} {n c : Nat} (h : RdAt w g R) (e : R.hv = .slice a n c) : hdMe w g = 100 - n := by
  unfold hdMe
  rw [h.hv_, e]

/-- What headers comes to. -/
def HdrPost (r : Rs (List Hd)) (g : Nat) (R : Rd) (w : World) (e : Ending) (w' : World) : Prop :=
  (match r with
    | .no s => e = panQ s
    | .ok hs n => e = .returned (.tuple #[]) ∧ ∃ hv, RdAt w' g { R with at' := R.at' + n, hv := hv } ∧ HOwn w' w.heap.size hv hs) ∧ QF g w w'

theorem QF.low {q : Nat} {a b : World} (h : QF q a b) (hq : q < a.heap.size) : Below q a b := h.below (Nat.le_refl _) (by omega)

set_option maxHeartbeats 16000000 in
set_option maxRecDepth 20000 in
theorem headers_any (g : Nat) (R : Rd) (w : World) (h : RdAt w g R) (hhv : R.hv = .slice none 0 0) : Calls Tryz.prog 9 #[.pointer (some ⟨g, 0, none⟩)] w (HdrPost (qHeaders 17 [] (R.s.drop R.at')) g R w) := by
  have HC := hide (line_any g R w h)
  obtain ⟨x, hx⟩ : ∃ x, x = R.s.drop R.at' := ⟨_, rfl⟩
  have HX : Hid (∀ c, x.drop c = R.s.drop (R.at' + c)) := hide (fun c => by rw [hx, List.drop_drop])
  obtain ⟨F, hF⟩ : ∃ F, F = qHeaders 17 [] (R.s.drop R.at') := ⟨_, rfl⟩
  have HF := hide hF
  rw [← hx] at HC HF
  rw [← hF]
  have hgl := h.lt
  have HGL := hide hgl
  cases hq : qLine 0 x with
  | no s =>
    rw [hq] at HC
    have HE : Hid (F = .no s) := hide (by rw [unhide HF, qHeaders_succ, then_no hq])
    have HPost : Hid (∀ e w', e = panQ s ∧ QF g w w' → HdrPost F g R w e w') := hide (fun e w' h => by rw [unhide HE]; exact h)
    clear h hq hx hF hhv HX
    go_enter Tryz.func9, Tryz.ntmps9
    go_wp2_with (go_at_call 13; refine (unhide HC).mono ?_; rintro e w1 ⟨rfl, q1⟩; have HB1 := hide q1; clear q1)
    exact ⟨rfl, unhide HPost _ _ ⟨rfl, unhide HB1⟩⟩
  | ok l n =>
    rw [hq] at HC
    have HA0 : Hid (HdAt x [] l 0 n) := hide ⟨by simp, by rw [List.drop_zero]; cases qHeaders 17 [] x <;> simp [Rs.up], by rw [List.drop_zero]; exact hq⟩
    have HO0 : Hid (∀ W, HOwn W w.heap.size R.hv []) := hide (fun W => by rw [hhv]; exact HOwn.nil W w.heap.size)
    clear h hq hx hF hhv
    go_enter Tryz.func9, Tryz.ntmps9
    go_wp2_with (go_at_call 13; refine (unhide HC).mono ?_; rintro e w1 ⟨⟨rfl, r1⟩, q1⟩; have HB1 := hide q1; have HR1 : Hid (RdAt w1 g { R with at' := R.at' + (0 + n), hv := R.hv }) := hide (by rw [Nat.zero_add]; exact r1); clear q1 r1)
    go_loopw [2, 3, 4, 5] (fun lv _ _ _ wr => ∃ (hs : List Hd) (l : List UInt8) (c n : Nat) (hv : Value), lv = qv l ∧ hs.length ≤ 16 ∧ Hid (HdAt x hs l c n) ∧ Hid (RdAt wr g { R with at' := R.at' + (c + n), hv := hv }) ∧ Hid (HOwn wr w.heap.size hv hs) ∧ Hid (QF g w wr)) (fun _ _ _ _ wr => hdMe wr g)
    case atStart => exact ⟨[], l, 0, n, R.hv, rfl, by simp, HA0, HR1, hide (unhide HO0 w1), HB1⟩
    case round =>
      clear HB1 HR1 HA0 HC
      obtain ⟨hs, l, c, n, hv, rfl, h16, HA, HR, HO, HB⟩ := hrel
      obtain ⟨ha, hn, rfl⟩ := (unhide HO).sl
      by_cases hle : l = []
      · have HE : Hid (F = .ok hs (c + n)) := hide (by have := unhide HA; rw [hle] at this; rw [unhide HF]; exact this.done)
        have hl0 : l.isEmpty = true := by rw [hle]; rfl
        clear hle
        go_wp2_with fail
        refine bodyPost_end (results_none rfl _ _ _) rfl ?_
        rw [unhide HE]
        exact ⟨⟨rfl, _, unhide HR, unhide HO⟩, unhide HB⟩
      · have hl1 : l.isEmpty = false := by cases l with
          | nil => exact absurd rfl hle
          | cons _ _ => rfl
        have c5 := (unhide HR).hv_
        have HLL : Hid (l.length ≤ 256) := hide (by have := (qLine_ok _ _ _ _ (unhide HA).line).2.2.1 (by omega); omega)
        by_cases hlt : hs.length < 16
        · have hlti : (hs.length : Int) < 16 := by omega
          obtain ⟨p, hp⟩ : ∃ p, p = qCut 58 l := ⟨_, rfl⟩
          have HCu := hide (fun W => qCut_any l 58 W (by have := unhide HLL; omega))
          have hpl := qCut_len 58 l
          rw [← hp] at HCu hpl
          obtain ⟨p1, p2⟩ := p
          simp only [qcutV] at HCu
          have HP1 : Hid (p1.length ≤ 256) := hide (by have := unhide HLL; have := hpl.1; simp only at this; omega)
          cases p2 with
          | none =>
            have hh : qHeader l = none := by unfold qHeader; rw [← hp]
            have HE : Hid (F = .no 400) := hide (by rw [unhide HF]; exact (unhide HA).bad hle hlt hh)
            have HPost : Hid (∀ e w', e = panQ 400 ∧ QF g w w' → HdrPost F g R w e w') := hide (fun e w' h => by rw [unhide HE]; exact h)
            clear hle hlt hh hp hpl
            go_wp2_with (first | (go_at_call 14; refine (need_ok 431 _).mono ?_; rintro e w2 ⟨rfl, rfl⟩) | (go_at_call 17; refine (unhide HCu _).mono ?_; rintro e w3 ⟨rfl, b3⟩; have HB3 := hide ((unhide HB).grow b3 (unhide HB).size); clear b3) | (go_at_call 14; refine (need_no 400 _).mono ?_; rintro e w2 ⟨rfl, rfl⟩))
            exact ⟨rfl, unhide HPost _ _ ⟨rfl, unhide HB3⟩⟩
          | some vv =>
            have HV1 : Hid (vv.length ≤ 256) := hide (by have := unhide HLL; have := hpl.2 vv rfl; omega)
            have HTo := hide (fun W => isToken_any p1 W (by have := unhide HP1; omega))
            have HVa := hide (fun W => isValue_any vv W (by have := unhide HV1; omega))
            simp only [Option.getD_some, Option.isSome_some] at HCu
            have hh : qHeader l = if qToken p1 && vv.all qVal then some (qSmall p1, qBare vv) else none := by unfold qHeader; rw [← hp]
            obtain ⟨X, hX⟩ : ∃ X, X = qToken p1 := ⟨_, rfl⟩
            rw [← hX] at HTo hh
            obtain ⟨Y, hY⟩ : ∃ Y, Y = vv.all qVal := ⟨_, rfl⟩
            rw [← hY] at HVa hh
            clear hX hY hp hpl
            cases X with
            | false =>
              have HE : Hid (F = .no 400) := hide (by rw [unhide HF]; exact (unhide HA).bad hle hlt (by rw [hh]; rfl))
              have HPost : Hid (∀ e w', e = panQ 400 ∧ QF g w w' → HdrPost F g R w e w') := hide (fun e w' h => by rw [unhide HE]; exact h)
              clear hle hlt hh
              go_wp2_with (first | (go_at_call 14; refine (need_ok 431 _).mono ?_; rintro e w2 ⟨rfl, rfl⟩) | (go_at_call 17; refine (unhide HCu _).mono ?_; rintro e w3 ⟨rfl, b3⟩; have HB3 := hide ((unhide HB).grow b3 (unhide HB).size); clear b3) | (go_at_call 18; refine (unhide HTo _).mono ?_; rintro e w2 ⟨rfl, rfl⟩) | (go_at_call 14; refine (need_no 400 _).mono ?_; rintro e w2 ⟨rfl, rfl⟩))
              exact ⟨rfl, unhide HPost _ _ ⟨rfl, unhide HB3⟩⟩
            | true =>
              cases Y with
              | false =>
                have HE : Hid (F = .no 400) := hide (by rw [unhide HF]; exact (unhide HA).bad hle hlt (by rw [hh]; rfl))
                have HPost : Hid (∀ e w', e = panQ 400 ∧ QF g w w' → HdrPost F g R w e w') := hide (fun e w' h => by rw [unhide HE]; exact h)
                clear hle hlt hh
                go_wp2_with (first | (go_at_call 14; refine (need_ok 431 _).mono ?_; rintro e w2 ⟨rfl, rfl⟩) | (go_at_call 17; refine (unhide HCu _).mono ?_; rintro e w3 ⟨rfl, b3⟩; have HB3 := hide ((unhide HB).grow b3 (unhide HB).size); clear b3) | (go_at_call 18; refine (unhide HTo _).mono ?_; rintro e w2 ⟨rfl, rfl⟩) | (go_at_call 19; refine (unhide HVa _).mono ?_; rintro e w2 ⟨rfl, rfl⟩) | (go_at_call 14; refine (need_no 400 _).mono ?_; rintro e w2 ⟨rfl, rfl⟩))
                exact ⟨rfl, unhide HPost _ _ ⟨rfl, unhide HB3⟩⟩
              | true =>
                have hh' : qHeader l = some (qSmall p1, qBare vv) := by rw [hh]; rfl
                have HNx := hide (fun l' n' h' => (unhide HA).next hle hlt hh' (l' := l') (n' := n') h')
                have HSt := hide (fun s h' => (unhide HA).stop hle hlt hh' (s := s) h')
                have HSm := hide (fun W => small_any' p1 W (by have := unhide HP1; omega))
                have HBa := hide (fun W => bare_any vv W (by have := unhide HV1; omega))
                obtain ⟨y1, hy1⟩ : ∃ y1, y1 = qSmall p1 := ⟨_, rfl⟩
                obtain ⟨y2, hy2⟩ : ∃ y2, y2 = qBare vv := ⟨_, rfl⟩
                rw [← hy1] at HSm HNx
                rw [← hy2] at HBa HNx
                have hlt' := hlt
                have HLT := hide hlt'
                clear hle hlt hh hh' hy1 hy2 hlt'
                go_upto_region 6 with (first | (go_at_call 14; have mk1 : True := trivial; refine (need_ok 431 _).mono ?_; rintro e w2 ⟨rfl, rfl⟩) | (go_at_call 17; refine (unhide HCu _).mono ?_; rintro e w3 ⟨rfl, b3⟩; have HB3 := hide ((unhide HB).grow b3 (unhide HB).size); have HR3 := hide ((unhide HR).same (b3.block g (unhide HR).lt)); have HO3 := hide ((unhide HO).below b3 (Nat.le_refl _)); clear b3 c5) | (go_at_call 18; refine (unhide HTo _).mono ?_; rintro e w3 ⟨rfl, rfl⟩) | (go_at_call 19; refine (unhide HVa _).mono ?_; rintro e w3 ⟨rfl, rfl⟩) | (go_at_call 14; refine (need_ok 400 _).mono ?_; rintro e w3 ⟨rfl, rfl⟩))
                have SA : Hid (∀ W, Below w3.heap.size w3 W → W.cell? ⟨g, 5, none⟩ = some (.slice ha hs.length hn)) := hide (fun W hW => (hW.cell (p := ⟨g, 5, none⟩) (unhide HR3).lt).trans (unhide HR3).hv_)
                have SR : Hid (∀ W, Below w3.heap.size w3 W → RdAt W g { R with at' := R.at' + (c + n), hv := .slice ha hs.length hn }) := hide (fun W hW => (unhide HR3).same (hW.block g (unhide HR3).lt))
                have SO : Hid (∀ W, Below w3.heap.size w3 W → HOwn W w.heap.size (.slice ha hs.length hn) hs) := hide (fun W hW => (unhide HO3).below hW (Nat.le_refl _))
                have HB0 : Hid (Below w3.heap.size w3 w3.drew) := hide (Below.refl _ _).drew
                have HG3 : Hid (w.heap.size ≤ w3.heap.size) := hide (unhide HB3).size
                refine wp_region_peel (n := 16) (L := ?Lh) (S := fun w' => w'.cell? ⟨g, 5, none⟩ = some (.slice ha hs.length hn)) (by kernel_rfl) (by rfl) ?hLh ?hph (unhide SA _ (unhide HB0)) (fun hS => ?_)
                case hLh => (simp only [List.getElem?_toArray, List.getElem?_cons_succ, List.getElem?_cons_zero]; rfl)
                case hph => kernel_rfl
                simp only [List.pop_toArray, List.dropLast_cons_cons, List.dropLast_singleton]
                refine wpAnyH_take (i := 0) (oi := ?ohx0) (v := ?vhx0) ?hhx0 (by kernel_rfl) (by kernel_rfl) (by kernel_rfl) ?qhx0 (Or.inl ⟨?whx0, ?yhx0⟩) hS ?rhx0
                case hhx0 => (simp only [List.getElem?_toArray, List.getElem?_cons_zero]; rfl)
                case whx0 => rfl
                case qhx0 => exact fun _ _ _ h => h
                case yhx0 =>
                  intro w' hSw
                  try dsimp only at hSw
                  go_simp
                  with_reducible rfl
                try simp only [Act.put, List.setIfInBounds_toArray, List.set_cons_zero, List.set_cons_succ]
                refine wpAnyH_take (i := 1) (oi := ?ohx1) (v := ?vhx1) ?hhx1 (by kernel_rfl) (by kernel_rfl) (by kernel_rfl) ?qhx1 (Or.inl ⟨?whx1, ?yhx1⟩) hS ?rhx1
                case hhx1 => (simp only [List.getElem?_toArray, List.getElem?_cons_succ, List.getElem?_cons_zero]; rfl)
                case whx1 => rfl
                case qhx1 => exact fun _ _ _ h => h
                case yhx1 =>
                  intro w' hSw
                  try dsimp only at hSw
                  go_simp
                  with_reducible rfl
                try simp only [Act.put, List.setIfInBounds_toArray, List.set_cons_zero, List.set_cons_succ]
                refine wpAnyH_take (i := 2) (oi := ?ohx2) (v := ?vhx2) ?hhx2 (by kernel_rfl) (by kernel_rfl) (by kernel_rfl) ?qhx2 (Or.inl ⟨?whx2, ?yhx2⟩) hS ?rhx2
                case hhx2 => (simp only [List.getElem?_toArray, List.getElem?_cons_succ, List.getElem?_cons_zero]; rfl)
                case whx2 => rfl
                case qhx2 => exact fun _ _ _ h => h
                case yhx2 =>
                  intro w' hSw
                  try dsimp only at hSw
                  go_simp
                  with_reducible rfl
                try simp only [Act.put, List.setIfInBounds_toArray, List.set_cons_zero, List.set_cons_succ]
                refine wpAnyH_take (i := 3) (oi := ?ohx3) (v := ?vhx3) ?hhx3 (by kernel_rfl) (by kernel_rfl) (by kernel_rfl) ?qhx3 (Or.inl ⟨?whx3, ?yhx3⟩) hS ?rhx3
                case hhx3 => (simp only [List.getElem?_toArray, List.getElem?_cons_succ, List.getElem?_cons_zero]; rfl)
                case whx3 => rfl
                case qhx3 => exact fun _ _ _ h => h
                case yhx3 =>
                  intro w' hSw
                  try dsimp only at hSw
                  go_simp
                  with_reducible rfl
                try simp only [Act.put, List.setIfInBounds_toArray, List.set_cons_zero, List.set_cons_succ]
                refine wpAnyH_take (i := 4) (oi := ?ohx4) (v := ?vhx4) ?hhx4 (by kernel_rfl) (by kernel_rfl) (by kernel_rfl) ?qhx4 (Or.inl ⟨?whx4, ?yhx4⟩) hS ?rhx4
                case hhx4 => (simp only [List.getElem?_toArray, List.getElem?_cons_succ, List.getElem?_cons_zero]; rfl)
                case whx4 => rfl
                case qhx4 => exact fun _ _ _ h => h
                case yhx4 =>
                  intro w' hSw
                  try dsimp only at hSw
                  go_simp
                  with_reducible rfl
                try simp only [Act.put, List.setIfInBounds_toArray, List.set_cons_zero, List.set_cons_succ]
                refine wpAnyH_take (i := 5) (oi := ?ohx5) (v := ?vhx5) ?hhx5 (by kernel_rfl) (by kernel_rfl) (by kernel_rfl) ?qhx5 (Or.inl ⟨?whx5, ?yhx5⟩) hS ?rhx5
                case hhx5 => (simp only [List.getElem?_toArray, List.getElem?_cons_succ, List.getElem?_cons_zero]; rfl)
                case whx5 => rfl
                case qhx5 => exact fun _ _ _ h => h
                case yhx5 =>
                  intro w' hSw
                  try dsimp only at hSw
                  go_simp
                  with_reducible rfl
                try simp only [Act.put, List.setIfInBounds_toArray, List.set_cons_zero, List.set_cons_succ]
                refine wpAnyH_take (i := 6) (oi := ?ohx6) (v := ?vhx6) ?hhx6 (by kernel_rfl) (by kernel_rfl) (by kernel_rfl) ?qhx6 (Or.inl ⟨?whx6, ?yhx6⟩) hS ?rhx6
                case hhx6 => (simp only [List.getElem?_toArray, List.getElem?_cons_succ, List.getElem?_cons_zero]; rfl)
                case whx6 => rfl
                case qhx6 => exact fun _ _ _ h => h
                case yhx6 =>
                  intro w' hSw
                  try dsimp only at hSw
                  go_simp
                  with_reducible rfl
                try simp only [Act.put, List.setIfInBounds_toArray, List.set_cons_zero, List.set_cons_succ]
                refine wpAnyH_take (i := 8) (oi := ?ohx8) (v := ?vhx8) ?hhx8 (by kernel_rfl) (by kernel_rfl) (by kernel_rfl) ?qhx8 (Or.inl ⟨?whx8, ?yhx8⟩) hS ?rhx8
                case hhx8 => (simp only [List.getElem?_toArray, List.getElem?_cons_succ, List.getElem?_cons_zero]; rfl)
                case whx8 => rfl
                case qhx8 => exact fun _ _ _ h => h
                case yhx8 =>
                  intro w' hSw
                  try dsimp only at hSw
                  go_simp
                  with_reducible rfl
                try simp only [Act.put, List.setIfInBounds_toArray, List.set_cons_zero, List.set_cons_succ]
                refine wpAnyH_ready (rs := [7]) (by kernel_rfl) (by simp) ?_
                refine AllReadyH.cons (o := ?ohx7) ?hhx7 (fun K hK => ?_) AllReadyH.nil
                case hhx7 => (simp only [List.getElem?_toArray, List.getElem?_cons_succ, List.getElem?_cons_zero]; rfl)
                go_simp
                refine (unhide HSm _).mono ?_
                rintro e w4 ⟨rfl, b4⟩
                have HB4 : Hid (Below w3.heap.size w3 w4) := hide ((unhide HB0).trans b4)
                clear b4
                refine hK.out _ _ (unhide SA _ (unhide HB4)) (fun hS => ?_)
                clear hK K
                try simp only [Act.put, List.setIfInBounds_toArray, List.set_cons_zero, List.set_cons_succ]
                refine wpAnyH_ready (rs := [9]) (by kernel_rfl) (by simp) ?_
                refine AllReadyH.cons (o := ?ohx9) ?hhx9 (fun K hK => ?_) AllReadyH.nil
                case hhx9 => (simp only [List.getElem?_toArray, List.getElem?_cons_succ, List.getElem?_cons_zero]; rfl)
                go_simp
                refine (unhide HBa _).mono ?_
                rintro e w5 ⟨rfl, b5⟩
                have HB5 : Hid (Below w3.heap.size w3 w5) := hide ((unhide HB4).trans (b5.mono (unhide HB4).size))
                clear b5
                refine hK.out _ _ (unhide SA _ (unhide HB5)) (fun hS => ?_)
                clear hK K
                try simp only [Act.put, List.setIfInBounds_toArray, List.set_cons_zero, List.set_cons_succ]
                refine wpAnyH_take (i := 10) (oi := ?ohx10) (v := ?vhx10) ?hhx10 (by kernel_rfl) (by kernel_rfl) (by kernel_rfl) ?qhx10 (Or.inl ⟨?whx10, ?yhx10⟩) hS ?rhx10
                case hhx10 => (simp only [List.getElem?_toArray, List.getElem?_cons_succ, List.getElem?_cons_zero]; rfl)
                case whx10 => rfl
                case qhx10 => exact fun _ _ _ h => h
                case yhx10 =>
                  intro w' hSw
                  try dsimp only at hSw
                  go_simp
                  with_reducible rfl
                try simp only [Act.put, List.setIfInBounds_toArray, List.set_cons_zero, List.set_cons_succ]
                refine wpAnyH_ready (rs := [11]) (by kernel_rfl) (by simp) ?_
                refine AllReadyH.cons (o := ?ohx11) ?hhx11 (fun K hK => ?_) AllReadyH.nil
                case hhx11 => (simp only [List.getElem?_toArray, List.getElem?_cons_succ, List.getElem?_cons_zero]; rfl)
                go_simp
                refine hK.out _ _ (unhide SA _ ((unhide HB5).alloc (unhide HB5).size _)) (fun hS => ?_)
                clear hK K
                try simp only [Act.put, List.setIfInBounds_toArray, List.set_cons_zero, List.set_cons_succ]
                refine wpAnyH_ready (rs := [12]) (by kernel_rfl) (by simp) ?_
                refine AllReadyH.cons (o := ?ohx12) ?hhx12 (fun K hK => ?_) AllReadyH.nil
                case hhx12 => (simp only [List.getElem?_toArray, List.getElem?_cons_succ, List.getElem?_cons_zero]; rfl)
                refine step_append_hd (by rfl) _ _ (by rfl) w.heap.size (.slice ha hs.length hn) hs (by rfl) (unhide SO _ ((unhide HB5).alloc (unhide HB5).size _)) w5.heap.size (y1, y2) (by rfl) (heap_alloc_new _ _) (by have := unhide HLT; omega) (Nat.le_trans (unhide HG3) (Nat.le_trans (unhide HB5).size (le_alloc' _ _))) ?_
                intro v6 w6 own6 b6 k6
                have HO6 := hide own6
                have HR6 := hide ((unhide SR _ ((unhide HB5).alloc (unhide HB5).size _)).same (k6 g _ _ _ (unhide SR _ ((unhide HB5).alloc (unhide HB5).size _)).1 (by decide)))
                have HB6 : Hid (QF g w w6) := hide (((unhide HB3).grow ((unhide HB5).alloc (unhide HB5).size (.cells #[qv y1, qv y2] 40)) (unhide HB3).size).grow b6 (Nat.le_refl _))
                clear own6 b6 k6
                refine hK.out _ _ ((unhide HR6).hv_) (fun hS => ?_)
                clear hK K
                try simp only [Act.put, List.setIfInBounds_toArray, List.set_cons_zero, List.set_cons_succ]
                refine wpAnyH_take (i := 13) (oi := ?ohx13) (v := ?vhx13) ?hhx13 (by kernel_rfl) (by kernel_rfl) (by kernel_rfl) ?qhx13 (Or.inl ⟨?whx13, ?yhx13⟩) hS ?rhx13
                case hhx13 => (simp only [List.getElem?_toArray, List.getElem?_cons_succ, List.getElem?_cons_zero]; rfl)
                case whx13 => rfl
                case qhx13 => exact fun _ _ _ h => h
                case yhx13 =>
                  intro w' hSw
                  try dsimp only at hSw
                  go_simp
                  with_reducible rfl
                try simp only [Act.put, List.setIfInBounds_toArray, List.set_cons_zero, List.set_cons_succ]
                refine wpAnyH_take (i := 14) (oi := ?ohx14) (v := ?vhx14) ?hhx14 (by kernel_rfl) (by kernel_rfl) (by kernel_rfl) ?qhx14 (Or.inl ⟨?whx14, ?yhx14⟩) hS ?rhx14
                case hhx14 => (simp only [List.getElem?_toArray, List.getElem?_cons_succ, List.getElem?_cons_zero]; rfl)
                case whx14 => rfl
                case qhx14 => exact fun _ _ _ h => h
                case yhx14 =>
                  intro w' hSw
                  try dsimp only at hSw
                  go_simp
                  with_reducible rfl
                try simp only [Act.put, List.setIfInBounds_toArray, List.set_cons_zero, List.set_cons_succ]
                refine wpAnyH_take (i := 15) (oi := ?ohx15) (v := ?vhx15) ?hhx15 (by kernel_rfl) (by kernel_rfl) (by kernel_rfl) ?qhx15 (Or.inl ⟨?whx15, ?yhx15⟩) hS ?rhx15
                case hhx15 => (simp only [List.getElem?_toArray, List.getElem?_cons_succ, List.getElem?_cons_zero]; rfl)
                case whx15 => rfl
                case qhx15 => exact fun _ _ _ h => h
                case yhx15 =>
                  intro w' hSw
                  try dsimp only at hSw
                  go_simp
                  with_reducible rfl
                try simp only [Act.put, List.setIfInBounds_toArray, List.set_cons_zero, List.set_cons_succ]
                refine wpAnyH_done (by kernel_rfl) ?_ _
                unfold peelQ
                have u6 := (unhide HR6).hv_
                have f6 := (unhide HR6).fz 5
                simp only at u6
                have HR7 := hide ((unhide HR6).setH v6)
                have HO7 := hide ((unhide HO6).qf ((QF.refl g w6).set 5 v6) (unhide HR6))
                have HB7 := hide ((unhide HB6).set 5 v6)
                obtain ⟨a6, n6, c6, rfl, hn6⟩ : ∃ a n c, v6 = .slice a n c ∧ n = (hs ++ [(y1, y2)]).length := by
                  obtain ⟨a, c, e⟩ := (unhide HO6).sl
                  exact ⟨a, _, c, e, rfl⟩
                have HN6 := hide hn6
                clear hn6
                have HLn := hide (fun W R' (h : RdAt W g R') => line_any g R' W h)
                go_simp
                go_upto_region 2 with fail
                obtain ⟨w7, hw7⟩ : ∃ w7, w7 = w6.setCell ⟨g, 5, none⟩ (.slice a6 n6 c6) := ⟨_, rfl⟩
                rw [← hw7] at HR7 HO7 HB7 ⊢
                have HL7 := unhide HLn w7 _ (unhide HR7)
                simp only at HL7
                rw [← unhide HX] at HL7
                have HM1 := hide (hdMe_eq (unhide HR) rfl)
                have HM2 := hide (hdMe_eq (unhide HR7) rfl)
                clear hw7 u6 f6
                cases hq7 : qLine 0 (x.drop (c + n)) with
                | no s =>
                  rw [hq7] at HL7
                  have HE : Hid (F = .no s) := hide (by rw [unhide HF]; exact unhide HSt s hq7)
                  have HPost : Hid (∀ e w', e = panQ s ∧ QF g w w' → HdrPost F g R w e w') := hide (fun e w' h => by rw [unhide HE]; exact h)
                  have HL8 := hide HL7
                  clear HL7 hq7
                  go_wp2_with (go_at_call 13; refine (unhide HL8).mono ?_; rintro e w8 ⟨rfl, q8⟩; have HB8 := hide ((unhide HB7).trans q8); clear q8)
                  exact ⟨rfl, unhide HPost _ _ ⟨rfl, unhide HB8⟩⟩
                | ok l' n' =>
                  rw [hq7] at HL7
                  have HA8 := hide (unhide HNx l' n' hq7)
                  have HL8 := hide HL7
                  clear HL7 hq7
                  go_wp2_with (go_at_call 13; refine (unhide HL8).mono ?_; rintro e w8 ⟨⟨rfl, r8⟩, q8⟩; have HB8 := hide ((unhide HB7).trans q8); have HR8 : Hid (RdAt w8 g { R with at' := R.at' + (c + n + n'), hv := .slice a6 n6 c6 }) := hide (by rw [← Nat.add_assoc]; exact r8); have HO8 := hide ((unhide HO7).qf q8 (unhide HR7)); have HM8 := hide (hdMe_eq (unhide HR8) rfl); clear q8 r8)
                  go_roundw
                  case rel => exact ⟨hs ++ [(y1, y2)], l', c + n, n', _, rfl, by rw [List.length_append]; have := unhide HLT; simp; omega, HA8, HR8, HO8, HB8⟩
                  case measure => rw [unhide HM1, unhide HM8, unhide HN6, List.length_append]; have := unhide HLT; simp; omega
        · have hlti : decide ((hs.length : Int) < 16) = false := decide_eq_false (by omega)
          have HE : Hid (F = .no 431) := hide (by rw [unhide HF]; exact (unhide HA).full hle hlt)
          have HPost : Hid (∀ e w', e = panQ 431 ∧ QF g w w' → HdrPost F g R w e w') := hide (fun e w' h => by rw [unhide HE]; exact h)
          clear hle hlt
          go_wp2_with (go_at_call 14; refine (need_no 431 _).mono ?_; rintro e w2 ⟨rfl, rfl⟩)
          exact ⟨rfl, unhide HPost _ _ ⟨rfl, unhide HB⟩⟩
end Go.Proofs.YtankbanonbmffabGreatDoor
