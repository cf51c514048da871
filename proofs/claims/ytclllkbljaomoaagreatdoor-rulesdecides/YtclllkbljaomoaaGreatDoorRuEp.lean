/-
  DERIVED. The document's needs and made.
-/
import Derived.Test.YtclllkbljaomoaaGreatDoorRuEm
import Derived.Test.YtclllkbljaomoaaGreatDoorRuDg
import Derived.Test.YtclllkbljaomoaaGreatDoorShpl
import Derived.Deep.RegionHeld3
namespace Go.Proofs.YtclllkbljaomoaaGreatDoor
open Go.RowKit
set_option linter.unusedVariables false

/-- Has a command the fields that it must have? -/
def needB (m : List Fld) (l : List Ne) : Bool := decide (l.length = m.length) && l.all (needOk m)
theorem needB_R (m : List Fld) (l : List Ne) : needR m l = if needB m l then .ok () else .error 137 := by
  unfold needR needB
  by_cases h : m.length = l.length
  · rw [if_neg (by omega), decide_eq_true h.symm, Bool.true_and]
  · rw [if_pos h, decide_eq_false (by omega), Bool.false_and]
    rfl

set_option maxRecDepth 20000 in
set_option maxHeartbeats 8000000 in
theorem rneeds_any (na : Option Addr) (nc : Nat) (l : List Ne) (ma : Option Addr) (mc : Nat) (m : List Fld) (w : World) (hl : SlOf 2 NeAt w (.slice na l.length nc) l) (hm : FdL w (.slice ma m.length mc) m) :
    Calls Tryz.prog 50 #[.slice na l.length nc, .slice ma m.length mc] w fun e w' => e = .returned (.bool (needB m l)) ∧ Below w.heap.size w w' := by
  obtain ⟨-, hl1, hl2⟩ := hl.len
  have HLk : Hid (∀ (k : Nat) (x : Ne), l[k]? = some x → ∃ b off, na = some ⟨b, off, none⟩ ∧ ∀ W, Below w.heap.size w W → NeAt W b (off + k * 2) x) := hide (fun k x hk => by
    obtain ⟨b, off, e, _, hat⟩ := hl.at hk
    exact ⟨b, off, e, fun W hW => hat.grown hW⟩)
  have HG : Hid (∀ W, Below w.heap.size w W → ∀ nm, Calls Tryz.prog 43 #[.slice ma m.length mc, sv nm] W fun e w' => e = .returned (.tuple #[.agg (fv (getA m nm)), .bool (hasF m nm)]) ∧ Below W.heap.size W w') := hide (fun W hW nm => rGet_any ma m.length mc m nm W (hm.below hW (Nat.le_refl _)))
  obtain ⟨N, hN⟩ : ∃ N, N = l.length := ⟨_, rfl⟩
  obtain ⟨M, hM⟩ : ∃ M, M = m.length := ⟨_, rfl⟩
  obtain ⟨R, hR⟩ : ∃ R, R = needB m l := ⟨_, rfl⟩
  have HR : Hid (R = (decide (N = M) && l.all (needOk m))) := hide (by rw [hR, hN, hM]; rfl)
  rw [← hR, ← hN, ← hM]
  rw [← hN] at hl1
  rw [← hM] at HG
  have HN := hide hN
  clear hl hm hR hN hM
  go_enter Tryz.func50, Tryz.ntmps50
  by_cases hNM : N = M
  · subst hNM
    have HR2 : Hid (R = l.all (needOk m)) := hide (by rw [unhide HR, decide_eq_true rfl, Bool.true_and])
    go_wp2_with fail
    go_loopw [5, 6, 7] (fun i _ _ wr => ∃ (k : Nat), k ≤ N ∧ i = .int .i64 k ∧ Hid ((l.take k).all (needOk m) = true) ∧ Hid (Below w.heap.size w wr)) (fun i _ _ _ => N - (intOf i).toNat)
    case atStart => exact ⟨0, by omega, rfl, hide rfl, hide (Below.refl _ _)⟩
    case round =>
      obtain ⟨k, hk, rfl, HA, HB⟩ := hrel
      by_cases hlt : k < N
      · obtain ⟨⟨nm, tx⟩, hx⟩ : ∃ x, l[k]? = some x := ⟨_, List.getElem?_eq_getElem (by have := unhide HN; omega)⟩
        obtain ⟨b, off, rfl, hat⟩ := unhide HLk k _ hx
        have HAt := hide hat
        obtain ⟨c0, c1⟩ := hat wr (unhide HB)
        simp only at c0 c1
        have HC := hide (unhide HG wr (unhide HB) nm)
        have HOk : Hid (needOk m ⟨nm, tx⟩ = (hasF m nm && ((getA m nm).text == tx))) := hide rfl
        obtain ⟨T, hT⟩ : ∃ T, T = hasF m nm := ⟨_, rfl⟩
        obtain ⟨⟨fn, ft, fi, fz⟩, hF⟩ : ∃ F, F = getA m nm := ⟨_, rfl⟩
        rw [← hT, ← hF] at HC HOk
        simp only at HOk
        have hki : (k : Int) < (N : Int) := by omega
        have hk0 : ¬ (k : Int) < 0 := by omega
        have HX := hide hx
        clear hat hx hT hF
        go_upto_region 7 with (go_at_call 43; refine (unhide HC).mono ?_; rintro e w3 ⟨rfl, b3⟩; have HB3 := hide ((unhide HB).trans (b3.mono (unhide HB).size)); clear b3)
        have hb4 : Below w.heap.size w (w3.alloc (.cells (fv ⟨fn, ft, fi, fz⟩) 37)) := (unhide HB3).alloc (unhide HB3).size _
        have hf4 := FBox.new w3 ⟨fn, ft, fi, fz⟩
        obtain ⟨w4, hw4⟩ : ∃ w4, w4 = w3.alloc (.cells (fv ⟨fn, ft, fi, fz⟩) 37) := ⟨_, rfl⟩
        rw [show w3.alloc (.cells #[Value.string ⟨fn.toArray⟩, .bool ft, .int .i64 fi, .string ⟨fz.toArray⟩] 37) = w4 from hw4.symm]
        rw [← hw4] at hb4 hf4
        obtain ⟨q, hq⟩ : ∃ q, q = w3.heap.size := ⟨_, rfl⟩
        rw [← hq] at hf4 ⊢
        obtain ⟨-, f1, -, -, -⟩ := hf4.cells
        simp only at f1
        have f1n : ∀ n, (w4.drewN n).cell? ⟨q, 1, none⟩ = some (.bool ft) := fun _ => f1
        have c1n : ∀ n, (w4.drewN n).cell? ⟨b, off + k * 2 + 1, none⟩ = some (.bool tx) := fun n => (unhide HAt w4 hb4).2
        have HB4 := hide (fun n => below_drewN hb4 n)
        clear c0 c1 hw4 hq hf4 hb4 f1 HC
        cases T with
        | false =>
          have HRf : Hid (R = false) := hide (by rw [unhide HR2]; exact all_bad (unhide HX) (by rw [unhide HOk]; rfl))
          go_quiet (fail)
          go_wp2_with fail
          go_ret
          exact ⟨by rw [unhide HRf]; rfl, unhide HB4 _⟩
        | true =>
          have HOk2 : Hid (needOk m ⟨nm, tx⟩ = (ft == tx)) := hide (by rw [unhide HOk, Bool.true_and])
          by_cases ht : ft = tx
          · subst ht
            have HA2 : Hid ((l.take (k + 1)).all (needOk m) = true) := hide (all_snoc (unhide HX) (by rw [unhide HOk2]; simp) (unhide HA))
            go_quiet (fail)
            go_wp2_with fail
            go_roundw
            case rel => exact ⟨k + 1, by omega, by go_num, HA2, hide (unhide HB4 _)⟩
            case measure => simp [intOf]; omega
          · have HRf : Hid (R = false) := hide (by rw [unhide HR2]; exact all_bad (unhide HX) (by rw [unhide HOk2]; simpa using ht))
            cases ft <;> cases tx
            · exact absurd rfl ht
            · clear ht
              go_quiet (fail)
              go_wp2_with fail
              go_ret
              exact ⟨by rw [unhide HRf]; rfl, unhide HB4 _⟩
            · clear ht
              go_quiet (fail)
              go_wp2_with fail
              go_ret
              exact ⟨by rw [unhide HRf]; rfl, unhide HB4 _⟩
            · exact absurd rfl ht
      · have HRt : Hid (R = true) := hide (by rw [unhide HR2]; have := unhide HA; rwa [List.take_of_length_le (by have := unhide HN; omega)] at this)
        go_wp2_with fail
        go_ret
        exact ⟨by rw [unhide HRt]; rfl, unhide HB⟩
  · have HRf : Hid (R = false) := hide (by rw [unhide HR, decide_eq_false hNM, Bool.false_and])
    have hne : ((N : Int) != (M : Int)) = true := by simp; omega
    clear hNM
    go_wp2_with fail
    go_ret
    exact ⟨by rw [unhide HRf]; rfl, Below.refl _ _⟩
end Go.Proofs.YtclllkbljaomoaaGreatDoor

namespace Go.Proofs.YtclllkbljaomoaaGreatDoor
open Go.RowKit
set_option linter.unusedVariables false

/-- An event of a decision, by the document. -/
def madeP (st : List UInt8) (l m : List Fld) (x : Em) : Except Int EvM := match setsG (evalE st l m) [] x.sets with
  | .error e => .error e
  | .ok fs => .ok ⟨x.type, fs⟩
theorem madeP_R (st : List UInt8) (l m : List Fld) (x : Em) : madeP st l m x = eventR ⟨st, l, m, none, 0, none, 0, 0⟩ x := rfl

/-- What made comes to. -/
def MadeE (w : World) (r : Except Int EvM) (e : Ending) (w' : World) : Prop :=
  (match r with
    | .ok v => ∃ a c, e = .returned (.tuple #[.agg (emvV v.type (.slice a v.fields.length c)), .int .i64 0]) ∧ FOwn w' w.heap.size (.slice a v.fields.length c) v.fields
    | .error n => e = .returned (.tuple #[.agg ev00, .int .i64 n])) ∧ Below w.heap.size w w'

/-- Where made stands. -/
structure MdSt (w wr : World) (B : Nat) (em : Array Value) (tp : List UInt8) (v : Value) (cur : List Fld) (k : Nat) : Prop where
  bel : Below w.heap.size w wr
  eb : wr.heap[B]? = some (.cells em 104 (0, 0))
  rb : wr.heap[B + 1]? = some (.cells ev00 50 (0, 0))
  ob : wr.heap[B + 2]? = some (.cells (emvV tp v) 50 (0, 0))
  own : FOwn wr (B + 3) v cur
  len : cur.length ≤ k
  siz : B + 3 ≤ wr.heap.size
theorem MdSt.grown {w wr wr' : World} {B : Nat} {em : Array Value} {tp : List UInt8} {v : Value} {cur : List Fld} {k : Nat} (h : MdSt w wr B em tp v cur k) (hb : Below wr.heap.size wr wr') : MdSt w wr' B em tp v cur k :=
  have hs := h.siz
  ⟨h.bel.trans (hb.mono h.bel.size), (hb.block _ (by omega)).trans h.eb, (hb.block _ (by omega)).trans h.rb, (hb.block _ (by omega)).trans h.ob, h.own.below hb (Nat.le_refl _), h.len, by have := hb.size; omega⟩
theorem fown_set1 {w : World} {base q i : Nat} {v : Value} {L : List Fld} (h : FOwn w base v L) (hq : q < base) (x : Value) : FOwn (w.setCell ⟨q, i, none⟩ x) base v L := by
  obtain ⟨h1, h2⟩ := h
  refine ⟨h1, ?_⟩
  rcases h2 with h | ⟨g, cap, cu, a1, b1, c1, r1⟩
  · exact .inl h
  · exact .inr ⟨g, cap, cu, a1, b1, (heap_setCell_other _ ⟨q, i, none⟩ _ _ (show g ≠ q by omega)).trans c1, r1⟩
theorem MdSt.put {w wr wr' : World} {B : Nat} {em : Array Value} {tp : List UInt8} {v v' : Value} {cur cur' : List Fld} {k : Nat} (h : MdSt w wr B em tp v cur k) (hB : B = w.heap.size) (hb : Below wr.heap.size wr wr') (ho : FOwn wr' wr.heap.size v' cur') (hl : cur'.length ≤ k + 1) : MdSt w (wr'.setCell ⟨B + 2, 2, none⟩ v') B em tp v' cur' (k + 1) := by
  have g := h.grown hb
  have hs := h.siz
  refine ⟨g.bel.setCell (show w.heap.size ≤ B + 2 by omega) _, (heap_setCell_other _ ⟨B + 2, 2, none⟩ _ _ (show B ≠ B + 2 by omega)).trans g.eb, (heap_setCell_other _ ⟨B + 2, 2, none⟩ _ _ (show B + 1 ≠ B + 2 by omega)).trans g.rb, ?_, fown_set1 (ho.mono hs) (by omega) _, hl, by rw [show (wr'.setCell ⟨B + 2, 2, none⟩ v').heap.size = wr'.heap.size by simp [World.setCell]]; exact g.siz⟩
  rw [heap_setCell_same _ (B + 2) 2 _ _ _ g.ob]
  rfl

set_option maxRecDepth 20000 in
set_option maxHeartbeats 8000000 in
theorem rmade_any (st : List UInt8) (l m : List Fld) (la : Option Addr) (lc : Nat) (ma : Option Addr) (mc : Nat) (x : Em) (xa : Option Addr) (xc : Nat) (w : World) (hx : SlOf 5 AsAt w (.slice xa x.sets.length xc) x.sets) (hxl : x.sets.length ≤ 2000000000000) (hl : FdL w (.slice la l.length lc) l) (hm : FdL w (.slice ma m.length mc) m) (hst : st.length ≤ 140737488355328) (hfs : ∀ f ∈ l, small f) (hfg : ∀ f ∈ m, small f) (hva : Vars w) :
    Calls Tryz.prog 104 #[.agg #[sv x.type, .slice xa x.sets.length xc], sv st, .slice la l.length lc, .slice ma m.length mc] w (MadeE w (madeP st l m x)) := by
  obtain ⟨tp, sets⟩ := x
  simp only at hx hxl ⊢
  have hb3 := below3 w (.cells #[sv tp, .slice xa sets.length xc] 104) (.cells ev00 50) (.cells (emvV tp (.slice none 0 0)) 50)
  obtain ⟨h0, h1, h2⟩ := boxes3 w (.cells #[sv tp, .slice xa sets.length xc] 104) (.cells ev00 50) (.cells (emvV tp (.slice none 0 0)) 50)
  have hsz : (((w.alloc (.cells #[sv tp, .slice xa sets.length xc] 104)).alloc (.cells ev00 50)).alloc (.cells (emvV tp (.slice none 0 0)) 50)).heap.size = w.heap.size + 3 := by simp
  obtain ⟨w3, hw3⟩ : ∃ w3, w3 = ((w.alloc (.cells #[sv tp, .slice xa sets.length xc] 104)).alloc (.cells ev00 50)).alloc (.cells (emvV tp (.slice none 0 0)) 50) := ⟨_, rfl⟩
  rw [← hw3] at hb3 h0 h1 h2 hsz
  have HW := hide hw3
  obtain ⟨B, hB⟩ : ∃ B, B = w.heap.size := ⟨_, rfl⟩
  have HBe := hide hB
  rw [← hB] at h0 h1 h2 hsz
  obtain ⟨N, hN⟩ : ∃ N, N = sets.length := ⟨_, rfl⟩
  have HN := hide hN
  have HSt : Hid (MdSt w w3 B #[sv tp, .slice xa N xc] tp (.slice none 0 0) [] 0) := hide ⟨hb3, by rw [hN]; exact h0, h1, h2, fown_nil _ _, by simp, by omega⟩
  have HSk : Hid (∀ (k : Nat) (s : As), sets[k]? = some s → ∃ b off, xa = some ⟨b, off, none⟩ ∧ ∀ W, Below w.heap.size w W → AsAt W b (off + k * 5) s) := hide (fun k s hk => by
    obtain ⟨b, off, e, _, hat⟩ := hx.at hk
    exact ⟨b, off, e, fun W hW => hat.grown hW⟩)
  have HEv : Hid (∀ (W : World) (x : Ex) (a : Option Addr) (c : Nat), Below w.heap.size w W → ExAt W x a c → Calls Tryz.prog 13 #[.agg (exV x a c), sv st, .slice la l.length lc, .slice ma m.length mc] W fun e w' => CaughtF (evalE st l m x) e ∧ Below W.heap.size W w') := hide (fun W x a c hW hx =>
    rEval_any st l m la lc ma mc x a c W hx (hl.below hW (Nat.le_refl _)) (hm.below hW (Nat.le_refl _)) hst hfs hfg (hva.below hW (Nat.le_refl _)))
  have hl1 := hx.len.2.1
  have hl2 := hx.len.2.2
  have HErr : Hid (∀ x n, evalE st l m x = .error n → n ≠ 0) := hide (fun x n h => evalE_err h)
  obtain ⟨ev, hev⟩ : ∃ ev : Ex → Except Int Fld, ev = evalE st l m := ⟨_, rfl⟩
  obtain ⟨R, hR⟩ : ∃ R, R = madeP st l m ⟨tp, sets⟩ := ⟨_, rfl⟩
  rw [← hR]
  have HR : Hid (R = match setsG ev [] sets with | .error e => .error e | .ok fs => .ok ⟨tp, fs⟩) := hide (by rw [hR, hev]; rfl)
  have HEv : Hid (∀ (W : World) (x : Ex) (a : Option Addr) (c : Nat), Below w.heap.size w W → ExAt W x a c → Calls Tryz.prog 13 #[.agg (exV x a c), sv st, .slice la l.length lc, .slice ma m.length mc] W fun e w' => CaughtF (ev x) e ∧ Below W.heap.size W w') := hide (by rw [hev]; exact unhide HEv)
  have HErr : Hid (∀ x n, ev x = .error n → n ≠ 0) := hide (by rw [hev]; exact unhide HErr)
  rw [← hN] at hxl hl1 HW ⊢
  obtain ⟨NL, hNL⟩ : ∃ NL, NL = l.length := ⟨_, rfl⟩
  obtain ⟨NM, hNM⟩ : ∃ NM, NM = m.length := ⟨_, rfl⟩
  rw [← hNL, ← hNM] at HEv ⊢
  clear hx hl hm hst hfs hfg hva hw3 hb3 h0 h1 h2 hB hN hev hR hsz hNL hNM
  go_enter Tryz.func104, Tryz.ntmps104
  go_upto_region 2 with fail
  rw [show ((w.alloc (.cells #[Value.string ⟨tp.toArray⟩, .slice xa N xc] 104)).alloc (.cells #[Value.string ⟨#[]⟩, .int .i64 0, .slice none 0 0] 50)).alloc (.cells #[Value.string ⟨tp.toArray⟩, .int .i64 0, .slice none 0 0] 50) = w3 from (unhide HW).symm]
  rw [← unhide HBe]
  go_wp2_with fail
  go_loopw [11, 12, 13] (fun i _ _ wr => ∃ (k : Nat) (v : Value) (cur : List Fld), k ≤ N ∧ i = .int .i64 k ∧ Hid (setsG ev [] sets = setsG ev cur (sets.drop k)) ∧ Hid (MdSt w wr B #[sv tp, .slice xa N xc] tp v cur k)) (fun i _ _ _ => N - (intOf i).toNat)
  case atStart => exact ⟨0, _, [], by omega, rfl, hide (by simp), HSt⟩
  case round =>
    obtain ⟨k, v, cur, hk, rfl, HA, HF⟩ := hrel
    clear HSt
    obtain ⟨ca, cc, rfl, hfn0⟩ := (unhide HF).own.fdn
    obtain ⟨p0, p1⟩ : wr.cell? ⟨B, 0, none⟩ = some (sv tp) ∧ wr.cell? ⟨B, 1, none⟩ = some (.slice xa N xc) := ⟨(cell_of_row _ _ _ _ _ _ (unhide HF).eb).trans rfl, (cell_of_row _ _ _ _ _ _ (unhide HF).eb).trans rfl⟩
    have HFN := hide hfn0
    clear hfn0
    by_cases hlt : k < N
    · obtain ⟨⟨nm, x⟩, huk⟩ : ∃ u, sets[k]? = some u := ⟨_, List.getElem?_eq_getElem (by have := unhide HN; omega)⟩
      have HDr := hide (drop_consT huk)
      obtain ⟨b, off, rfl, hat⟩ := unhide HSk k _ huk
      obtain ⟨e0, e1, e2, e3, ea, ec, e4, hx⟩ := hat wr (unhide HF).bel
      simp only at e0 e1 e2 e3 e4 hx
      replace e2 : wr.cell? ⟨b, off + k * 5 + 2, none⟩ = _ := e2
      replace e3 : wr.cell? ⟨b, off + k * 5 + 3, none⟩ = _ := e3
      replace e4 : wr.cell? ⟨b, off + k * 5 + 4, none⟩ = _ := e4
      have hki : (k : Int) < (N : Int) := by omega
      have hk0 : ¬ (k : Int) < 0 := by omega
      have HC := hide (unhide HEv wr x ea ec (unhide HF).bel hx)
      have HE0 : Hid (∀ W, Below wr.heap.size wr W → W.cell? ⟨b, off + k * 5, none⟩ = some (sv nm)) := hide (fun W hW => kept hW e0)
      have HZ := hide (unhide HErr x)
      obtain ⟨T, hT⟩ : ∃ T, T = ev x := ⟨_, rfl⟩
      rw [← hT] at HC HZ
      have HT := hide hT
      obtain ⟨F, hF⟩ : ∃ F, F = valO T := ⟨_, rfl⟩
      obtain ⟨M, hM⟩ : ∃ M, M = errO T := ⟨_, rfl⟩
      have HFM := hide (And.intro hF hM)
      have HC2 : Hid (Calls Tryz.prog 13 #[.agg (exV x ea ec), sv st, .slice la NL lc, .slice ma NM mc] wr fun e w' => e = .returned (.tuple #[.agg (fv F), .int .i64 M]) ∧ Below wr.heap.size wr w') := hide ((unhide HC).mono fun e w' q => ⟨by rw [hF, hM]; exact (caught_two q.1).1, q.2⟩)
      clear hT hF hM HC hx huk hat
      obtain ⟨fn, ft, fi, fz⟩ := F
      go_upto_region 6 with (go_at_call 13; refine (unhide HC2).mono ?_; rintro e w5 ⟨rfl, b5⟩; have HB5 := hide b5; clear b5)
      have hb6 : Below wr.heap.size wr (w5.alloc (.cells (fv ⟨fn, ft, fi, fz⟩) 37)) := (unhide HB5).alloc (unhide HB5).size _
      have hf6 := FBox.new w5 ⟨fn, ft, fi, fz⟩
      have hq6 : wr.heap.size ≤ w5.heap.size := (unhide HB5).size
      obtain ⟨w6, hw6⟩ : ∃ w6, w6 = w5.alloc (.cells (fv ⟨fn, ft, fi, fz⟩) 37) := ⟨_, rfl⟩
      rw [show w5.alloc (.cells #[Value.string ⟨fn.toArray⟩, .bool ft, .int .i64 fi, .string ⟨fz.toArray⟩] 37) = w6 from hw6.symm]
      rw [← hw6] at hb6 hf6
      obtain ⟨q, hq⟩ : ∃ q, q = w5.heap.size := ⟨_, rfl⟩
      rw [← hq] at hf6 hq6 ⊢
      clear hw6 hq HC2 p0 p1 e0 e1 e2 e3 e4
      by_cases hM0 : M = 0
      · subst hM0
        have hTo : T = .ok ⟨fn, ft, fi, fz⟩ := by
          have := errO_ok (unhide HFM).2.symm (unhide HZ)
          rw [this, ← (unhide HFM).1]
        have HA2 : Hid (setsG ev [] sets = setsG ev (setF cur ⟨nm, ft, fi, fz⟩) (sets.drop (k + 1))) := hide (by
          rw [unhide HA, unhide HDr, setsG_ok (a := ⟨nm, x⟩) (f := ⟨fn, ft, fi, fz⟩) (by rw [← unhide HT, hTo])])
        obtain ⟨f0, f1, f2, f3, ff⟩ := hf6.cells
        simp only at f0 f1 f2 f3
        have n0 := unhide HE0 w6 hb6
        have p1 : w6.cell? ⟨B, 1, none⟩ = some (.slice (some ⟨b, off, none⟩) N xc) := (cell_of_row _ _ _ _ _ _ ((unhide HF).grown hb6).eb).trans rfl
        have hf7 := hf6.put0 nm
        have hb7 : Below wr.heap.size wr (w6.setCell ⟨q, 0, none⟩ (sv nm)) := hb6.setCell (show wr.heap.size ≤ q from hq6) _
        obtain ⟨w7, hw7⟩ : ∃ w7, w7 = w6.setCell ⟨q, 0, none⟩ (sv nm) := ⟨_, rfl⟩
        rw [← hw7] at hf7 hb7
        have HW7 := hide hw7
        have HF7 := hide hf7
        have HB7 := hide hb7
        clear hf6 hb6 hf7 hb7 hw7 hTo
        go_upto_region 9 with fail
        rw [show w6.setCell ⟨q, 0, none⟩ (.string ⟨nm.toArray⟩) = w7 from (unhide HW7).symm]
        clear f0 f1 f2 f3 ff n0 p1
        obtain ⟨f0, f1, f2, f3, ff⟩ := (unhide HF7).cells
        simp only at f0 f1 f2 f3
        have o2 : w7.cell? ⟨B + 2, 2, none⟩ = some (.slice ca cur.length cc) := (cell_of_row _ _ _ _ _ _ ((unhide HF).grown (unhide HB7)).ob).trans rfl
        have HSt := hide (rSet_any ca cc cur ⟨nm, ft, fi, fz⟩ w7 ((unhide HFN).below (unhide HB7) (Nat.le_refl _)) (by have := (unhide HF).len; omega))
        go_wp2_with (go_at_call 57; refine (unhide HSt).mono ?_; rintro e w8 ⟨v8, rfl, o8, b8⟩; obtain ⟨ca8, cc8, rfl, -⟩ := o8.fdn; have b78 := (unhide HB7).trans (b8.mono (unhide HB7).size); have HX8 := hide ((unhide HF).put (unhide HBe) b78 (o8.mono (unhide HB7).size) (by have := setF_le cur ⟨nm, ft, fi, fz⟩; have := (unhide HF).len; omega)); obtain ⟨r0, r1, r2, rf⟩ := cells3 ((unhide HF).grown b78).ob; clear b8 o8 b78)
        go_roundw
        case rel => exact ⟨k + 1, _, _, by omega, by go_num, HA2, HX8⟩
        case measure => simp [intOf]; omega
      · have hMb : (M != 0) = true := by simpa using hM0
        have HRe : Hid (R = .error M) := hide (by
          have h := errO_no (R := T) (by rw [← (unhide HFM).2]; exact hM0)
          rw [unhide HR, unhide HA, unhide HDr, setsG_bad (a := ⟨nm, x⟩) (e := M) (by rw [← unhide HT, h, ← (unhide HFM).2])])
        have g := (unhide HF).grown hb6
        obtain ⟨r0, r1, r2, rf⟩ := cells3 g.rb
        have HP := hide (row_put3 g.rb (.string ⟨#[]⟩) (.int .i64 0) (.slice none 0 0))
        have HQ := hide (below_put3 g.bel (show w.heap.size ≤ B + 1 by have := unhide HBe; omega) (.string ⟨#[]⟩) (.int .i64 0) (.slice none 0 0))
        clear hM0 hf6 hb6 g
        go_wp2_with fail
        refine bodyPost_ret (results_ct rfl _ _ (B + 1) 50 ev00 (0, 0) _ (.int .i64 M) rfl rfl (unhide HP) Tryz.underlying50 rfl sizeEvent3) rfl ?_
        rw [unhide HRe]
        exact ⟨rfl, unhide HQ⟩
    · have HRe : Hid (R = .ok ⟨tp, cur⟩) := hide (by
        rw [unhide HR, unhide HA, List.drop_eq_nil_of_le (by have := unhide HN; omega)]; rfl)
      obtain ⟨o0, o1, o2, of⟩ := cells3 (unhide HF).ob
      obtain ⟨r0, r1, r2, rf⟩ := cells3 (unhide HF).rb
      have hBw := unhide HBe
      have HP := hide (row_put3 (unhide HF).rb (sv tp) (.int .i64 0) (.slice ca cur.length cc))
      have HQ := hide (below_put3 (unhide HF).bel (show w.heap.size ≤ B + 1 by omega) (sv tp) (.int .i64 0) (.slice ca cur.length cc))
      have HO : Hid (FOwn (put3 wr (B + 1) (sv tp) (.int .i64 0) (.slice ca cur.length cc)) w.heap.size (.slice ca cur.length cc) cur) := hide (fown_set1 (fown_set1 (fown_set1 ((unhide HF).own) (by omega) _) (by omega) _) (by omega) _ |>.mono (by omega))
      clear hBw
      go_wp2_with fail
      refine bodyPost_ret (results_ct rfl _ _ (B + 1) 50 (emvV tp (.slice ca cur.length cc)) (0, 0) _ (.int .i64 0) rfl rfl (unhide HP) Tryz.underlying50 rfl sizeEvent3) rfl ?_
      rw [unhide HRe]
      exact ⟨⟨ca, cc, rfl, unhide HO⟩, unhide HQ⟩
end Go.Proofs.YtclllkbljaomoaaGreatDoor

namespace Go.Proofs.YtclllkbljaomoaaGreatDoor
open Go.RowKit
set_option linter.unusedVariables false

/-- A slice of events reads as these. -/
def EvRd (w : World) (v : Value) (L : List EvM) : Prop := ∃ a c, v = .slice a L.length c ∧ L.length ≤ c ∧ c ≤ 9223372036854775807 ∧
  ∀ (k : Nat) (e : EvM), L[k]? = some e → ∃ b off fa fc, a = some ⟨b, off, none⟩ ∧ b < w.heap.size ∧ w.cell? ⟨b, off + k * 3, none⟩ = some (sv e.type) ∧ w.cell? ⟨b, off + k * 3 + 1, none⟩ = some (.int .i64 0) ∧ w.cell? ⟨b, off + k * 3 + 2, none⟩ = some (.slice fa e.fields.length fc) ∧ FdL w (.slice fa e.fields.length fc) e.fields
theorem EvRd.below {B : Nat} {w w' : World} {v : Value} {L : List EvM} (h : EvRd w v L) (hb : Below B w w') (hB : w.heap.size ≤ B) : EvRd w' v L := by
  obtain ⟨a, c, rfl, h1, h2, h3⟩ := h
  refine ⟨a, c, rfl, h1, h2, fun k e hk => ?_⟩
  obtain ⟨b, off, fa, fc, e1, hlt, c0, c1, c2, hf⟩ := h3 k e hk
  exact ⟨b, off, fa, fc, e1, Nat.lt_of_lt_of_le hlt hb.size, cell_kept hb hB c0, cell_kept hb hB c1, cell_kept hb hB c2, hf.below hb hB⟩
theorem EvOwn.rd {w : World} {base : Nat} {v : Value} {L : List EvM} (h : EvOwn w base v L) : EvRd w v L := by
  obtain ⟨R, ⟨h1, h2⟩, h3, h4⟩ := h
  rcases h2 with ⟨rfl, e⟩ | ⟨g, cap, cur, rfl, hb, hg, hn, hm, hs, ht⟩
  · have : L = [] := List.eq_nil_of_length_eq_zero (by omega)
    subst this
    exact ⟨none, 0, rfl, by simp, by omega, fun k e hk => by simp at hk⟩
  · refine ⟨some ⟨g, 0, none⟩, cap, by rw [h3], by omega, by unfold maxLen at hm; omega, fun k e hk => ?_⟩
    have hkl := (List.getElem?_eq_some_iff.1 hk).1
    obtain ⟨r, hr⟩ : ∃ r, R[k]? = some r := ⟨_, List.getElem?_eq_getElem (by omega)⟩
    obtain ⟨e0, e1, e2⟩ := h4 k e r hk hr
    obtain ⟨q0, q1, q2⟩ := ecs_get R k r hr
    have at' : ∀ j u, (ecs R)[j]? = some u → w.cell? ⟨g, j, none⟩ = some u := by
      intro j u hu
      have hj := (List.getElem?_eq_some_iff.1 hu).1
      have e : (cur.toList.take (R.length * 3))[j]? = (ecs R)[j]? := by rw [ht]
      rw [List.getElem?_take_of_lt (by omega), hu] at e
      simp only [World.cell?, hg]
      simpa using e
    refine ⟨g, 0, r.a, r.c, rfl, lt_of_block hg, ?_, ?_, ?_, ?_⟩
    · rw [← e0, Nat.zero_add]; exact at' _ _ q0
    · rw [Nat.zero_add]; exact at' _ _ q1
    · rw [← e1, Nat.zero_add]; exact at' _ _ q2
    · rw [← e1]; exact e2.fdl

set_option maxRecDepth 20000 in
set_option maxHeartbeats 8000000 in
theorem SameEv_eq (u v : Value) (L : List EvM) (w : World) (hu : EvRd w u L) (hv : EvRd w v L) :
    Calls Tryz.prog 18 #[u, v] w fun e w' => e = .returned (.bool true) ∧ Below w.heap.size w w' := by
  have hu0 := hu
  have hv0 := hv
  obtain ⟨a, c, rfl, hac, hc63, ha⟩ := hu
  obtain ⟨b, d, rfl, hbd, hd63, hb⟩ := hv
  have HA := hide (fun W (hW : Below w.heap.size w W) => hu0.below hW (Nat.le_refl _))
  have HB := hide (fun W (hW : Below w.heap.size w W) => hv0.below hW (Nat.le_refl _))
  obtain ⟨N, hN⟩ : ∃ N, N = L.length := ⟨_, rfl⟩
  have HN := hide hN
  rw [← hN] at hac hbd HA HB ⊢
  clear ha hb hu0 hv0 hN
  go_enter Tryz.func18, Tryz.ntmps18
  go_wp2_with fail
  go_loopw [5, 6] (fun i _ wr => ∃ (k : Nat), k ≤ N ∧ i = .int .i64 k ∧ Hid (Below w.heap.size w wr)) (fun i _ _ => N - (intOf i).toNat)
  case atStart => exact ⟨0, by omega, rfl, hide (Below.refl _ _)⟩
  case round =>
    obtain ⟨k, hk, rfl, HW⟩ := hrel
    by_cases hlt : k < N
    · obtain ⟨⟨tp, fs⟩, hf⟩ : ∃ e, L[k]? = some e := ⟨_, List.getElem?_eq_getElem (by have := unhide HN; omega)⟩
      obtain ⟨a1, _, e1, -, -, ha⟩ := unhide HA wr (unhide HW)
      obtain rfl : a = a1 := by injection e1
      obtain ⟨b1, _, e2, -, -, hb⟩ := unhide HB wr (unhide HW)
      obtain rfl : b = b1 := by injection e2
      clear e1 e2
      obtain ⟨b1, o1, fa, fc, rfl, _, x0, x1, x2, hfa⟩ := ha k _ hf
      obtain ⟨b2, o2, ga, gc, rfl, _, y0, y1, y2, hfb⟩ := hb k _ hf
      simp only at x0 x2 y0 y2 hfa hfb
      obtain ⟨M, hM⟩ : ∃ M, M = fs.length := ⟨_, rfl⟩
      have hkN : (k : Int) < (N : Int) := by omega
      have hk0 : ¬ (k : Int) < 0 := by omega
      have HSa : Hid (∀ V, Below wr.heap.size wr V → Calls Tryz.prog 19 #[.slice fa M fc, .slice ga M gc] V fun e w' => e = .returned (.bool true) ∧ Below V.heap.size V w') := hide (fun V hV => by
        rw [hM]
        exact Same_eq _ _ fs V (hfa.below hV (Nat.le_refl _)) (hfb.below hV (Nat.le_refl _)))
      rw [← hM] at x2 y2
      have HSV : Hid (∀ V, Below wr.heap.size wr V → V.cell? ⟨b1, o1 + k * 3 + 2, none⟩ = some (.slice fa M fc) ∧ V.cell? ⟨b2, o2 + k * 3 + 2, none⟩ = some (.slice ga M gc)) := hide (fun V hV => ⟨kept hV x2, kept hV y2⟩)
      have HTV : Hid (∀ V, Below wr.heap.size wr V → V.cell? ⟨b1, o1 + k * 3, none⟩ = some (sv tp) ∧ V.cell? ⟨b1, o1 + k * 3 + 1, none⟩ = some (.int .i64 0) ∧ V.cell? ⟨b2, o2 + k * 3, none⟩ = some (sv tp) ∧ V.cell? ⟨b2, o2 + k * 3 + 1, none⟩ = some (.int .i64 0)) := hide (fun V hV => ⟨kept hV x0, kept hV x1, kept hV y0, kept hV y1⟩)
      have bD : Below wr.heap.size wr wr.drew := (Below.refl _ _).drew
      have S0 := hide (unhide HSV _ (Below.refl _ _))
      have SD := hide (unhide HSV _ bD)
      have CD := hide (unhide HSa _ bD)
      have BD := hide bD
      clear ha hb hf hfa hfb x0 x1 x2 y0 y1 y2 hM bD
      go_upto_region 6 with fail
      go_region_held3 (fun V => V.cell? ⟨b1, o1 + k * 3 + 2, none⟩ = some (.slice fa M fc) ∧ V.cell? ⟨b2, o2 + k * 3 + 2, none⟩ = some (.slice ga M gc))
        (first | with_reducible exact unhide S0 | with_reducible exact unhide SD | with_reducible exact unhide S5)
        ((go_at_call 19; refine (unhide CD).mono ?_; rintro e w5 ⟨rfl, b5⟩; have B5 := hide ((unhide BD).trans (b5.mono (unhide BD).size)); have S5 := hide (unhide HSV _ (unhide B5)); clear b5))
      all_goals
        have q0 : ∀ n, (w5.drewN n).cell? ⟨b1, o1 + k * 3, none⟩ = some (sv tp) := fun n => (unhide HTV w5 (unhide B5)).1
        have q1 : ∀ n, (w5.drewN n).cell? ⟨b1, o1 + k * 3 + 1, none⟩ = some (.int .i64 0) := fun n => (unhide HTV w5 (unhide B5)).2.1
        have q2 : ∀ n, (w5.drewN n).cell? ⟨b2, o2 + k * 3, none⟩ = some (sv tp) := fun n => (unhide HTV w5 (unhide B5)).2.2.1
        have q3 : ∀ n, (w5.drewN n).cell? ⟨b2, o2 + k * 3 + 1, none⟩ = some (.int .i64 0) := fun n => (unhide HTV w5 (unhide B5)).2.2.2
        have HW2 := hide (fun n => (unhide HW).trans ((below_drewN (unhide B5) n).mono (unhide HW).size))
        clear S0 SD S5 CD HSa HSV
        go_upto_region 7 with fail
        go_quiet (fail)
        go_wp2_with fail
        go_roundw
        case rel => exact ⟨k + 1, by omega, by go_num, hide (unhide HW2 _)⟩
        case measure => simp [intOf]; omega
    · go_wp2_with fail
      go_ret
      exact ⟨rfl, unhide HW⟩
end Go.Proofs.YtclllkbljaomoaaGreatDoor
