/-
  DERIVED. The document's needs and made.
-/
import Derived.Test.YtclllkbljaomoaaGreatDoorRuEm
import Derived.Test.YtclllkbljaomoaaGreatDoorRuDg
import Derived.Test.YtclllkbljaomoaaGreatDoorShpl
import Derived.Deep.RegionHeld3
import Derived.Test.YtclllkbljaomoaaGreatDoorRuOd
namespace Go.Proofs.YtclllkbljaomoaaGreatDoor
open Go.RowKit
set_option linter.unusedVariables false

/-- Has a command the fields that it must have? -/
def needB (m : List Fld) (l : List Ne) : Bool := decide (l.length = m.length) && l.all (needOk m)
theorem needB_R (m : List Fld) (l : List Ne) : needR m l = if needB m l then .ok () else .error 137 := by
  unfold needR needB
  by_cases h : m.length = l.length
  · rw [if_neg (by omega), decide_eq_true h.symm, Bool.true_and]
  · rw [if_pos h, decide_eq_false (by omega), Bool.false_and]
    rfl

set_option maxRecDepth 20000 in
set_option maxHeartbeats 8000000 in
theorem rneeds_any (na : Option Addr) (nc : Nat) (l : List Ne) (ma : Option Addr) (mc : Nat) (m : List Fld) (w : World) (hl : SlOf 2 NeAt w (.slice na l.length nc) l) (hm : FdL w (.slice ma m.length mc) m) :
    Calls Tryz.prog 50 #[.slice na l.length nc, .slice ma m.length mc] w fun e w' => e = .returned (.bool (needB m l)) ∧ Below w.heap.size w w' := by
  obtain ⟨-, hl1, hl2⟩ := hl.len
  have HLk : Hid (∀ (k : Nat) (x : Ne), l[k]? = some x → ∃ b off, na = some ⟨b, off, none⟩ ∧ ∀ W, Below w.heap.size w W → NeAt W b (off + k * 2) x) := hide (fun k x hk => by
    obtain ⟨b, off, e, _, hat⟩ := hl.at hk
    exact ⟨b, off, e, fun W hW => hat.grown hW⟩)
  have HG : Hid (∀ W, Below w.heap.size w W → ∀ nm, Calls Tryz.prog 43 #[.slice ma m.length mc, sv nm] W fun e w' => e = .returned (.tuple #[.agg (fv (getA m nm)), .bool (hasF m nm)]) ∧ Below W.heap.size W w') := hide (fun W hW nm => rGet_any ma m.length mc m nm W (hm.below hW (Nat.le_refl _)))
  obtain ⟨N, hN⟩ : ∃ N, N = l.length := ⟨_, rfl⟩
  obtain ⟨M, hM⟩ : ∃ M, M = m.length := ⟨_, rfl⟩
  obtain ⟨R, hR⟩ : ∃ R, R = needB m l := ⟨_, rfl⟩
  have HR : Hid (R = (decide (N = M) && l.all (needOk m))) := hide (by rw [hR, hN, hM]; rfl)
  rw [← hR, ← hN, ← hM]
  rw [← hN] at hl1
  rw [← hM] at HG
  have HN := hide hN
  clear hl hm hR hN hM
  go_enter Tryz.func50, Tryz.ntmps50
  by_cases hNM : N = M
  · subst hNM
    have HR2 : Hid (R = l.all (needOk m)) := hide (by rw [unhide HR, decide_eq_true rfl, Bool.true_and])
    go_wp2_with fail
    go_loopw [5, 6, 7] (fun i _ _ wr => ∃ (k : Nat), k ≤ N ∧ i = .int .i64 k ∧ Hid ((l.take k).all (needOk m) = true) ∧ Hid (Below w.heap.size w wr)) (fun i _ _ _ => N - (intOf i).toNat)
    case atStart => exact ⟨0, by omega, rfl, hide rfl, hide (Below.refl _ _)⟩
    case round =>
      obtain ⟨k, hk, rfl, HA, HB⟩ := hrel
      by_cases hlt : k < N
      · obtain ⟨⟨nm, tx⟩, hx⟩ : ∃ x, l[k]? = some x := ⟨_, List.getElem?_eq_getElem (by have := unhide HN; omega)⟩
        obtain ⟨b, off, rfl, hat⟩ := unhide HLk k _ hx
        have HAt := hide hat
        obtain ⟨c0, c1⟩ := hat wr (unhide HB)
        simp only at c0 c1
        have HC := hide (unhide HG wr (unhide HB) nm)
        have HOk : Hid (needOk m ⟨nm, tx⟩ = (hasF m nm && ((getA m nm).text == tx))) := hide rfl
        obtain ⟨T, hT⟩ : ∃ T, T = hasF m nm := ⟨_, rfl⟩
        obtain ⟨⟨fn, ft, fi, fz⟩, hF⟩ : ∃ F, F = getA m nm := ⟨_, rfl⟩
        rw [← hT, ← hF] at HC HOk
        simp only at HOk
        have hki : (k : Int) < (N : Int) := by omega
        have hk0 : ¬ (k : Int) < 0 := by omega
        have HX := hide hx
        clear hat hx hT hF
        go_upto_region 7 with (go_at_call 43; refine (unhide HC).mono ?_; rintro e w3 ⟨rfl, b3⟩; have HB3 := hide ((unhide HB).trans (b3.mono (unhide HB).size)); clear b3)
        have hb4 : Below w.heap.size w (w3.alloc (.cells (fv ⟨fn, ft, fi, fz⟩) 37)) := (unhide HB3).alloc (unhide HB3).size _
        have hf4 := FBox.new w3 ⟨fn, ft, fi, fz⟩
        obtain ⟨w4, hw4⟩ : ∃ w4, w4 = w3.alloc (.cells (fv ⟨fn, ft, fi, fz⟩) 37) := ⟨_, rfl⟩
        rw [show w3.alloc (.cells #[Value.string ⟨fn.toArray⟩, .bool ft, .int .i64 fi, .string ⟨fz.toArray⟩] 37) = w4 from hw4.symm]
        rw [← hw4] at hb4 hf4
        obtain ⟨q, hq⟩ : ∃ q, q = w3.heap.size := ⟨_, rfl⟩
        rw [← hq] at hf4 ⊢
        obtain ⟨-, f1, -, -, -⟩ := hf4.cells
        simp only at f1
        have f1n : ∀ n, (w4.drewN n).cell? ⟨q, 1, none⟩ = some (.bool ft) := fun _ => f1
        have c1n : ∀ n, (w4.drewN n).cell? ⟨b, off + k * 2 + 1, none⟩ = some (.bool tx) := fun n => (unhide HAt w4 hb4).2
        have HB4 := hide (fun n => below_drewN hb4 n)
        clear c0 c1 hw4 hq hf4 hb4 f1 HC
        cases T with
        | false =>
          have HRf : Hid (R = false) := hide (by rw [unhide HR2]; exact all_bad (unhide HX) (by rw [unhide HOk]; rfl))
          go_quiet (fail)
          go_wp2_with fail
          go_ret
          exact ⟨by rw [unhide HRf]; rfl, unhide HB4 _⟩
        | true =>
          have HOk2 : Hid (needOk m ⟨nm, tx⟩ = (ft == tx)) := hide (by rw [unhide HOk, Bool.true_and])
          by_cases ht : ft = tx
          · subst ht
            have HA2 : Hid ((l.take (k + 1)).all (needOk m) = true) := hide (all_snoc (unhide HX) (by rw [unhide HOk2]; simp) (unhide HA))
            go_quiet (fail)
            go_wp2_with fail
            go_roundw
            case rel => exact ⟨k + 1, by omega, by go_num, HA2, hide (unhide HB4 _)⟩
            case measure => simp [intOf]; omega
          · have HRf : Hid (R = false) := hide (by rw [unhide HR2]; exact all_bad (unhide HX) (by rw [unhide HOk2]; simpa using ht))
            cases ft <;> cases tx
            · exact absurd rfl ht
            · clear ht
              go_quiet (fail)
              go_wp2_with fail
              go_ret
              exact ⟨by rw [unhide HRf]; rfl, unhide HB4 _⟩
            · clear ht
              go_quiet (fail)
              go_wp2_with fail
              go_ret
              exact ⟨by rw [unhide HRf]; rfl, unhide HB4 _⟩
            · exact absurd rfl ht
      · have HRt : Hid (R = true) := hide (by rw [unhide HR2]; have := unhide HA; rwa [List.take_of_length_le (by have := unhide HN; omega)] at this)
        go_wp2_with fail
        go_ret
        exact ⟨by rw [unhide HRt]; rfl, unhide HB⟩
  · have HRf : Hid (R = false) := hide (by rw [unhide HR, decide_eq_false hNM, Bool.false_and])
    have hne : ((N : Int) != (M : Int)) = true := by simp; omega
    clear hNM
    go_wp2_with fail
    go_ret
    exact ⟨by rw [unhide HRf]; rfl, Below.refl _ _⟩
end Go.Proofs.YtclllkbljaomoaaGreatDoor

namespace Go.Proofs.YtclllkbljaomoaaGreatDoor
open Go.RowKit
set_option linter.unusedVariables false

/-- An event of a decision, by the document. -/
def madeP (st : List UInt8) (l m : List Fld) (x : Em) : Except Int EvM := match setsG (evalE st l m) [] x.sets with
  | .error e => .error e
  | .ok fs => .ok ⟨x.type, fs⟩
theorem madeP_R (st : List UInt8) (l m : List Fld) (x : Em) : madeP st l m x = eventR ⟨st, l, m, none, 0, none, 0, 0⟩ x := rfl

/-- What made comes to. -/
def MadeE (w : World) (r : Except Int EvM) (e : Ending) (w' : World) : Prop :=
  (match r with
    | .ok v => ∃ a c, e = .returned (.tuple #[.agg (emvV v.type (.slice a v.fields.length c)), .int .i64 0]) ∧ FOwn w' w.heap.size (.slice a v.fields.length c) v.fields
    | .error n => e = .returned (.tuple #[.agg ev00, .int .i64 n])) ∧ Below w.heap.size w w'

/-- Where made stands. -/
structure MdSt (w wr : World) (B : Nat) (em : Array Value) (tp : List UInt8) (v : Value) (cur : List Fld) (k : Nat) : Prop where
  bel : Below w.heap.size w wr
  eb : wr.heap[B]? = some (.cells em 104 (0, 0))
  rb : wr.heap[B + 1]? = some (.cells ev00 50 (0, 0))
  ob : wr.heap[B + 2]? = some (.cells (emvV tp v) 50 (0, 0))
  own : FOwn wr (B + 3) v cur
  len : cur.length ≤ k
  siz : B + 3 ≤ wr.heap.size
theorem MdSt.grown {w wr wr' : World} {B : Nat} {em : Array Value} {tp : List UInt8} {v : Value} {cur : List Fld} {k : Nat} (h : MdSt w wr B em tp v cur k) (hb : Below wr.heap.size wr wr') : MdSt w wr' B em tp v cur k :=
  have hs := h.siz
  ⟨h.bel.trans (hb.mono h.bel.size), (hb.block _ (by omega)).trans h.eb, (hb.block _ (by omega)).trans h.rb, (hb.block _ (by omega)).trans h.ob, h.own.below hb (Nat.le_refl _), h.len, by have := hb.size; omega⟩
theorem fown_set1 {w : World} {base q i : Nat} {v : Value} {L : List Fld} (h : FOwn w base v L) (hq : q < base) (x : Value) : FOwn (w.setCell ⟨q, i, none⟩ x) base v L := by
  obtain ⟨h1, h2⟩ := h
  refine ⟨h1, ?_⟩
  rcases h2 with h | ⟨g, cap, cu, a1, b1, c1, r1⟩
  · exact .inl h
  · exact .inr ⟨g, cap, cu, a1, b1, (heap_setCell_other _ ⟨q, i, none⟩ _ _ (show g ≠ q by omega)).trans c1, r1⟩
theorem MdSt.put {w wr wr' : World} {B : Nat} {em : Array Value} {tp : List UInt8} {v v' : Value} {cur cur' : List Fld} {k : Nat} (h : MdSt w wr B em tp v cur k) (hB : B = w.heap.size) (hb : Below wr.heap.size wr wr') (ho : FOwn wr' wr.heap.size v' cur') (hl : cur'.length ≤ k + 1) : MdSt w (wr'.setCell ⟨B + 2, 2, none⟩ v') B em tp v' cur' (k + 1) := by
  have g := h.grown hb
  have hs := h.siz
  refine ⟨g.bel.setCell (show w.heap.size ≤ B + 2 by omega) _, (heap_setCell_other _ ⟨B + 2, 2, none⟩ _ _ (show B ≠ B + 2 by omega)).trans g.eb, (heap_setCell_other _ ⟨B + 2, 2, none⟩ _ _ (show B + 1 ≠ B + 2 by omega)).trans g.rb, ?_, fown_set1 (ho.mono hs) (by omega) _, hl, by rw [show (wr'.setCell ⟨B + 2, 2, none⟩ v').heap.size = wr'.heap.size by simp [World.setCell]]; exact g.siz⟩
  rw [heap_setCell_same _ (B + 2) 2 _ _ _ g.ob]
  rfl

set_option maxRecDepth 20000 in
set_option maxHeartbeats 8000000 in
theorem rmade_any (st : List UInt8) (l m : List Fld) (la : Option Addr) (lc : Nat) (ma : Option Addr) (mc : Nat) (x : Em) (xa : Option Addr) (xc : Nat) (w : World) (hx : SlOf 5 AsAt w (.slice xa x.sets.length xc) x.sets) (hxl : x.sets.length ≤ 2000000000000) (hl : FdL w (.slice la l.length lc) l) (hm : FdL w (.slice ma m.length mc) m) (hst : st.length ≤ 140737488355328) (hfs : ∀ f ∈ l, small f) (hfg : ∀ f ∈ m, small f) (hva : Vars w) :
    Calls Tryz.prog 104 #[.agg #[sv x.type, .slice xa x.sets.length xc], sv st, .slice la l.length lc, .slice ma m.length mc] w (MadeE w (madeP st l m x)) := by
  obtain ⟨tp, sets⟩ := x
  simp only at hx hxl ⊢
  have hb3 := below3 w (.cells #[sv tp, .slice xa sets.length xc] 104) (.cells ev00 50) (.cells (emvV tp (.slice none 0 0)) 50)
  obtain ⟨h0, h1, h2⟩ := boxes3 w (.cells #[sv tp, .slice xa sets.length xc] 104) (.cells ev00 50) (.cells (emvV tp (.slice none 0 0)) 50)
  have hsz : (((w.alloc (.cells #[sv tp, .slice xa sets.length xc] 104)).alloc (.cells ev00 50)).alloc (.cells (emvV tp (.slice none 0 0)) 50)).heap.size = w.heap.size + 3 := by simp
  obtain ⟨w3, hw3⟩ : ∃ w3, w3 = ((w.alloc (.cells #[sv tp, .slice xa sets.length xc] 104)).alloc (.cells ev00 50)).alloc (.cells (emvV tp (.slice none 0 0)) 50) := ⟨_, rfl⟩
  rw [← hw3] at hb3 h0 h1 h2 hsz
  have HW := hide hw3
  obtain ⟨B, hB⟩ : ∃ B, B = w.heap.size := ⟨_, rfl⟩
  have HBe := hide hB
  rw [← hB] at h0 h1 h2 hsz
  obtain ⟨N, hN⟩ : ∃ N, N = sets.length := ⟨_, rfl⟩
  have HN := hide hN
  have HSt : Hid (MdSt w w3 B #[sv tp, .slice xa N xc] tp (.slice none 0 0) [] 0) := hide ⟨hb3, by rw [hN]; exact h0, h1, h2, fown_nil _ _, by simp, by omega⟩
  have HSk : Hid (∀ (k : Nat) (s : As), sets[k]? = some s → ∃ b off, xa = some ⟨b, off, none⟩ ∧ ∀ W, Below w.heap.size w W → AsAt W b (off + k * 5) s) := hide (fun k s hk => by
    obtain ⟨b, off, e, _, hat⟩ := hx.at hk
    exact ⟨b, off, e, fun W hW => hat.grown hW⟩)
  have HEv : Hid (∀ (W : World) (x : Ex) (a : Option Addr) (c : Nat), Below w.heap.size w W → ExAt W x a c → Calls Tryz.prog 13 #[.agg (exV x a c), sv st, .slice la l.length lc, .slice ma m.length mc] W fun e w' => CaughtF (evalE st l m x) e ∧ Below W.heap.size W w') := hide (fun W x a c hW hx =>
    rEval_any st l m la lc ma mc x a c W hx (hl.below hW (Nat.le_refl _)) (hm.below hW (Nat.le_refl _)) hst hfs hfg (hva.below hW (Nat.le_refl _)))
  have hl1 := hx.len.2.1
  have hl2 := hx.len.2.2
  have HErr : Hid (∀ x n, evalE st l m x = .error n → n ≠ 0) := hide (fun x n h => evalE_err h)
  obtain ⟨ev, hev⟩ : ∃ ev : Ex → Except Int Fld, ev = evalE st l m := ⟨_, rfl⟩
  obtain ⟨R, hR⟩ : ∃ R, R = madeP st l m ⟨tp, sets⟩ := ⟨_, rfl⟩
  rw [← hR]
  have HR : Hid (R = match setsG ev [] sets with | .error e => .error e | .ok fs => .ok ⟨tp, fs⟩) := hide (by rw [hR, hev]; rfl)
  have HEv : Hid (∀ (W : World) (x : Ex) (a : Option Addr) (c : Nat), Below w.heap.size w W → ExAt W x a c → Calls Tryz.prog 13 #[.agg (exV x a c), sv st, .slice la l.length lc, .slice ma m.length mc] W fun e w' => CaughtF (ev x) e ∧ Below W.heap.size W w') := hide (by rw [hev]; exact unhide HEv)
  have HErr : Hid (∀ x n, ev x = .error n → n ≠ 0) := hide (by rw [hev]; exact unhide HErr)
  rw [← hN] at hxl hl1 HW ⊢
  obtain ⟨NL, hNL⟩ : ∃ NL, NL = l.length := ⟨_, rfl⟩
  obtain ⟨NM, hNM⟩ : ∃ NM, NM = m.length := ⟨_, rfl⟩
  rw [← hNL, ← hNM] at HEv ⊢
  clear hx hl hm hst hfs hfg hva hw3 hb3 h0 h1 h2 hB hN hev hR hsz hNL hNM
  go_enter Tryz.func104, Tryz.ntmps104
  go_upto_region 2 with fail
  rw [show ((w.alloc (.cells #[Value.string ⟨tp.toArray⟩, .slice xa N xc] 104)).alloc (.cells #[Value.string ⟨#[]⟩, .int .i64 0, .slice none 0 0] 50)).alloc (.cells #[Value.string ⟨tp.toArray⟩, .int .i64 0, .slice none 0 0] 50) = w3 from (unhide HW).symm]
  rw [← unhide HBe]
  go_wp2_with fail
  go_loopw [11, 12, 13] (fun i _ _ wr => ∃ (k : Nat) (v : Value) (cur : List Fld), k ≤ N ∧ i = .int .i64 k ∧ Hid (setsG ev [] sets = setsG ev cur (sets.drop k)) ∧ Hid (MdSt w wr B #[sv tp, .slice xa N xc] tp v cur k)) (fun i _ _ _ => N - (intOf i).toNat)
  case atStart => exact ⟨0, _, [], by omega, rfl, hide (by simp), HSt⟩
  case round =>
    obtain ⟨k, v, cur, hk, rfl, HA, HF⟩ := hrel
    clear HSt
    obtain ⟨ca, cc, rfl, hfn0⟩ := (unhide HF).own.fdn
    obtain ⟨p0, p1⟩ : wr.cell? ⟨B, 0, none⟩ = some (sv tp) ∧ wr.cell? ⟨B, 1, none⟩ = some (.slice xa N xc) := ⟨(cell_of_row _ _ _ _ _ _ (unhide HF).eb).trans rfl, (cell_of_row _ _ _ _ _ _ (unhide HF).eb).trans rfl⟩
    have HFN := hide hfn0
    clear hfn0
    by_cases hlt : k < N
    · obtain ⟨⟨nm, x⟩, huk⟩ : ∃ u, sets[k]? = some u := ⟨_, List.getElem?_eq_getElem (by have := unhide HN; omega)⟩
      have HDr := hide (drop_consT huk)
      obtain ⟨b, off, rfl, hat⟩ := unhide HSk k _ huk
      obtain ⟨e0, e1, e2, e3, ea, ec, e4, hx⟩ := hat wr (unhide HF).bel
      simp only at e0 e1 e2 e3 e4 hx
      replace e2 : wr.cell? ⟨b, off + k * 5 + 2, none⟩ = _ := e2
      replace e3 : wr.cell? ⟨b, off + k * 5 + 3, none⟩ = _ := e3
      replace e4 : wr.cell? ⟨b, off + k * 5 + 4, none⟩ = _ := e4
      have hki : (k : Int) < (N : Int) := by omega
      have hk0 : ¬ (k : Int) < 0 := by omega
      have HC := hide (unhide HEv wr x ea ec (unhide HF).bel hx)
      have HE0 : Hid (∀ W, Below wr.heap.size wr W → W.cell? ⟨b, off + k * 5, none⟩ = some (sv nm)) := hide (fun W hW => kept hW e0)
      have HZ := hide (unhide HErr x)
      obtain ⟨T, hT⟩ : ∃ T, T = ev x := ⟨_, rfl⟩
      rw [← hT] at HC HZ
      have HT := hide hT
      obtain ⟨F, hF⟩ : ∃ F, F = valO T := ⟨_, rfl⟩
      obtain ⟨M, hM⟩ : ∃ M, M = errO T := ⟨_, rfl⟩
      have HFM := hide (And.intro hF hM)
      have HC2 : Hid (Calls Tryz.prog 13 #[.agg (exV x ea ec), sv st, .slice la NL lc, .slice ma NM mc] wr fun e w' => e = .returned (.tuple #[.agg (fv F), .int .i64 M]) ∧ Below wr.heap.size wr w') := hide ((unhide HC).mono fun e w' q => ⟨by rw [hF, hM]; exact (caught_two q.1).1, q.2⟩)
      clear hT hF hM HC hx huk hat
      obtain ⟨fn, ft, fi, fz⟩ := F
      go_upto_region 6 with (go_at_call 13; refine (unhide HC2).mono ?_; rintro e w5 ⟨rfl, b5⟩; have HB5 := hide b5; clear b5)
      have hb6 : Below wr.heap.size wr (w5.alloc (.cells (fv ⟨fn, ft, fi, fz⟩) 37)) := (unhide HB5).alloc (unhide HB5).size _
      have hf6 := FBox.new w5 ⟨fn, ft, fi, fz⟩
      have hq6 : wr.heap.size ≤ w5.heap.size := (unhide HB5).size
      obtain ⟨w6, hw6⟩ : ∃ w6, w6 = w5.alloc (.cells (fv ⟨fn, ft, fi, fz⟩) 37) := ⟨_, rfl⟩
      rw [show w5.alloc (.cells #[Value.string ⟨fn.toArray⟩, .bool ft, .int .i64 fi, .string ⟨fz.toArray⟩] 37) = w6 from hw6.symm]
      rw [← hw6] at hb6 hf6
      obtain ⟨q, hq⟩ : ∃ q, q = w5.heap.size := ⟨_, rfl⟩
      rw [← hq] at hf6 hq6 ⊢
      clear hw6 hq HC2 p0 p1 e0 e1 e2 e3 e4
      by_cases hM0 : M = 0
      · subst hM0
        have hTo : T = .ok ⟨fn, ft, fi, fz⟩ := by
          have := errO_ok (unhide HFM).2.symm (unhide HZ)
          rw [this, ← (unhide HFM).1]
        have HA2 : Hid (setsG ev [] sets = setsG ev (setF cur ⟨nm, ft, fi, fz⟩) (sets.drop (k + 1))) := hide (by
          rw [unhide HA, unhide HDr, setsG_ok (a := ⟨nm, x⟩) (f := ⟨fn, ft, fi, fz⟩) (by rw [← unhide HT, hTo])])
        obtain ⟨f0, f1, f2, f3, ff⟩ := hf6.cells
        simp only at f0 f1 f2 f3
        have n0 := unhide HE0 w6 hb6
        have p1 : w6.cell? ⟨B, 1, none⟩ = some (.slice (some ⟨b, off, none⟩) N xc) := (cell_of_row _ _ _ _ _ _ ((unhide HF).grown hb6).eb).trans rfl
        have hf7 := hf6.put0 nm
        have hb7 : Below wr.heap.size wr (w6.setCell ⟨q, 0, none⟩ (sv nm)) := hb6.setCell (show wr.heap.size ≤ q from hq6) _
        obtain ⟨w7, hw7⟩ : ∃ w7, w7 = w6.setCell ⟨q, 0, none⟩ (sv nm) := ⟨_, rfl⟩
        rw [← hw7] at hf7 hb7
        have HW7 := hide hw7
        have HF7 := hide hf7
        have HB7 := hide hb7
        clear hf6 hb6 hf7 hb7 hw7 hTo
        go_upto_region 9 with fail
        rw [show w6.setCell ⟨q, 0, none⟩ (.string ⟨nm.toArray⟩) = w7 from (unhide HW7).symm]
        clear f0 f1 f2 f3 ff n0 p1
        obtain ⟨f0, f1, f2, f3, ff⟩ := (unhide HF7).cells
        simp only at f0 f1 f2 f3
        have o2 : w7.cell? ⟨B + 2, 2, none⟩ = some (.slice ca cur.length cc) := (cell_of_row _ _ _ _ _ _ ((unhide HF).grown (unhide HB7)).ob).trans rfl
        have HSt := hide (rSet_any ca cc cur ⟨nm, ft, fi, fz⟩ w7 ((unhide HFN).below (unhide HB7) (Nat.le_refl _)) (by have := (unhide HF).len; omega))
        go_wp2_with (go_at_call 57; refine (unhide HSt).mono ?_; rintro e w8 ⟨v8, rfl, o8, b8⟩; obtain ⟨ca8, cc8, rfl, -⟩ := o8.fdn; have b78 := (unhide HB7).trans (b8.mono (unhide HB7).size); have HX8 := hide ((unhide HF).put (unhide HBe) b78 (o8.mono (unhide HB7).size) (by have := setF_le cur ⟨nm, ft, fi, fz⟩; have := (unhide HF).len; omega)); obtain ⟨r0, r1, r2, rf⟩ := cells3 ((unhide HF).grown b78).ob; clear b8 o8 b78)
        go_roundw
        case rel => exact ⟨k + 1, _, _, by omega, by go_num, HA2, HX8⟩
        case measure => simp [intOf]; omega
      · have hMb : (M != 0) = true := by simpa using hM0
        have HRe : Hid (R = .error M) := hide (by
          have h := errO_no (R := T) (by rw [← (unhide HFM).2]; exact hM0)
          rw [unhide HR, unhide HA, unhide HDr, setsG_bad (a := ⟨nm, x⟩) (e := M) (by rw [← unhide HT, h, ← (unhide HFM).2])])
        have g := (unhide HF).grown hb6
        obtain ⟨r0, r1, r2, rf⟩ := cells3 g.rb
        have HP := hide (row_put3 g.rb (.string ⟨#[]⟩) (.int .i64 0) (.slice none 0 0))
        have HQ := hide (below_put3 g.bel (show w.heap.size ≤ B + 1 by have := unhide HBe; omega) (.string ⟨#[]⟩) (.int .i64 0) (.slice none 0 0))
        clear hM0 hf6 hb6 g
        go_wp2_with fail
        refine bodyPost_ret (results_ct rfl _ _ (B + 1) 50 ev00 (0, 0) _ (.int .i64 M) rfl rfl (unhide HP) Tryz.underlying50 rfl sizeEvent3) rfl ?_
        rw [unhide HRe]
        exact ⟨rfl, unhide HQ⟩
    · have HRe : Hid (R = .ok ⟨tp, cur⟩) := hide (by
        rw [unhide HR, unhide HA, List.drop_eq_nil_of_le (by have := unhide HN; omega)]; rfl)
      obtain ⟨o0, o1, o2, of⟩ := cells3 (unhide HF).ob
      obtain ⟨r0, r1, r2, rf⟩ := cells3 (unhide HF).rb
      have hBw := unhide HBe
      have HP := hide (row_put3 (unhide HF).rb (sv tp) (.int .i64 0) (.slice ca cur.length cc))
      have HQ := hide (below_put3 (unhide HF).bel (show w.heap.size ≤ B + 1 by omega) (sv tp) (.int .i64 0) (.slice ca cur.length cc))
      have HO : Hid (FOwn (put3 wr (B + 1) (sv tp) (.int .i64 0) (.slice ca cur.length cc)) w.heap.size (.slice ca cur.length cc) cur) := hide (fown_set1 (fown_set1 (fown_set1 ((unhide HF).own) (by omega) _) (by omega) _) (by omega) _ |>.mono (by omega))
      clear hBw
      go_wp2_with fail
      refine bodyPost_ret (results_ct rfl _ _ (B + 1) 50 (emvV tp (.slice ca cur.length cc)) (0, 0) _ (.int .i64 0) rfl rfl (unhide HP) Tryz.underlying50 rfl sizeEvent3) rfl ?_
      rw [unhide HRe]
      exact ⟨⟨ca, cc, rfl, unhide HO⟩, unhide HQ⟩
end Go.Proofs.YtclllkbljaomoaaGreatDoor

namespace Go.Proofs.YtclllkbljaomoaaGreatDoor
open Go.RowKit
set_option linter.unusedVariables false

def allG (Hd : Cd → Except Int Bool) : List Cd → Except Int Bool
  | [] => .ok true
  | d :: r => match Hd d with
    | .error e => .error e
    | .ok false => .ok false
    | .ok true => allG Hd r
theorem allG_eq (S : Sc) : ∀ l, allR S l = allG (holdsR S) l
  | [] => rfl
  | d :: r => by
    rw [allR, allG, allG_eq S r]
    generalize holdsR S d = q
    cases q with
    | error e => rfl
    | ok b => cases b <;> rfl
theorem allG_err {Hd : Cd → Except Int Bool} {l : List Cd} {k : Nat} {d : Cd} {n : Int} (hk : l[k]? = some d) (h : Hd d = .error n) : allG Hd (l.drop k) = .error n := by
  rw [drop_consT hk, allG, h]
theorem allG_no {Hd : Cd → Except Int Bool} {l : List Cd} {k : Nat} {d : Cd} (hk : l[k]? = some d) (h : Hd d = .ok false) : allG Hd (l.drop k) = .ok false := by
  rw [drop_consT hk, allG, h]
theorem allG_yes {Hd : Cd → Except Int Bool} {l : List Cd} {k : Nat} {d : Cd} (hk : l[k]? = some d) (h : Hd d = .ok true) : allG Hd (l.drop k) = allG Hd (l.drop (k + 1)) := by
  rw [drop_consT hk, allG, h]
def outG (mv : Em → Except Int EvM) (c : Cs) : Except Int Dc := if c.emits = [] then .ok ⟨true, c.refuse, []⟩ else match eventsG mv c.emits with
  | .error e => .error e
  | .ok vs => .ok ⟨false, [], vs⟩
theorem outG_eq (S : Sc) (c : Cs) : outcomeR S c = outG (eventR S) c := by
  unfold outcomeR outG
  rw [eventsR_eq]
  generalize eventsG (eventR S) c.emits = q
  cases q <;> rfl

theorem holdsE_err {st : List UInt8} {l m : List Fld} {d : Cd} {n : Int} (h : holdsE st l m d = .error n) : n ≠ 0 := by
  rw [← holdsP_eq] at h
  unfold holdsP tailP at h
  split at h
  · cases h; decide
  · split at h
    · cases h
    · split at h
      · rename_i e he
        cases h
        exact evalE_err he
      · split at h
        · rename_i e he
          cases h
          exact evalE_err he
        · split at h
          · cases h
          · split at h
            · cases h; decide
            · split at h <;> cases h
theorem setsG_errz {ev : Ex → Except Int Fld} (hz : ∀ x n, ev x = .error n → n ≠ 0) : ∀ (l : List As) (acc : List Fld) (n : Int), setsG ev acc l = .error n → n ≠ 0
  | [], acc, n, h => by rw [setsG] at h; cases h
  | a :: r, acc, n, h => by
    rw [setsG] at h
    cases hx : ev a.e with
    | error e => rw [hx] at h; cases h; exact hz _ _ hx
    | ok f => rw [hx] at h; exact setsG_errz hz r _ n h
theorem madeP_err {st : List UInt8} {l m : List Fld} {x : Em} {n : Int} (h : madeP st l m x = .error n) : n ≠ 0 := by
  unfold madeP at h
  cases hs : setsG (evalE st l m) [] x.sets with
  | error e => rw [hs] at h; cases h; exact setsG_errz (fun x n q => evalE_err q) _ _ _ hs
  | ok fs => rw [hs] at h; cases h
/-- What a loop over conditions knows: A is what all come to. -/
def alSt (Hd : Cd → Except Int Bool) (A : Except Int Bool) (l : List Cd) (k : Nat) (t : Bool) : Prop := if t then A = allG Hd (l.drop k) else A = .ok false

theorem evown_set1 {w : World} {base q i : Nat} {v : Value} {L : List EvM} (h : EvOwn w base v L) (hq : q < base) (x : Value) : EvOwn (w.setCell ⟨q, i, none⟩ x) base v L := by
  have hk : ∀ g, base ≤ g → (w.setCell ⟨q, i, none⟩ x).heap[g]? = w.heap[g]? := fun g hg => heap_setCell_other _ ⟨q, i, none⟩ _ _ (show g ≠ q by omega)
  obtain ⟨R, ⟨h1, h2⟩, h3, h4⟩ := h
  refine ⟨R, ⟨h1, ?_⟩, h3, fun i e r hi hr => ?_⟩
  · rcases h2 with h | ⟨g, cap, cur, a, b, c, r⟩
    · exact .inl h
    · exact .inr ⟨g, cap, cur, a, b, (hk g b).trans c, r⟩
  · obtain ⟨a, b, c1, c2⟩ := h4 i e r hi hr
    refine ⟨a, b, c1, ?_⟩
    rcases c2 with h | ⟨g, cap, cur, a, b, c, r⟩
    · exact .inl h
    · exact .inr ⟨g, cap, cur, a, b, (hk g b).trans c, r⟩

/-- Where the making of events stands: the decision's box at D. -/
structure CsSt (w wr : World) (D : Nat) (v : Value) (acc : List EvM) (k : Nat) : Prop where
  bel : Below w.heap.size w wr
  ob : wr.heap[D]? = some (.cells #[.bool false, .string ⟨#[]⟩, v] 45 (0, 0))
  own : EvOwn wr (D + 1) v acc
  len : acc.length = k
  siz : D + 1 ≤ wr.heap.size
  lt : w.heap.size ≤ D
theorem CsSt.grown {w wr wr' : World} {D : Nat} {v : Value} {acc : List EvM} {k : Nat} (h : CsSt w wr D v acc k) (hb : Below wr.heap.size wr wr') : CsSt w wr' D v acc k :=
  have hs := h.siz
  ⟨h.bel.trans (hb.mono h.bel.size), (hb.block _ (by omega)).trans h.ob, h.own.below hb (Nat.le_refl _), h.len, by have := hb.size; omega, h.lt⟩
theorem CsSt.put {w w5 wr' : World} {D : Nat} {v v' : Value} {acc acc' : List EvM} {k : Nat} (g : CsSt w w5 D v acc k) (hb : Below (D + 1) w5 wr') (ho : EvOwn wr' (D + 1) v' acc') (hl : acc'.length = k + 1) : CsSt w (wr'.setCell ⟨D, 2, none⟩ v') D v' acc' (k + 1) := by
  have hs := g.siz
  have ht := g.lt
  refine ⟨(g.bel.trans (hb.mono (by omega))).setCell (show w.heap.size ≤ D by omega) _, ?_, evown_set1 ho (by omega) _, hl, by rw [show (wr'.setCell ⟨D, 2, none⟩ v').heap.size = wr'.heap.size by simp [World.setCell]]; have := hb.size; omega, ht⟩
  rw [heap_setCell_same _ D 2 _ _ _ ((hb.block _ (by omega)).trans g.ob)]
  rfl
theorem cs_next {w w5 wr' : World} {D : Nat} {v v' : Value} {acc : List EvM} {e : EvM} {k : Nat} (g : CsSt w w5 D v acc k) (hb : Below (D + 1) w5 wr') (ho : EvOwn wr' (D + 1) v' (acc ++ [e])) : ∃ a n c, v' = .slice a n c ∧ wr'.heap[D]? = some (.cells #[.bool false, .string ⟨#[]⟩, v] 45 (0, 0)) ∧ CsSt w (wr'.setCell ⟨D, 2, none⟩ (.slice a n c)) D (.slice a n c) (acc ++ [e]) (k + 1) := by
  obtain ⟨a, c, rfl⟩ := ho.slice
  exact ⟨a, _, c, rfl, (hb.block _ (by omega)).trans g.ob, g.put hb ho (by rw [List.length_append, g.len]; rfl)⟩

set_option maxRecDepth 20000 in
set_option maxHeartbeats 16000000 in
theorem rcases_any (st : List UInt8) (l m : List Fld) (la : Option Addr) (lc : Nat) (ma : Option Addr) (mc : Nat) (ca : Option Addr) (cc : Nat) (cs : List Cs) (w : World) (hc : SlOf 3 CsAt w (.slice ca cs.length cc) cs) (hbig : ∀ c ∈ cs, c.emits.length ≤ 3600000000000 ∧ ∀ e ∈ c.emits, e.sets.length ≤ 2000000000000) (hl : FdL w (.slice la l.length lc) l) (hm : FdL w (.slice ma m.length mc) m) (hst : st.length ≤ 140737488355328) (hfs : ∀ f ∈ l, small f) (hfg : ∀ f ∈ m, small f) (hva : Vars w) :
    Calls Tryz.prog 51 #[.slice ca cs.length cc, sv st, .slice la l.length lc, .slice ma m.length mc] w (CaughtD w (decideG (allG (holdsE st l m)) (outG (madeP st l m)) cs)) := by
  have hb1 : Below w.heap.size w (w.alloc (.cells dc0 45)) := (Below.refl _ _).alloc (Nat.le_refl _) _
  have hr1 : (w.alloc (.cells dc0 45)).heap[w.heap.size]? = some (.cells dc0 45 (0, 0)) := heap_alloc_new _ _
  obtain ⟨w1, hw1⟩ : ∃ w1, w1 = w.alloc (.cells dc0 45) := ⟨_, rfl⟩
  rw [← hw1] at hb1 hr1
  have HW := hide hw1
  obtain ⟨B, hB⟩ : ∃ B, B = w.heap.size := ⟨_, rfl⟩
  have HBe := hide hB
  rw [← hB] at hr1
  have HRb : Hid (∀ W, Below w1.heap.size w1 W → W.heap[B]? = some (.cells dc0 45 (0, 0))) := hide (fun W hW => rowKept hr1 hW (Nat.le_refl _))
  have HBW : Hid (∀ W, Below w1.heap.size w1 W → Below w.heap.size w W) := hide (fun W hW => hb1.trans (hW.mono hb1.size))
  have HCk : Hid (∀ (k : Nat) (c : Cs), cs[k]? = some c → ∃ b off, ca = some ⟨b, off, none⟩ ∧ ∀ W, Below w1.heap.size w1 W → CsAt W b (off + k * 3) c) := hide (fun k c hk => by
    obtain ⟨b, off, e, _, hat⟩ := hc.at hk
    exact ⟨b, off, e, fun W hW => hat.grown (hb1.trans (hW.mono hb1.size))⟩)
  have HHo : Hid (∀ (W : World) (d : Cd) (a : Option Addr) (c : Nat) (a' : Option Addr) (c' : Nat), Below w1.heap.size w1 W → ExAt W d.A a c → ExAt W d.B a' c' → Calls Tryz.prog 15 #[.agg (cdV d a c a' c'), sv st, .slice la l.length lc, .slice ma m.length mc] W fun e w' => CaughtB (holdsE st l m d) e ∧ Below W.heap.size W w') := hide (fun W d a c a' c' hW h1 h2 => by
    have h := hb1.trans (hW.mono hb1.size)
    exact rHolds_any st l m la lc ma mc d a c a' c' W h1 h2 (hl.below h (Nat.le_refl _)) (hm.below h (Nat.le_refl _)) hst hfs hfg (hva.below h (Nat.le_refl _)))
  have HMa : Hid (∀ (W : World) (x : Em) (a : Option Addr) (c : Nat), Below w1.heap.size w1 W → SlOf 5 AsAt W (.slice a x.sets.length c) x.sets → x.sets.length ≤ 2000000000000 → Calls Tryz.prog 104 #[.agg #[sv x.type, .slice a x.sets.length c], sv st, .slice la l.length lc, .slice ma m.length mc] W (MadeE W (madeP st l m x))) := hide (fun W x a c hW hx hxl => by
    have h := hb1.trans (hW.mono hb1.size)
    exact rmade_any st l m la lc ma mc x a c W hx hxl (hl.below h (Nat.le_refl _)) (hm.below h (Nat.le_refl _)) hst hfs hfg (hva.below h (Nat.le_refl _)))
  have HHz : Hid (∀ d n, holdsE st l m d = .error n → n ≠ 0) := hide (fun d n h => holdsE_err h)
  have HMz : Hid (∀ x n, madeP st l m x = .error n → n ≠ 0) := hide (fun x n h => madeP_err h)
  have hc1 := hc.len.2.1
  have hc2 := hc.len.2.2
  have HBig := hide hbig
  obtain ⟨Hd, hHd⟩ : ∃ Hd, Hd = holdsE st l m := ⟨_, rfl⟩
  obtain ⟨mv, hmv⟩ : ∃ mv, mv = madeP st l m := ⟨_, rfl⟩
  rw [← hHd] at HHo HHz ⊢
  rw [← hmv] at HMa HMz ⊢
  obtain ⟨R, hR⟩ : ∃ R, R = decideG (allG Hd) (outG mv) cs := ⟨_, rfl⟩
  have HR := hide hR
  rw [← hR]
  obtain ⟨N, hN⟩ : ∃ N, N = cs.length := ⟨_, rfl⟩
  have HN := hide hN
  rw [← hN] at hc1 ⊢
  obtain ⟨NL, hNL⟩ : ∃ NL, NL = l.length := ⟨_, rfl⟩
  obtain ⟨NM, hNM⟩ : ∃ NM, NM = m.length := ⟨_, rfl⟩
  rw [← hNL, ← hNM] at HHo HMa ⊢
  clear hw1 hb1 hr1 hB hc hbig hl hm hst hfs hfg hva hHd hmv hR hN hNL hNM
  go_enter Tryz.func51, Tryz.ntmps51
  go_upto_region 1 with fail
  rw [show w.alloc (.cells #[Value.bool false, .string ⟨#[]⟩, .slice none 0 0] 45) = w1 from (unhide HW).symm]
  rw [← unhide HBe]
  go_wp2_with fail
  go_loopw [10, 11, 12, 13, 14, 15, 16, 17, 18] (fun i _ _ _ _ _ _ _ _ wr => ∃ (k : Nat), k ≤ N ∧ i = .int .i64 k ∧ Hid (R = decideG (allG Hd) (outG mv) (cs.drop k)) ∧ Hid (Below w1.heap.size w1 wr)) (fun i _ _ _ _ _ _ _ _ _ => N - (intOf i).toNat)
  case atStart => exact ⟨0, by omega, rfl, hide (by rw [unhide HR]; simp), hide (Below.refl _ _)⟩
  case round =>
    obtain ⟨k, hk, rfl, HA, HF⟩ := hrel
    by_cases hlt : k < N
    · obtain ⟨⟨whn, refuse, emits⟩, hck⟩ : ∃ u, cs[k]? = some u := ⟨_, List.getElem?_eq_getElem (by have := unhide HN; omega)⟩
      have HBg := hide (unhide HBig _ (List.mem_of_getElem? hck))
      obtain ⟨b, off, rfl, hat⟩ := unhide HCk k _ hck
      obtain ⟨⟨wa, wc, d0, hw⟩, d1, ea, ec, d2, he⟩ := hat w1 (Below.refl _ _)
      simp only at d0 d1 d2 hw he
      have hki : (k : Int) < (N : Int) := by omega
      have hk0 : ¬ (k : Int) < 0 := by omega
      have HWk : Hid (∀ (j : Nat) (d : Cd), whn[j]? = some d → ∃ b off, wa = some ⟨b, off, none⟩ ∧ ∀ W, Below w1.heap.size w1 W → CdAt W b (off + j * 10) d) := hide (fun j d hj => by
        obtain ⟨b, off, e, _, hat⟩ := hw.at hj
        exact ⟨b, off, e, fun W hW => hat.grown hW⟩)
      have HEk : Hid (∀ (j : Nat) (e : Em), emits[j]? = some e → ∃ b off, ea = some ⟨b, off, none⟩ ∧ ∀ W, Below w1.heap.size w1 W → EmAt W b (off + j * 2) e) := hide (fun j d hj => by
        obtain ⟨b, off, e, _, hat⟩ := he.at hj
        exact ⟨b, off, e, fun W hW => hat.grown hW⟩)
      have hwl := hw.len.2
      have hel := he.len.2
      obtain ⟨M, hM⟩ : ∃ M, M = whn.length := ⟨_, rfl⟩
      obtain ⟨Q, hQ⟩ : ∃ Q, Q = emits.length := ⟨_, rfl⟩
      rw [← hM] at d0 hwl
      rw [← hQ] at d2 hel
      have HD : Hid (∀ W, Below w1.heap.size w1 W → W.cell? ⟨b, off + k * 3, none⟩ = some (.slice wa M wc) ∧ W.cell? ⟨b, off + k * 3 + 1, none⟩ = some (sv refuse) ∧ W.cell? ⟨b, off + k * 3 + 2, none⟩ = some (.slice ea Q ec)) := hide (fun W hW => ⟨kept hW d0, kept hW d1, kept hW d2⟩)
      have HM := hide hM
      have HQ := hide hQ
      have HCe : Hid (∀ n : Int, allG Hd whn = .error n → R = .error n) := hide (fun n q => (unhide HA).trans (decideG_err (out := outG mv) hck q))
      have HCy := hide (fun (q : allG Hd whn = .ok true) => (unhide HA).trans (decideG_yes (out := outG mv) hck q))
      have HCn := hide (fun (q : allG Hd whn = .ok false) => (unhide HA).trans (decideG_no (out := outG mv) hck q))
      obtain ⟨A, hA⟩ : ∃ A, A = allG Hd whn := ⟨_, rfl⟩
      rw [← hA] at HCe HCy HCn
      have HAl : Hid (alSt Hd A whn 0 true) := hide (by unfold alSt; rw [hA]; simp)
      clear hck hat hw he d0 d1 d2 hM hQ hA
      go_wp2_with fail
      go_loopw [11, 12, 13, 14] (fun t i _ _ wq => ∃ (j : Nat) (tt : Bool), j ≤ M ∧ t = .bool tt ∧ i = .int .i64 j ∧ Hid (alSt Hd A whn j tt) ∧ Hid (Below w1.heap.size w1 wq)) (fun _ i _ _ _ => M - (intOf i).toNat)
      case atStart => exact ⟨0, true, by omega, rfl, rfl, HAl, HF⟩
      case round =>
        clear HF HAl
        obtain ⟨j, tt, hj, rfl, rfl, HT, HF⟩ := hrel
        rename World => W1
        obtain ⟨z0, z1, z2⟩ := unhide HD W1 (unhide HF)
        cases tt with
        | false =>
          have HAf : Hid (A = .ok false) := hide (by have := unhide HT; unfold alSt at this; simpa using this)
          have HRn := hide (unhide HCn (unhide HAf))
          by_cases hlj : j < M
          · have hji : decide ((j : Int) < (M : Int)) = true := decide_eq_true (by omega)
            have hji2 : (j : Int) < (M : Int) := by omega
            go_wp2_with fail
            go_roundw
            case rel => exact ⟨k + 1, by omega, by go_num, HRn, HF⟩
            case measure => simp [intOf]; omega
          · have hji : decide ((j : Int) < (M : Int)) = false := decide_eq_false (by omega)
            go_wp2_with fail
            go_roundw
            case rel => exact ⟨k + 1, by omega, by go_num, HRn, HF⟩
            case measure => simp [intOf]; omega
        | true =>
          have HAt : Hid (A = allG Hd (whn.drop j)) := hide (by have := unhide HT; unfold alSt at this; simpa using this)
          by_cases hlj : j < M
          · have hji2 : (j : Int) < (M : Int) := by omega
            have hj0 : ¬ (j : Int) < 0 := by omega
            obtain ⟨d, hdj⟩ : ∃ u, whn[j]? = some u := ⟨_, List.getElem?_eq_getElem (by have := unhide HM; omega)⟩
            obtain ⟨b2, off2, rfl, hat⟩ := unhide HWk j d hdj
            obtain ⟨k0, k1, ⟨x0, x1, x2, xa, xc, x3, hxA⟩, y0, y1, y2, ya, yc, y3, hxB⟩ := hat W1 (unhide HF)
            replace x1 : W1.cell? ⟨b2, off2 + j * 10 + 3, none⟩ = _ := x1
            replace x2 : W1.cell? ⟨b2, off2 + j * 10 + 4, none⟩ = _ := x2
            replace x3 : W1.cell? ⟨b2, off2 + j * 10 + 5, none⟩ = _ := x3
            replace y1 : W1.cell? ⟨b2, off2 + j * 10 + 7, none⟩ = _ := y1
            replace y2 : W1.cell? ⟨b2, off2 + j * 10 + 8, none⟩ = _ := y2
            replace y3 : W1.cell? ⟨b2, off2 + j * 10 + 9, none⟩ = _ := y3
            have HC := hide (unhide HHo W1 d xa xc ya yc (unhide HF) hxA hxB)
            have HEr := hide (fun n (q : Hd d = .error n) => (unhide HCe n ((unhide HAt).trans (allG_err hdj q))))
            have HNo := hide (fun (q : Hd d = .ok false) => (unhide HAt).trans (allG_no hdj q))
            have HYe := hide (fun (q : Hd d = .ok true) => (unhide HAt).trans (allG_yes hdj q))
            have HZ := hide (unhide HHz d)
            obtain ⟨X, hX⟩ : ∃ X, X = Hd d := ⟨_, rfl⟩
            rw [← hX] at HC HEr HNo HYe HZ
            clear hat hxA hxB hdj hX
            cases X with
            | error n =>
              have hn0 : (n != 0) = true := by simpa using unhide HZ n rfl
              have HRe := hide (unhide HEr n rfl)
              go_upto_region 9 with (go_at_call 15; refine (unhide HC).mono ?_; rintro e w5 ⟨rfl, b5⟩; have HF5 := hide ((unhide HF).trans (b5.mono (unhide HF).size)); clear b5)
              have hr := unhide HRb w5 (unhide HF5)
              obtain ⟨r0, r1, r2, rf⟩ := cells3 hr
              have HP := hide (row_put3 hr (.bool false) (.string ⟨#[]⟩) (.slice none 0 0))
              have HQ2 := hide (below_put3 (unhide HBW w5 (unhide HF5)) (show w.heap.size ≤ B by have := unhide HBe; omega) (.bool false) (.string ⟨#[]⟩) (.slice none 0 0))
              clear hr
              go_wp2_with fail
              refine bodyPost_ret (results_ct rfl _ _ B 45 dc0 (0, 0) _ (.int .i64 n) rfl rfl (unhide HP) Tryz.underlying45 rfl sizeDecision) rfl ?_
              rw [unhide HRe]
              exact ⟨rfl, unhide HQ2⟩
            | ok t =>
              have HT2 : Hid (alSt Hd A whn (j + 1) t) := hide (by
                unfold alSt
                cases t with
                | true => simpa using unhide HYe rfl
                | false => simpa using unhide HNo rfl)
              go_wp2_with (go_at_call 15; refine (unhide HC).mono ?_; rintro e w5 ⟨rfl, b5⟩; have HF5 := hide ((unhide HF).trans (b5.mono (unhide HF).size)); clear b5)
              go_roundw
              case rel => exact ⟨j + 1, t, by omega, rfl, by go_num, HT2, HF5⟩
              case measure => simp [intOf]; omega
          · have hji : decide ((j : Int) < (M : Int)) = false := decide_eq_false (by omega)
            have HAy : Hid (A = .ok true) := hide (by rw [unhide HAt, List.drop_eq_nil_of_le (by have := unhide HM; omega), allG])
            have HRo := hide (unhide HCy (unhide HAy))
            by_cases hQ0 : Q = 0
            · have HRe : Hid (R = .ok ⟨true, refuse, []⟩) := hide (by
                rw [unhide HRo]
                unfold outG
                rw [if_pos (List.eq_nil_of_length_eq_zero (by have := unhide HQ; show emits.length = 0; omega))])
              have hr := unhide HRb W1 (unhide HF)
              obtain ⟨r0, r1, r2, rf⟩ := cells3 hr
              have HP := hide (row_put3 hr (.bool true) (sv refuse) (.slice none 0 0))
              have HQ2 := hide (below_put3 (unhide HBW W1 (unhide HF)) (show w.heap.size ≤ B by have := unhide HBe; omega) (.bool true) (sv refuse) (.slice none 0 0))
              subst hQ0
              clear hr
              go_wp2_with fail
              refine bodyPost_ret (results_ct rfl _ _ B 45 (dcV ⟨true, refuse, []⟩ (.slice none 0 0)) (0, 0) _ (.int .i64 0) rfl rfl (unhide HP) Tryz.underlying45 rfl sizeDecision) rfl ?_
              rw [unhide HRe]
              exact ⟨⟨_, rfl, EvOwn.nil _ _⟩, unhide HQ2⟩
            · have hq0 : ((Q : Int) == 0) = false := by simp; omega
              have HRe : Hid (R = match eventsG mv emits with | .error e => .error e | .ok vs => .ok ⟨false, [], vs⟩) := hide (by
                rw [unhide HRo]
                unfold outG
                rw [if_neg (fun h => hQ0 (by have e := unhide HQ; have h2 : emits = [] := h; rw [h2] at e; exact e))])
              have HQ36 : Hid (Q ≤ 3600000000000) := hide (by rw [unhide HQ]; exact (unhide HBg).1)
              go_upto_region 16 with fail
              have hb2 : Below w1.heap.size w1 (W1.alloc (.cells dc0 45)) := (unhide HF).alloc (unhide HF).size _
              have ho2 : (W1.alloc (.cells dc0 45)).heap[W1.heap.size]? = some (.cells dc0 45 (0, 0)) := heap_alloc_new _ _
              have hs2 : (W1.alloc (.cells dc0 45)).heap.size = W1.heap.size + 1 := by simp
              obtain ⟨W2, hW2⟩ : ∃ W2, W2 = W1.alloc (.cells dc0 45) := ⟨_, rfl⟩
              rw [show W1.alloc (.cells #[Value.bool false, .string ⟨#[]⟩, .slice none 0 0] 45) = W2 from hW2.symm]
              rw [← hW2] at hb2 ho2 hs2
              obtain ⟨D, hD⟩ : ∃ D, D = W1.heap.size := ⟨_, rfl⟩
              rw [← hD] at ho2 hs2 ⊢
              have HS : Hid (CsSt w1 W2 D (.slice none 0 0) [] 0) := hide ⟨hb2, ho2, EvOwn.nil _ _, rfl, by omega, by have := (unhide HF).size; omega⟩
              have HBD : Hid (B < D + 1) := hide (by have := lt_of_block (unhide HRb W1 (unhide HF)); omega)
              clear hb2 ho2 hs2 hW2 hD hQ0
              go_wp2_with fail
              go_loopw [16, 17, 18] (fun i _ _ wq => ∃ (j : Nat) (va : Option Addr) (vn vc : Nat) (acc : List EvM), j ≤ Q ∧ i = .int .i64 j ∧ Hid (ahead [] (eventsG mv emits) = ahead acc (eventsG mv (emits.drop j))) ∧ Hid (CsSt w1 wq D (.slice va vn vc) acc j)) (fun i _ _ _ => Q - (intOf i).toNat)
              case atStart => exact ⟨0, none, 0, 0, [], by omega, rfl, hide (by simp), HS⟩
              case round =>
                clear HS z0 z1 z2 HF
                obtain ⟨i, va, vn, vc, acc, hi, rfl, HG, HS⟩ := hrel
                rename World => W3
                obtain ⟨z0, z1, z2⟩ := unhide HD W3 (unhide HS).bel
                obtain ⟨o0, o1, o2, of⟩ := cells3 (unhide HS).ob
                by_cases hli : i < Q
                · obtain ⟨⟨tp, sets⟩, hei⟩ : ∃ u, emits[i]? = some u := ⟨_, List.getElem?_eq_getElem (by have := unhide HQ; omega)⟩
                  have hsl := (unhide HBg).2 _ (List.mem_of_getElem? hei)
                  obtain ⟨b3, off3, rfl, hat⟩ := unhide HEk i _ hei
                  obtain ⟨y0, sa, sc, y1, hss⟩ := hat W3 (unhide HS).bel
                  simp only at hsl y0 y1 hss
                  have hii : (i : Int) < (Q : Int) := by omega
                  have hi0 : ¬ (i : Int) < 0 := by omega
                  have HC := hide (unhide HMa W3 ⟨tp, sets⟩ sa sc (unhide HS).bel hss hsl)
                  have HOk := hide (fun v (q : mv ⟨tp, sets⟩ = .ok v) => (unhide HG).trans (eventsG_ok (acc := acc) hei q))
                  have HBa := hide (fun n (q : mv ⟨tp, sets⟩ = .error n) => (unhide HG).trans (eventsG_bad (acc := acc) hei q))
                  have HZ := hide (unhide HMz ⟨tp, sets⟩)
                  obtain ⟨X, hX⟩ : ∃ X, X = mv ⟨tp, sets⟩ := ⟨_, rfl⟩
                  rw [← hX] at HC HOk HBa HZ
                  obtain ⟨SL, hSL⟩ : ∃ SL, SL = sets.length := ⟨_, rfl⟩
                  rw [← hSL] at y1
                  simp only at HC
                  rw [← hSL] at HC
                  clear hat hss hsl hei hX hSL
                  cases X with
                  | error n =>
                    have hn0 : (n != 0) = true := by simpa using unhide HZ n rfl
                    have HRf : Hid (R = .error n) := hide (by
                      have h := unhide HBa n rfl
                      rw [unhide HRe]
                      cases hE : eventsG mv emits with
                      | error e => rw [hE] at h; simp only [ahead] at h; cases h; rfl
                      | ok vs => rw [hE] at h; simp only [ahead] at h; cases h)
                    go_upto_region 20 with (go_at_call 104; refine (unhide HC).mono ?_; rintro e w5 ⟨rfl, b5⟩; have HB5 := hide b5; clear b5)
                    have hb6 : Below W3.heap.size W3 (w5.alloc (.cells ev00 50)) := (unhide HB5).alloc (unhide HB5).size _
                    have hr := unhide HRb _ ((unhide HS).grown hb6).bel
                    obtain ⟨r0, r1, r2, rf⟩ := cells3 hr
                    have HP := hide (row_put3 hr (.bool false) (.string ⟨#[]⟩) (.slice none 0 0))
                    have HQ2 := hide (below_put3 (unhide HBW _ ((unhide HS).grown hb6).bel) (show w.heap.size ≤ B by have := unhide HBe; omega) (.bool false) (.string ⟨#[]⟩) (.slice none 0 0))
                    clear hr hb6
                    go_wp2_with fail
                    refine bodyPost_ret (results_ct rfl _ _ B 45 dc0 (0, 0) _ (.int .i64 n) rfl rfl (unhide HP) Tryz.underlying45 rfl sizeDecision) rfl ?_
                    rw [unhide HRf]
                    exact ⟨rfl, unhide HQ2⟩
                  | ok v =>
                    obtain ⟨vt, vf⟩ := v
                    have HG2 := hide (unhide HOk _ rfl)
                    go_upto_region 20 with (go_at_call 104; refine (unhide HC).mono ?_; rintro e w5 ⟨⟨fa, fc, rfl, ho⟩, b5⟩; have HB5 := hide b5; have HO5 := hide ho; clear b5 ho)
                    have hb6 : Below W3.heap.size W3 (w5.alloc (.cells (emvV vt (.slice fa vf.length fc)) 50)) := (unhide HB5).alloc (unhide HB5).size _
                    have hx6 : (w5.alloc (.cells (emvV vt (.slice fa vf.length fc)) 50)).heap[w5.heap.size]? = some (.cells (emvV vt (.slice fa vf.length fc)) 50 (0, 0)) := heap_alloc_new _ _
                    have ho6 := (unhide HO5).below (show Below w5.heap.size w5 (w5.alloc (.cells (emvV vt (.slice fa vf.length fc)) 50)) from (Below.refl _ _).alloc (Nat.le_refl _) _) (Nat.le_refl _)
                    obtain ⟨FL, hFL⟩ : ∃ FL, FL = vf.length := ⟨_, rfl⟩
                    have HFL := hide hFL
                    rw [← hFL] at hb6 hx6 ho6
                    rw [← hFL]
                    obtain ⟨w6, hw6⟩ : ∃ w6, w6 = w5.alloc (.cells (emvV vt (.slice fa FL fc)) 50) := ⟨_, rfl⟩
                    rw [show w5.alloc (.cells #[Value.string ⟨vt.toArray⟩, .int .i64 0, .slice fa FL fc] 50) = w6 from hw6.symm]
                    rw [← hw6] at hb6 hx6 ho6
                    obtain ⟨q, hq⟩ : ∃ q, q = w5.heap.size := ⟨_, rfl⟩
                    rw [← hq] at hx6 ⊢
                    have HS6 := hide ((unhide HS).grown hb6)
                    obtain ⟨x0, x1, x2, -⟩ := cells3 hx6
                    obtain ⟨u0, u1, u2, uf⟩ := cells3 (unhide HS6).ob
                    have hs6 := (unhide HS6).siz
                    have b67 : Below w6.heap.size w6 (w6.alloc (.cells (emvV vt (.slice fa FL fc)) 50)) := (Below.refl _ _).alloc (Nat.le_refl _) _
                    have HO7 := hide (((ho6.mono (unhide HS).siz)).below b67 (Nat.le_refl _))
                    have HS7 := hide ((unhide HS6).grown b67)
                    have HX7 : Hid ((w6.alloc (.cells (emvV vt (.slice fa FL fc)) 50)).heap[w6.heap.size]? = some (.cells (emvV vt (.slice fa FL fc)) 50)) := hide (heap_alloc_new _ _)
                    have HLn : Hid (acc.length ≤ 3600000000000) := hide (by rw [(unhide HS).len]; have := unhide HQ36; omega)
                    clear hFL hw6 hq hb6 hx6 ho6 b67 y0 y1 z0 z1 z2 o0 o1 o2 of
                    go_wp2_with (at_builtin; refine wpList_append_evm rfl (.tmp 103) (.tmp 105) rfl (D + 1) _ acc rfl (unhide HS7).own w6.heap.size ⟨vt, vf⟩ fa FL fc rfl (unhide HX7) (unhide HFL) (by have := unhide HO7; rw [unhide HFL] at this ⊢; exact this) (unhide HLn) (unhide HS7).siz ?_; intro v8 w8 o8 b8; obtain ⟨a8, n8, c8, rfl, hob8, hS8⟩ := cs_next (unhide HS7) b8 o8; have HS8 := hide hS8; obtain ⟨v0, v1, v2, vf8⟩ := cells3 hob8; clear b8 o8 hS8 hob8)
                    go_roundw
                    case rel => exact ⟨i + 1, a8, n8, c8, _, by omega, by go_num, HG2, HS8⟩
                    case measure => simp [intOf]; omega
                · have HRf : Hid (R = .ok ⟨false, [], acc⟩) := hide (by
                    have h := (unhide HG).trans (eventsG_end (acc := acc) (by have := unhide HQ; omega))
                    rw [unhide HRe]
                    cases hE : eventsG mv emits with
                    | error e => rw [hE] at h; simp only [ahead] at h; cases h
                    | ok vs => rw [hE] at h; simp only [ahead, List.nil_append] at h; cases h; rfl)
                  have hr := unhide HRb W3 (unhide HS).bel
                  obtain ⟨r0, r1, r2, rf⟩ := cells3 hr
                  have HP := hide (row_put3 hr (.bool false) (.string ⟨#[]⟩) (.slice va vn vc))
                  have hwB : w.heap.size ≤ B := by have := unhide HBe; omega
                  have HQ2 := hide (below_put3 (unhide HBW W3 (unhide HS).bel) hwB (.bool false) (.string ⟨#[]⟩) (.slice va vn vc))
                  have HO : Hid (EvOwn (put3 W3 B (.bool false) (.string ⟨#[]⟩) (.slice va vn vc)) w.heap.size (.slice va vn vc) acc) := hide ((evown_put3 (unhide HS).own (unhide HBD) _ _ _).mono (by have := (unhide HBW _ (Below.refl _ _)).size; have := (unhide HS).lt; omega))
                  clear hr
                  go_wp2_with fail
                  refine bodyPost_ret (results_ct rfl _ _ B 45 (dcV ⟨false, [], acc⟩ (.slice va vn vc)) (0, 0) _ (.int .i64 0) rfl rfl (unhide HP) Tryz.underlying45 rfl sizeDecision) rfl ?_
                  rw [unhide HRf]
                  exact ⟨⟨_, rfl, unhide HO⟩, unhide HQ2⟩
    · have HRe : Hid (R = .ok ⟨true, noCaseT, []⟩) := hide (by rw [unhide HA, List.drop_eq_nil_of_le (by have := unhide HN; omega), decideG])
      have hr := unhide HRb wr (unhide HF)
      obtain ⟨r0, r1, r2, rf⟩ := cells3 hr
      have HP := hide (row_put3 hr (.bool true) (sv noCaseT) (.slice none 0 0))
      have HQ := hide (below_put3 (unhide HBW wr (unhide HF)) (show w.heap.size ≤ B by have := unhide HBe; omega) (.bool true) (sv noCaseT) (.slice none 0 0))
      clear hr
      go_wp2_with fail
      refine bodyPost_ret (results_ct rfl _ _ B 45 (dcV ⟨true, noCaseT, []⟩ (.slice none 0 0)) (0, 0) _ (.int .i64 0) rfl rfl (unhide HP) Tryz.underlying45 rfl sizeDecision) rfl ?_
      rw [unhide HRe]
      exact ⟨⟨_, rfl, EvOwn.nil _ _⟩, unhide HQ⟩
end Go.Proofs.YtclllkbljaomoaaGreatDoor

namespace Go.Proofs.YtclllkbljaomoaaGreatDoor
open Go.RowKit
set_option linter.unusedVariables false

/-- A slice of events reads as these. -/
def EvRd (w : World) (v : Value) (L : List EvM) : Prop := ∃ a c, v = .slice a L.length c ∧ L.length ≤ c ∧ c ≤ 9223372036854775807 ∧
  ∀ (k : Nat) (e : EvM), L[k]? = some e → ∃ b off fa fc, a = some ⟨b, off, none⟩ ∧ b < w.heap.size ∧ w.cell? ⟨b, off + k * 3, none⟩ = some (sv e.type) ∧ w.cell? ⟨b, off + k * 3 + 1, none⟩ = some (.int .i64 0) ∧ w.cell? ⟨b, off + k * 3 + 2, none⟩ = some (.slice fa e.fields.length fc) ∧ FdL w (.slice fa e.fields.length fc) e.fields
theorem EvRd.below {B : Nat} {w w' : World} {v : Value} {L : List EvM} (h : EvRd w v L) (hb : Below B w w') (hB : w.heap.size ≤ B) : EvRd w' v L := by
  obtain ⟨a, c, rfl, h1, h2, h3⟩ := h
  refine ⟨a, c, rfl, h1, h2, fun k e hk => ?_⟩
  obtain ⟨b, off, fa, fc, e1, hlt, c0, c1, c2, hf⟩ := h3 k e hk
  exact ⟨b, off, fa, fc, e1, Nat.lt_of_lt_of_le hlt hb.size, cell_kept hb hB c0, cell_kept hb hB c1, cell_kept hb hB c2, hf.below hb hB⟩
theorem EvOwn.rd {w : World} {base : Nat} {v : Value} {L : List EvM} (h : EvOwn w base v L) : EvRd w v L := by
  obtain ⟨R, ⟨h1, h2⟩, h3, h4⟩ := h
  rcases h2 with ⟨rfl, e⟩ | ⟨g, cap, cur, rfl, hb, hg, hn, hm, hs, ht⟩
  · have : L = [] := List.eq_nil_of_length_eq_zero (by omega)
    subst this
    exact ⟨none, 0, rfl, by simp, by omega, fun k e hk => by simp at hk⟩
  · refine ⟨some ⟨g, 0, none⟩, cap, by rw [h3], by omega, by unfold maxLen at hm; omega, fun k e hk => ?_⟩
    have hkl := (List.getElem?_eq_some_iff.1 hk).1
    obtain ⟨r, hr⟩ : ∃ r, R[k]? = some r := ⟨_, List.getElem?_eq_getElem (by omega)⟩
    obtain ⟨e0, e1, e2⟩ := h4 k e r hk hr
    obtain ⟨q0, q1, q2⟩ := ecs_get R k r hr
    have at' : ∀ j u, (ecs R)[j]? = some u → w.cell? ⟨g, j, none⟩ = some u := by
      intro j u hu
      have hj := (List.getElem?_eq_some_iff.1 hu).1
      have e : (cur.toList.take (R.length * 3))[j]? = (ecs R)[j]? := by rw [ht]
      rw [List.getElem?_take_of_lt (by omega), hu] at e
      simp only [World.cell?, hg]
      simpa using e
    refine ⟨g, 0, r.a, r.c, rfl, lt_of_block hg, ?_, ?_, ?_, ?_⟩
    · rw [← e0, Nat.zero_add]; exact at' _ _ q0
    · rw [Nat.zero_add]; exact at' _ _ q1
    · rw [← e1, Nat.zero_add]; exact at' _ _ q2
    · rw [← e1]; exact e2.fdl

set_option maxRecDepth 20000 in
set_option maxHeartbeats 8000000 in
theorem SameEv_eq (u v : Value) (L : List EvM) (w : World) (hu : EvRd w u L) (hv : EvRd w v L) :
    Calls Tryz.prog 18 #[u, v] w fun e w' => e = .returned (.bool true) ∧ Below w.heap.size w w' := by
  have hu0 := hu
  have hv0 := hv
  obtain ⟨a, c, rfl, hac, hc63, ha⟩ := hu
  obtain ⟨b, d, rfl, hbd, hd63, hb⟩ := hv
  have HA := hide (fun W (hW : Below w.heap.size w W) => hu0.below hW (Nat.le_refl _))
  have HB := hide (fun W (hW : Below w.heap.size w W) => hv0.below hW (Nat.le_refl _))
  obtain ⟨N, hN⟩ : ∃ N, N = L.length := ⟨_, rfl⟩
  have HN := hide hN
  rw [← hN] at hac hbd HA HB ⊢
  clear ha hb hu0 hv0 hN
  go_enter Tryz.func18, Tryz.ntmps18
  go_wp2_with fail
  go_loopw [5, 6] (fun i _ wr => ∃ (k : Nat), k ≤ N ∧ i = .int .i64 k ∧ Hid (Below w.heap.size w wr)) (fun i _ _ => N - (intOf i).toNat)
  case atStart => exact ⟨0, by omega, rfl, hide (Below.refl _ _)⟩
  case round =>
    obtain ⟨k, hk, rfl, HW⟩ := hrel
    by_cases hlt : k < N
    · obtain ⟨⟨tp, fs⟩, hf⟩ : ∃ e, L[k]? = some e := ⟨_, List.getElem?_eq_getElem (by have := unhide HN; omega)⟩
      obtain ⟨a1, _, e1, -, -, ha⟩ := unhide HA wr (unhide HW)
      obtain rfl : a = a1 := by injection e1
      obtain ⟨b1, _, e2, -, -, hb⟩ := unhide HB wr (unhide HW)
      obtain rfl : b = b1 := by injection e2
      clear e1 e2
      obtain ⟨b1, o1, fa, fc, rfl, _, x0, x1, x2, hfa⟩ := ha k _ hf
      obtain ⟨b2, o2, ga, gc, rfl, _, y0, y1, y2, hfb⟩ := hb k _ hf
      simp only at x0 x2 y0 y2 hfa hfb
      obtain ⟨M, hM⟩ : ∃ M, M = fs.length := ⟨_, rfl⟩
      have hkN : (k : Int) < (N : Int) := by omega
      have hk0 : ¬ (k : Int) < 0 := by omega
      have HSa : Hid (∀ V, Below wr.heap.size wr V → Calls Tryz.prog 19 #[.slice fa M fc, .slice ga M gc] V fun e w' => e = .returned (.bool true) ∧ Below V.heap.size V w') := hide (fun V hV => by
        rw [hM]
        exact Same_eq _ _ fs V (hfa.below hV (Nat.le_refl _)) (hfb.below hV (Nat.le_refl _)))
      rw [← hM] at x2 y2
      have HSV : Hid (∀ V, Below wr.heap.size wr V → V.cell? ⟨b1, o1 + k * 3 + 2, none⟩ = some (.slice fa M fc) ∧ V.cell? ⟨b2, o2 + k * 3 + 2, none⟩ = some (.slice ga M gc)) := hide (fun V hV => ⟨kept hV x2, kept hV y2⟩)
      have HTV : Hid (∀ V, Below wr.heap.size wr V → V.cell? ⟨b1, o1 + k * 3, none⟩ = some (sv tp) ∧ V.cell? ⟨b1, o1 + k * 3 + 1, none⟩ = some (.int .i64 0) ∧ V.cell? ⟨b2, o2 + k * 3, none⟩ = some (sv tp) ∧ V.cell? ⟨b2, o2 + k * 3 + 1, none⟩ = some (.int .i64 0)) := hide (fun V hV => ⟨kept hV x0, kept hV x1, kept hV y0, kept hV y1⟩)
      have bD : Below wr.heap.size wr wr.drew := (Below.refl _ _).drew
      have S0 := hide (unhide HSV _ (Below.refl _ _))
      have SD := hide (unhide HSV _ bD)
      have CD := hide (unhide HSa _ bD)
      have BD := hide bD
      clear ha hb hf hfa hfb x0 x1 x2 y0 y1 y2 hM bD
      go_upto_region 6 with fail
      go_region_held3 (fun V => V.cell? ⟨b1, o1 + k * 3 + 2, none⟩ = some (.slice fa M fc) ∧ V.cell? ⟨b2, o2 + k * 3 + 2, none⟩ = some (.slice ga M gc))
        (first | with_reducible exact unhide S0 | with_reducible exact unhide SD | with_reducible exact unhide S5)
        ((go_at_call 19; refine (unhide CD).mono ?_; rintro e w5 ⟨rfl, b5⟩; have B5 := hide ((unhide BD).trans (b5.mono (unhide BD).size)); have S5 := hide (unhide HSV _ (unhide B5)); clear b5))
      all_goals
        have q0 : ∀ n, (w5.drewN n).cell? ⟨b1, o1 + k * 3, none⟩ = some (sv tp) := fun n => (unhide HTV w5 (unhide B5)).1
        have q1 : ∀ n, (w5.drewN n).cell? ⟨b1, o1 + k * 3 + 1, none⟩ = some (.int .i64 0) := fun n => (unhide HTV w5 (unhide B5)).2.1
        have q2 : ∀ n, (w5.drewN n).cell? ⟨b2, o2 + k * 3, none⟩ = some (sv tp) := fun n => (unhide HTV w5 (unhide B5)).2.2.1
        have q3 : ∀ n, (w5.drewN n).cell? ⟨b2, o2 + k * 3 + 1, none⟩ = some (.int .i64 0) := fun n => (unhide HTV w5 (unhide B5)).2.2.2
        have HW2 := hide (fun n => (unhide HW).trans ((below_drewN (unhide B5) n).mono (unhide HW).size))
        clear S0 SD S5 CD HSa HSV
        go_upto_region 7 with fail
        go_quiet (fail)
        go_wp2_with fail
        go_roundw
        case rel => exact ⟨k + 1, by omega, by go_num, hide (unhide HW2 _)⟩
        case measure => simp [intOf]; omega
    · go_wp2_with fail
      go_ret
      exact ⟨rfl, unhide HW⟩
end Go.Proofs.YtclllkbljaomoaaGreatDoor

namespace Go.Proofs.YtclllkbljaomoaaGreatDoor
open Go.RowKit
set_option linter.unusedVariables false

theorem dec_none {st : List UInt8} {l m : List Fld} {hs : List Ha} {cmd : List UInt8} (h : ∀ x ∈ hs, x.cmd ≠ cmd) : decE st l m hs cmd = .error 136 := by
  unfold decE decR handR
  rw [List.find?_eq_none.2 (fun x hx => by simpa using h x hx)]
theorem dec_some {st : List UInt8} {l m : List Fld} {hs : List Ha} {cmd : List UInt8} {k : Nat} {x : Ha} (h : ∀ j, j < k → ∀ u, hs[j]? = some u → u.cmd ≠ cmd) (hk : hs[k]? = some x) (hx : x.cmd = cmd) : decE st l m hs cmd = if needB m x.needs then decideG (allG (holdsE st l m)) (outG (madeP st l m)) x.cases else .error 137 := by
  obtain ⟨hl, rfl⟩ := List.getElem?_eq_some_iff.1 hk
  unfold decE decR handR
  rw [List.find?_eq_some_iff_getElem.2 ⟨by simpa using hx, k, hl, rfl, fun j hj => by simpa using h j hj _ (List.getElem?_eq_getElem (by omega))⟩]
  simp only
  rw [needB_R]
  cases needB m hs[k].needs with
  | false => rfl
  | true =>
    simp only [if_true]
    rw [decideR_eq]
    have e1 : allR ⟨st, l, m, none, 0, none, 0, 0⟩ = allG (holdsE st l m) := by funext d; rw [allG_eq]; rfl
    have e2 : outcomeR ⟨st, l, m, none, 0, none, 0, 0⟩ = outG (madeP st l m) := by funext c; rw [outG_eq]; rfl
    rw [e1, e2]

set_option maxRecDepth 20000 in
set_option maxHeartbeats 16000000 in
theorem rDecide_any (ha : Option Addr) (hc : Nat) (hs : List Ha) (va : Option Addr) (vn vc : Nat) (st : List UInt8) (l m : List Fld) (la : Option Addr) (lc : Nat) (cmd : List UInt8) (ma : Option Addr) (mc : Nat) (w : World) (ht : SlOf 3 HaAt w (.slice ha hs.length hc) hs) (hbig : ∀ h ∈ hs, ∀ c ∈ h.cases, c.emits.length ≤ 3600000000000 ∧ ∀ e ∈ c.emits, e.sets.length ≤ 2000000000000) (hl : FdL w (.slice la l.length lc) l) (hm : FdL w (.slice ma m.length mc) m) (hst : st.length ≤ 140737488355328) (hfs : ∀ f ∈ l, small f) (hfg : ∀ f ∈ m, small f) (hva : Vars w) :
    Calls Tryz.prog 17 #[.agg (rulV ha hs.length hc va vn vc), sv st, .slice la l.length lc, sv cmd, .slice ma m.length mc] w (CaughtD w (decE st l m hs cmd)) := by
  have hb2 := below2 w (.cells (rulV ha hs.length hc va vn vc) 26) (.cells dc0 45)
  obtain ⟨hp2, he2⟩ := boxes2 w (.cells (rulV ha hs.length hc va vn vc) 26) (.cells dc0 45)
  obtain ⟨w2, hw2⟩ : ∃ w2, w2 = (w.alloc (.cells (rulV ha hs.length hc va vn vc) 26)).alloc (.cells dc0 45) := ⟨_, rfl⟩
  rw [← hw2] at hb2 hp2 he2
  have HW := hide hw2
  obtain ⟨B, hB⟩ : ∃ B, B = w.heap.size := ⟨_, rfl⟩
  have HBe := hide hB
  rw [← hB] at hp2 he2
  have HR1 : Hid (∀ W, Below w2.heap.size w2 W → W.cell? ⟨B, 0, none⟩ = some (.slice ha hs.length hc)) := hide (fun W hW => kept hW ((cell_of_row _ _ _ _ _ _ hp2).trans rfl))
  have HRb : Hid (∀ W, Below w2.heap.size w2 W → W.heap[B + 1]? = some (.cells dc0 45 (0, 0))) := hide (fun W hW => rowKept he2 hW (Nat.le_refl _))
  have HBW : Hid (∀ W, Below w2.heap.size w2 W → Below w.heap.size w W) := hide (fun W hW => hb2.trans (hW.mono hb2.size))
  have HB2s : Hid (B + 2 ≤ w2.heap.size) := hide (by have := lt_of_block he2; omega)
  have HHk : Hid (∀ (k : Nat) (x : Ha), hs[k]? = some x → ∃ b off, ha = some ⟨b, off, none⟩ ∧ ∀ W, Below w2.heap.size w2 W → HaAt W b (off + k * 3) x) := hide (fun k x hk => by
    obtain ⟨b, off, e, _, hat⟩ := ht.at hk
    exact ⟨b, off, e, fun W hW => hat.grown (hb2.trans (hW.mono hb2.size))⟩)
  have HNe : Hid (∀ (W : World) (na : Option Addr) (nc : Nat) (x : List Ne), Below w2.heap.size w2 W → SlOf 2 NeAt W (.slice na x.length nc) x → Calls Tryz.prog 50 #[.slice na x.length nc, .slice ma m.length mc] W fun e w' => e = .returned (.bool (needB m x)) ∧ Below W.heap.size W w') := hide (fun W na nc x hW hx => rneeds_any na nc x ma mc m W hx (hm.below (hb2.trans (hW.mono hb2.size)) (Nat.le_refl _)))
  have HCa : Hid (∀ (W : World) (a : Option Addr) (c : Nat) (x : List Cs), Below w2.heap.size w2 W → SlOf 3 CsAt W (.slice a x.length c) x → (∀ c ∈ x, c.emits.length ≤ 3600000000000 ∧ ∀ e ∈ c.emits, e.sets.length ≤ 2000000000000) → Calls Tryz.prog 51 #[.slice a x.length c, sv st, .slice la l.length lc, .slice ma m.length mc] W (CaughtD W (decideG (allG (holdsE st l m)) (outG (madeP st l m)) x))) := hide (fun W a c x hW hx hbx => by
    have h := hb2.trans (hW.mono hb2.size)
    exact rcases_any st l m la lc ma mc a c x W hx hbx (hl.below h (Nat.le_refl _)) (hm.below h (Nat.le_refl _)) hst hfs hfg (hva.below h (Nat.le_refl _)))
  have hh1 := ht.len.2
  have HBig := hide hbig
  obtain ⟨R, hR⟩ : ∃ R, R = decE st l m hs cmd := ⟨_, rfl⟩
  have HR := hide hR
  rw [← hR]
  obtain ⟨dg, hdg⟩ : ∃ dg, dg = decideG (allG (holdsE st l m)) (outG (madeP st l m)) := ⟨_, rfl⟩
  rw [← hdg] at HCa
  have HDs : Hid (∀ (k : Nat) (x : Ha), (∀ j, j < k → ∀ u, hs[j]? = some u → u.cmd ≠ cmd) → hs[k]? = some x → x.cmd = cmd → R = if needB m x.needs then dg x.cases else .error 137) := hide (fun k x h1 h2 h3 => by rw [hR, hdg]; exact dec_some h1 h2 h3)
  have HDn : Hid ((∀ x ∈ hs, x.cmd ≠ cmd) → R = .error 136) := hide (fun h => by rw [hR]; exact dec_none h)
  obtain ⟨N, hN⟩ : ∃ N, N = hs.length := ⟨_, rfl⟩
  have HN := hide hN
  rw [← hN] at hh1 HR1 HW ⊢
  obtain ⟨NL, hNL⟩ : ∃ NL, NL = l.length := ⟨_, rfl⟩
  obtain ⟨NM, hNM⟩ : ∃ NM, NM = m.length := ⟨_, rfl⟩
  rw [← hNM] at HNe
  rw [← hNL, ← hNM] at HCa ⊢
  clear hw2 hb2 hp2 he2 hB ht hbig hl hm hst hfs hfg hva hR hN hNL hNM hdg HR
  go_enter Tryz.func17, Tryz.ntmps17
  go_upto_region 1 with fail
  rw [show (w.alloc (.cells #[Value.slice ha N hc, .slice va vn vc] 26)).alloc (.cells #[Value.bool false, .string ⟨#[]⟩, .slice none 0 0] 45) = w2 from (unhide HW).symm]
  rw [← unhide HBe]
  go_wp2_with fail
  go_loopw [12, 13] (fun i _ wr => ∃ (k : Nat), k ≤ N ∧ i = .int .i64 k ∧ Hid (∀ j, j < k → ∀ u, hs[j]? = some u → u.cmd ≠ cmd) ∧ Hid (Below w2.heap.size w2 wr)) (fun i _ _ => N - (intOf i).toNat)
  case atStart => exact ⟨0, by omega, rfl, hide (fun j hj => absurd hj (by omega)), hide (Below.refl _ _)⟩
  case round =>
    obtain ⟨k, hk, rfl, HNo, HF⟩ := hrel
    have r1 := unhide HR1 wr (unhide HF)
    by_cases hlt : k < N
    · obtain ⟨⟨cm, needs, cases⟩, hx⟩ : ∃ u, hs[k]? = some u := ⟨_, List.getElem?_eq_getElem (by have := unhide HN; omega)⟩
      have HBg := hide (unhide HBig _ (List.mem_of_getElem? hx))
      obtain ⟨b, off, rfl, hat⟩ := unhide HHk k _ hx
      obtain ⟨d0, ⟨na, nc, d1, hne⟩, ca, cc, d2, hcs⟩ := hat w2 (Below.refl _ _)
      simp only at d0 d1 d2 hne hcs
      have hki : (k : Int) < (N : Int) := by omega
      have hk0 : ¬ (k : Int) < 0 := by omega
      have HNe2 : Hid (∀ W, Below w2.heap.size w2 W → SlOf 2 NeAt W (.slice na needs.length nc) needs) := hide (fun W hW => hne.grown (fun _ _ _ _ _ => NeAt.grown) hW)
      have HCs2 : Hid (∀ W, Below w2.heap.size w2 W → SlOf 3 CsAt W (.slice ca cases.length cc) cases) := hide (fun W hW => hcs.grown (fun _ _ _ _ _ => CsAt.grown) hW)
      have HDc : Hid (∀ W, Below w2.heap.size w2 W → W.cell? ⟨b, off + k * 3, none⟩ = some (sv cm) ∧ W.cell? ⟨b, off + k * 3 + 1, none⟩ = some (.slice na needs.length nc) ∧ W.cell? ⟨b, off + k * 3 + 2, none⟩ = some (.slice ca cases.length cc)) := hide (fun W hW => ⟨kept hW d0, kept hW d1, kept hW d2⟩)
      clear hat hne hcs d0 d1 d2
      obtain ⟨d0, d1, -⟩ := unhide HDc wr (unhide HF)
      by_cases hcm : cm = cmd
      · subst hcm
        have HRs := hide (unhide HDs k _ (unhide HNo) hx rfl)
        simp only at HRs
        have HC := hide (unhide HNe wr na nc needs (unhide HF) (unhide HNe2 wr (unhide HF)))
        obtain ⟨T, hT⟩ : ∃ T, T = needB m needs := ⟨_, rfl⟩
        rw [← hT] at HC HRs
        clear hx hT
        cases T with
        | false =>
          have HRe : Hid (R = .error 137) := hide (by have := unhide HRs; simpa using this)
          go_upto_region 6 with (go_at_call 50; refine (unhide HC).mono ?_; rintro e w5 ⟨rfl, b5⟩; have HF5 := hide ((unhide HF).trans (b5.mono (unhide HF).size)); clear b5)
          have hr := unhide HRb w5 (unhide HF5)
          obtain ⟨q0, q1, q2, qf⟩ := cells3 hr
          have HP := hide (row_put3 hr (.bool false) (.string ⟨#[]⟩) (.slice none 0 0))
          have HQ2 := hide (below_put3 (unhide HBW w5 (unhide HF5)) (show w.heap.size ≤ B + 1 by have := unhide HBe; omega) (.bool false) (.string ⟨#[]⟩) (.slice none 0 0))
          clear hr
          go_wp2_with fail
          refine bodyPost_ret (results_ct rfl _ _ (B + 1) 45 dc0 (0, 0) _ (.int .i64 137) rfl rfl (unhide HP) Tryz.underlying45 rfl sizeDecision) rfl ?_
          rw [unhide HRe]
          exact ⟨rfl, unhide HQ2⟩
        | true =>
          have HRe : Hid (R = dg cases) := hide (by have := unhide HRs; simpa using this)
          go_upto_region 8 with (go_at_call 50; refine (unhide HC).mono ?_; rintro e w5 ⟨rfl, b5⟩; have HF5 := hide ((unhide HF).trans (b5.mono (unhide HF).size)); clear b5)
          clear r1 d0 d1
          have r1 := unhide HR1 w5 (unhide HF5)
          obtain ⟨-, -, d2⟩ := unhide HDc w5 (unhide HF5)
          have HC2 := hide (unhide HCa w5 ca cc cases (unhide HF5) (unhide HCs2 w5 (unhide HF5)) (unhide HBg))
          have HB5 : Hid (B + 2 ≤ w5.heap.size) := hide (by have := (unhide HF5).size; have := unhide HB2s; omega)
          rw [← unhide HRe] at HC2
          cases R with
          | error n =>
            go_wp2_with (go_at_call 51; refine (unhide HC2).mono ?_; rintro e w6 ⟨rfl, b6⟩; have b26 := (unhide HF5).trans (b6.mono (unhide HF5).size); have hr := unhide HRb w6 b26; obtain ⟨q0, q1, q2, qf⟩ := cells3 hr; have HP := hide (row_put3 hr (.bool false) (.string ⟨#[]⟩) (.slice none 0 0)); have HQ2 := hide (below_put3 (unhide HBW w6 b26) (show w.heap.size ≤ B + 1 by have := unhide HBe; omega) (.bool false) (.string ⟨#[]⟩) (.slice none 0 0)); clear b6 b26 hr)
            refine bodyPost_ret (results_ct rfl _ _ (B + 1) 45 dc0 (0, 0) _ (.int .i64 n) rfl rfl (unhide HP) Tryz.underlying45 rfl sizeDecision) rfl ?_
            exact ⟨rfl, unhide HQ2⟩
          | ok d =>
            obtain ⟨rf, rs, evs⟩ := d
            go_wp2_with (go_at_call 51; refine (unhide HC2).mono ?_; rintro e w6 ⟨⟨v6, rfl, o6⟩, b6⟩; obtain ⟨a6, c6, rfl⟩ := o6.slice; have b26 := (unhide HF5).trans (b6.mono (unhide HF5).size); have hr := unhide HRb w6 b26; obtain ⟨q0, q1, q2, qf⟩ := cells3 hr; have HP := hide (row_put3 hr (.bool rf) (sv rs) (.slice a6 evs.length c6)); have HO6 := hide (evown_put3 (q := B + 1) o6 (by have := unhide HB5; omega) (.bool rf) (sv rs) (.slice a6 evs.length c6)); have HQ2 := hide (below_put3 (unhide HBW w6 b26) (show w.heap.size ≤ B + 1 by have := unhide HBe; omega) (.bool rf) (sv rs) (.slice a6 evs.length c6)); clear b6 b26 hr o6)
            refine bodyPost_ret (results_ct rfl _ _ (B + 1) 45 (dcV ⟨rf, rs, evs⟩ (.slice a6 evs.length c6)) (0, 0) _ (.int .i64 0) rfl rfl (unhide HP) Tryz.underlying45 rfl sizeDecision) rfl ?_
            exact ⟨⟨_, rfl, (unhide HO6).mono (unhide HBW w5 (unhide HF5)).size⟩, unhide HQ2⟩
      · have hne1 : (cm == cmd) = false := by simpa using hcm
        have HNo2 : Hid (∀ j, j < k + 1 → ∀ u, hs[j]? = some u → u.cmd ≠ cmd) := hide (fun j hj u hu => by
          by_cases hjk : j = k
          · subst hjk
            rw [hx] at hu
            cases hu
            exact hcm
          · exact unhide HNo j (by omega) u hu)
        clear hx
        go_wp2_with fail
        go_roundw
        case rel => exact ⟨k + 1, by omega, by go_num, HNo2, HF⟩
        case measure => simp [intOf]; omega
    · have HRe : Hid (R = .error 136) := hide (unhide HDn (fun v hv => by
        obtain ⟨j, hj⟩ := List.mem_iff_getElem?.1 hv
        have := (List.getElem?_eq_some_iff.1 hj).1
        exact unhide HNo j (by have := unhide HN; omega) v hj))
      have hr := unhide HRb wr (unhide HF)
      obtain ⟨q0, q1, q2, qf⟩ := cells3 hr
      have HP := hide (row_put3 hr (.bool false) (.string ⟨#[]⟩) (.slice none 0 0))
      have HQ2 := hide (below_put3 (unhide HBW wr (unhide HF)) (show w.heap.size ≤ B + 1 by have := unhide HBe; omega) (.bool false) (.string ⟨#[]⟩) (.slice none 0 0))
      clear hr
      go_wp2_with fail
      refine bodyPost_ret (results_ct rfl _ _ (B + 1) 45 dc0 (0, 0) _ (.int .i64 136) rfl rfl (unhide HP) Tryz.underlying45 rfl sizeDecision) rfl ?_
      rw [unhide HRe]
      exact ⟨rfl, unhide HQ2⟩
end Go.Proofs.YtclllkbljaomoaaGreatDoor

namespace Go.Proofs.YtclllkbljaomoaaGreatDoor
open Go.RowKit
set_option linter.unusedVariables false

/-- The decision, or none; the error, or 0. -/
def decV (R : Except Int Dc) : Dc := match R with | .ok d => d | .error _ => ⟨false, [], []⟩
def decN (R : Except Int Dc) : Int := match R with | .ok _ => 0 | .error n => n
theorem caughtD_two {w w' : World} {R : Except Int Dc} {e : Ending} (h : CaughtD w R e w') : ∃ a c, e = .returned (.tuple #[.agg #[.bool (decV R).refused, sv (decV R).reason, .slice a (decV R).events.length c], .int .i64 (decN R)]) ∧ EvOwn w' w.heap.size (.slice a (decV R).events.length c) (decV R).events ∧ Below w.heap.size w w' := by
  obtain ⟨h1, h2⟩ := h
  cases R with
  | error n => exact ⟨none, 0, h1, EvOwn.nil _ _, h2⟩
  | ok d =>
    obtain ⟨v, rfl, ho⟩ := h1
    obtain ⟨a, c, rfl⟩ := ho.slice
    exact ⟨a, c, rfl, ho, h2⟩

theorem bigHaP.v {hs : List Ha} {Y : List HaV} (hY : Y.map HaV.p = hs) (h : ∀ x ∈ hs, bigHaP x) : ∀ y ∈ Y, bigHa y := by
  intro y hy x hx
  have hp : y.p ∈ hs := by rw [← hY]; exact List.mem_map_of_mem hy
  have hc : x.p ∈ y.p.cases := List.mem_map_of_mem hx
  obtain ⟨h1, h2⟩ := (h _ hp).2 _ hc
  refine ⟨?_, fun m hm => ?_⟩
  · have : x.p.emits.length = x.emits.length := by simp [CsV.p]
    omega
  · have hm' : m.p ∈ x.p.emits := List.mem_map_of_mem hm
    have h3 := h2 _ hm'
    have : m.p.sets.length = m.sets.length := by simp [EmV.p]
    omega
theorem bigHaP.r {hs : List Ha} (h : ∀ x ∈ hs, bigHaP x) : ∀ x ∈ hs, ∀ c ∈ x.cases, c.emits.length ≤ 3600000000000 ∧ ∀ e ∈ c.emits, e.sets.length ≤ 2000000000000 := by
  intro x hx c hc
  obtain ⟨h1, h2⟩ := (h _ hx).2 _ hc
  exact ⟨by omega, fun e he => by have := h2 e he; omega⟩

/-- Only fields that lie between lo and hi have been written over. -/
structure Mut (lo hi : Nat) (wL wr : World) : Prop where
  bel : Below lo wL wr
  shp : ∀ q cur, lo ≤ q → q < hi → wL.heap[q]? = some (.cells cur 37 (0, 0)) → ∃ cur', wr.heap[q]? = some (.cells cur' 37 (0, 0)) ∧ cur'.size = cur.size
  oth : ∀ q, (hi ≤ q ∨ ∀ cur, wL.heap[q]? ≠ some (.cells cur 37 (0, 0))) → wr.heap[q]? = wL.heap[q]?
theorem Mut.refl (lo hi : Nat) (w : World) (h : lo ≤ w.heap.size) : Mut lo hi w w := ⟨(Below.refl _ _).mono h, fun q cur _ _ h => ⟨cur, h, rfl⟩, fun q _ => rfl⟩
theorem Mut.set1 {lo hi : Nat} {wL wr : World} (h : Mut lo hi wL wr) {g : Nat} {cur0 : Array Value} (hg : lo ≤ g) (hh : g < hi) (hf : wL.heap[g]? = some (.cells cur0 37 (0, 0))) (i : Nat) (x : Value) : Mut lo hi wL (wr.setCell ⟨g, i, none⟩ x) := by
  refine ⟨h.bel.setCell (p := ⟨g, i, none⟩) hg x, fun q cur hq hq2 hc => ?_, fun q hq => ?_⟩
  · obtain ⟨cur', h1, h2⟩ := h.shp q cur hq hq2 hc
    by_cases e : q = g
    · subst e
      exact ⟨_, heap_setCell_same _ q i _ _ _ h1, by rw [Array.size_setIfInBounds]; exact h2⟩
    · exact ⟨cur', (heap_setCell_other _ ⟨g, i, none⟩ _ _ e).trans h1, h2⟩
  · have e : q ≠ g := by
      rintro rfl
      rcases hq with hq | hq
      · omega
      · exact hq cur0 hf
    exact (heap_setCell_other _ ⟨g, i, none⟩ _ _ e).trans (h.oth q hq)
theorem Mut.put {lo hi : Nat} {wL wr : World} (h : Mut lo hi wL wr) {g : Nat} {cur0 : Array Value} (hg : lo ≤ g) (hh : g < hi) (hf : wL.heap[g]? = some (.cells cur0 37 (0, 0))) (k : Nat) (f : Fld) : Mut lo hi wL ((((wr.setCell ⟨g, k * 4, none⟩ (sv f.name)).setCell ⟨g, k * 4 + 1, none⟩ (.bool f.text)).setCell ⟨g, k * 4 + 2, none⟩ (.int .i64 f.n)).setCell ⟨g, k * 4 + 3, none⟩ (sv f.s)) :=
  (((h.set1 hg hh hf _ _).set1 hg hh hf _ _).set1 hg hh hf _ _).set1 hg hh hf _ _
theorem evown_heap {w w' : World} {base : Nat} {v : Value} {L : List EvM} (h : EvOwn w base v L) (hk : ∀ g, base ≤ g → w'.heap[g]? = w.heap[g]?) : EvOwn w' base v L := by
  obtain ⟨R, ⟨h1, h2⟩, h3, h4⟩ := h
  refine ⟨R, ⟨h1, ?_⟩, h3, fun i e r hi hr => ?_⟩
  · rcases h2 with h | ⟨g, cap, cur, a, b, c, r⟩
    · exact .inl h
    · exact .inr ⟨g, cap, cur, a, b, (hk g b).trans c, r⟩
  · obtain ⟨a, b, c1, c2⟩ := h4 i e r hi hr
    refine ⟨a, b, c1, ?_⟩
    rcases c2 with h | ⟨g, cap, cur, a, b, c, r⟩
    · exact .inl h
    · exact .inr ⟨g, cap, cur, a, b, (hk g b).trans c, r⟩
theorem Mut.own {lo hi base : Nat} {wL wr : World} {v : Value} {L : List EvM} (h : Mut lo hi wL wr) (hb : hi ≤ base) (ho : EvOwn wL base v L) : EvOwn wr base v L := evown_heap ho (fun g hg => h.oth g (.inl (by omega)))

/-- Where the fields of some events lie. -/
def EvPl (lo hi : Nat) (wL : World) (a : Option Addr) (n : Nat) : Prop := ∀ i, i < n → ∃ ge fa fn fc, a = some ⟨ge, 0, none⟩ ∧ ge < wL.heap.size ∧ (∀ cur, wL.heap[ge]? ≠ some (.cells cur 37 (0, 0))) ∧ wL.cell? ⟨ge, i * 3 + 2, none⟩ = some (.slice fa fn fc) ∧ (fn ≤ fc ∧ fc ≤ 9223372036854775807) ∧ (fn = 0 ∨ ∃ g cur, fa = some ⟨g, 0, none⟩ ∧ lo ≤ g ∧ g < hi ∧ wL.heap[g]? = some (.cells cur 37 (0, 0)) ∧ fn * 4 ≤ cur.size)
theorem EvOwn.max {w : World} {lo n c : Nat} {a : Option Addr} {L : List EvM} (h : EvOwn w lo (.slice a n c) L) : n ≤ 9223372036854775807 := by
  obtain ⟨_, _, e, h1, h2, _⟩ := h.rd
  cases e
  omega
theorem EvOwn.pl {wL w5 : World} {lo n c : Nat} {a : Option Addr} {L : List EvM} (h : EvOwn w5 lo (.slice a n c) L) (hb : Below w5.heap.size w5 wL) : EvPl lo w5.heap.size wL a n := by
  intro i hi
  have hn : n = L.length := by obtain ⟨_, _, e⟩ := h.slice; cases e; rfl
  obtain ⟨R, ⟨h1, h2⟩, h3, h4⟩ := h
  rcases h2 with ⟨e, e0⟩ | ⟨g, cap, cur, e, hb0, hg, hn0, hm, hs, ht⟩
  · cases e; omega
  · cases e
    obtain ⟨ev, he⟩ : ∃ ev, L[i]? = some ev := ⟨_, List.getElem?_eq_getElem (by omega)⟩
    obtain ⟨r, hr⟩ : ∃ r, R[i]? = some r := ⟨_, List.getElem?_eq_getElem (by omega)⟩
    obtain ⟨e0, e1, e2⟩ := h4 i ev r he hr
    obtain ⟨q0, q1, q2⟩ := ecs_get R i r hr
    obtain ⟨rt, ra, rn, rc⟩ := r
    simp only at e0 e1 e2 q0 q1 q2
    have hj := (List.getElem?_eq_some_iff.1 q2).1
    have hgl := lt_of_block hg
    have hgL : wL.heap[g]? = some (.cells cur 50 (0, 0)) := (hb.block g hgl).trans hg
    refine ⟨g, ra, rn, rc, rfl, lt_of_block hgL, fun cur' e => ?_, ?_, ?_, ?_⟩
    · rw [hgL] at e
      exact absurd e (by simp)
    · have e : (cur.toList.take (R.length * 3))[i * 3 + 2]? = (ecs R)[i * 3 + 2]? := by rw [ht]
      rw [List.getElem?_take_of_lt (by have := (List.getElem?_eq_some_iff.1 hr).1; omega), q2] at e
      simp only [World.cell?, hgL]
      simpa using e
    · obtain ⟨_, _, e, h5, h6, _⟩ := e2.fdl
      cases e
      exact ⟨h5, h6⟩
    · rcases e2.2 with ⟨e, e0⟩ | ⟨g', cap', cur', e, hb', hg', hn', hm', hs', ht'⟩
      · left
        cases e
        rfl
      · right
        cases e
        refine ⟨g', cur', rfl, hb', lt_of_block hg', (hb.block g' (lt_of_block hg')).trans hg', ?_⟩
        rw [hs']
        exact Nat.mul_le_mul_right 4 hn'
end Go.Proofs.YtclllkbljaomoaaGreatDoor
