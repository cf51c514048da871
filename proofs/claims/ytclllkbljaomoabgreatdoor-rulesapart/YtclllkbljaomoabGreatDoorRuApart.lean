/-
  DERIVED. RulesApart: a command is decided by its own handler alone.
-/
import Derived.Test.YtclllkbljaomoabGreatDoorRuEs
import Derived.Test.YtclllkbljaomoabGreatDoorRuOd
import Derived.Test.YtclllkbljaomoabGreatDoorRuTb
import Derived.Test.YtclllkbljaomoabGreatDoorUpLaid
import Derived.Test.YtclllkbljaomoabGreatDoorCards
import Derived.Test.YtclllkbljaomoabGreatDoorTie
import Derived.Deep.RegionLaw
import Derived.SevenTiedAt
namespace Go.Proofs.YtclllkbljaomoabGreatDoor
open Go.ChangeShapes Go.WideShapes Go.ChangeAt Go.RowKit
open Go.ChangeMaps (open_string shut_string)
set_option linter.unusedVariables false

theorem Tryz.infoHandler : (Tryz.prog.info? 46).map (fun i => (i.zero, i.size, i.bytes)) = some (some (.agg #[.string ⟨#[]⟩, .slice none 0 0, .slice none 0 0]), 3, 64) := by kernel_rfl
/-- append(nil, h), as a step of a region that draws. -/
theorem step_append_ha {ops : Array Oper} {o : Oper} {a : Act} {w : World} {K : Act → World → Prop} {Q : Exit → Act → World → Prop} {E : Prop}
    (hg : o.guard = none) (s x : Operand) (ho : o.op = .call { callee := .builtin .append, args := #[s, x], argTypes := #[39, 39] })
    (base q : Nat) (u0 u1 u2 : Value) (hs : a.eval s = .slice none 0 0) (hx : a.eval x = .slice (some ⟨q, 0, none⟩) 1 1) (hq : w.heap[q]? = some (.cells #[u0, u1, u2] 46 (0, 0))) (h1 : u0.oneCell' = true ∧ u1.oneCell' = true ∧ u2.oneCell' = true) (hbase : base ≤ w.heap.size)
    (hK : ∀ g c w', base ≤ g → 1 ≤ c → c ≤ 9223372036854775807 → w'.cell? ⟨g, 0, none⟩ = some u0 → w'.cell? ⟨g, 1, none⟩ = some u1 → w'.cell? ⟨g, 2, none⟩ = some u2 → Below base w w' → K (a.put o.dst (.slice (some ⟨g, 0, none⟩) 1 c)) w') :
    if Region.wanted o (yielded ops a.tmps) = true then Oper.wp Tryz.prog o a w K Q else E := by
  have hw : Region.wanted o (yielded ops a.tmps) = true := by simp [Region.wanted, hg]
  rw [if_pos hw]
  obtain ⟨i0, hi, hh⟩ := Option.map_eq_some_iff.1 Tryz.infoHandler
  simp only [Prod.mk.injEq] at hh
  obtain ⟨v', w', hrun, r1, r2, _⟩ := run_append_own (P := Tryz.prog) w base 39 o.type 46 i0 (.agg #[.string ⟨#[]⟩, .slice none 0 0, .slice none 0 0]) 3 64 Tryz.underlying39 hi hh.1 hh.2.1 hh.2.2 rfl (by decide) (.slice none 0 0) 0 [] (World.ownsRow_nil _ _ _ _) ⟨q, 0, none⟩ 1 1 [u0, u1, u2] (by simp) (fun j u hj => by
    rw [addr_add, Nat.zero_add, cell_of_row _ _ _ _ _ _ hq]
    rw [← hj]; simp) (by simp; exact h1) (by unfold maxLen; omega) (by omega) hbase
  unfold Oper.wp
  simp [execOp, ho, resolve, invoke, builtin, hs, hx, hrun, Result.andThen]
  rcases r1.2 with ⟨_, e⟩ | ⟨g, cap, cur, rfl, hb, hgc, hn, hm, hss, ht⟩
  · omega
  · have at' : ∀ j u, j < 3 → [u0, u1, u2][j]? = some u → w'.cell? ⟨g, j, none⟩ = some u := by
      intro j u hj hu
      have e : (cur.toList.take ((0 + 1) * 3))[j]? = ([] ++ [u0, u1, u2])[j]? := by rw [ht]
      rw [List.getElem?_take_of_lt (by omega), List.nil_append, hu] at e
      simp only [World.cell?, hgc]
      simpa using e
    exact hK g cap w' hb (by omega) (by unfold maxLen at hm; omega) (at' 0 _ (by omega) rfl) (at' 1 _ (by omega) rfl) (at' 2 _ (by omega) rfl) ((Below.refl _ _).grown r2 hbase (fun k e => by cases e))

/-- The first handler of a command, so far. -/
def ApI (hs : List Ha) (cmd : List UInt8) (k : Nat) (f : List Ha) : Prop := (f = [] ∧ ∀ j : Nat, j < k → ∀ u : Ha, hs[j]? = some u → u.cmd ≠ cmd) ∨ ∃ (j : Nat) (h : Ha), f = [h] ∧ hs[j]? = some h ∧ h.cmd = cmd ∧ ∀ i : Nat, i < j → ∀ u : Ha, hs[i]? = some u → u.cmd ≠ cmd
theorem ApI.dec {hs : List Ha} {cmd : List UInt8} {k : Nat} {f : List Ha} (h : ApI hs cmd k f) (hk : f = [] → hs.length ≤ k) (st : List UInt8) (l m : List Fld) : decE st l m f cmd = decE st l m hs cmd ∧ (f.length = 1 ∨ decE st l m hs cmd = .error 136) := by
  rcases h with ⟨rfl, h⟩ | ⟨j, h, rfl, hj, hc, hn⟩
  · have e1 : decE st l m hs cmd = .error 136 := by
      unfold decE decR handR
      rw [List.find?_eq_none.2 (fun x hx => by
        obtain ⟨i, hi⟩ := List.mem_iff_getElem?.1 hx
        have := (List.getElem?_eq_some_iff.1 hi).1
        simpa using h i (by have := hk rfl; omega) x hi)]
    exact ⟨by rw [e1]; rfl, .inr e1⟩
  · refine ⟨?_, .inl rfl⟩
    obtain ⟨hl, rfl⟩ := List.getElem?_eq_some_iff.1 hj
    unfold decE decR handR
    rw [List.find?_eq_some_iff_getElem.2 ⟨by simpa using hc, j, hl, rfl, fun i hi => by simpa using hn i hi _ (List.getElem?_eq_getElem (by omega))⟩]
    rw [show [hs[j]].find? (fun h => h.cmd == cmd) = some hs[j] by simp [hc]]
/-- Where the law stands: the box of 'one' at D. -/
structure ApM (w1 W : World) (D : Nat) (a : Option Addr) (c : Nat) (f : List Ha) : Prop where
  bel : Below w1.heap.size w1 W
  box : W.heap[D]? = some (.cells #[.slice a f.length c, .slice none 0 0] 42 (0, 0))
  row : SlOf 3 HaAt W (.slice a f.length c) f
  nil : f = [] → a = none ∧ c = 0
theorem cells2 {w : World} {q : Nat} {y0 y1 : Value} {t : TypeId} (h : w.heap[q]? = some (.cells #[y0, y1] t (0, 0))) : w.cell? ⟨q, 0, none⟩ = some y0 ∧ w.cell? ⟨q, 1, none⟩ = some y1 ∧ ∀ i, w.frozen? ⟨q, i, none⟩ = false :=
  ⟨(cell_of_row _ _ _ _ _ _ h).trans rfl, (cell_of_row _ _ _ _ _ _ h).trans rfl, fun i => by simp [World.frozen?, h]⟩
theorem ApM.grown {w1 W W' : World} {D : Nat} {a : Option Addr} {c : Nat} {f : List Ha} (h : ApM w1 W D a c f) (hb : Below W.heap.size W W') : ApM w1 W' D a c f :=
  ⟨h.bel.trans (hb.mono h.bel.size), rowKept h.box hb (Nat.le_refl _), h.row.grown (fun _ _ _ _ _ => HaAt.grown) hb, h.nil⟩

set_option maxRecDepth 20000 in
set_option maxHeartbeats 16000000 in
theorem RuApart.walk (ha : Option Addr) (hc : Nat) (hs : List Ha) (va : Option Addr) (vn vc : Nat) (s : ByteArray) (la : Option Addr) (lc : Nat) (l : List Fld) (cs : ByteArray) (ma : Option Addr) (mc : Nat) (m : List Fld) (w : World)
    (ht : SlOf 3 HaAt w (.slice ha hs.length hc) hs) (hbig : ∀ h ∈ hs, bigHaP h) (hst : s.data.toList.length ≤ 140737488355328) (hl : FdL w (.slice la l.length lc) l) (hfs : ∀ f ∈ l, small f) (hm : FdL w (.slice ma m.length mc) m) (hfg : ∀ f ∈ m, small f) (hva : Vars w) :
    Calls Tryz.prog 4 #[.agg (rulV ha hs.length hc va vn vc), .string s, .slice la l.length lc, .string cs, .slice ma m.length mc] w fun e w' => e = .returned (.bool true) ∧ Below w.heap.size w w' := by
  rw [str_list s, str_list cs]
  obtain ⟨st, hste⟩ : ∃ st, st = s.data.toList := ⟨_, rfl⟩
  obtain ⟨cmd, hcmd⟩ : ∃ cmd, cmd = cs.data.toList := ⟨_, rfl⟩
  rw [← hste] at hst ⊢
  rw [← hcmd]
  clear hste hcmd
  have hb1 : Below w.heap.size w (w.alloc (.cells (rulV ha hs.length hc va vn vc) 42)) := (Below.refl _ _).alloc (Nat.le_refl _) _
  have hr1 : (w.alloc (.cells (rulV ha hs.length hc va vn vc) 42)).heap[w.heap.size]? = some (.cells (rulV ha hs.length hc va vn vc) 42 (0, 0)) := heap_alloc_new _ _
  obtain ⟨w1, hw1⟩ : ∃ w1, w1 = w.alloc (.cells (rulV ha hs.length hc va vn vc) 42) := ⟨_, rfl⟩
  rw [← hw1] at hb1 hr1
  have HW := hide hw1
  obtain ⟨B, hB⟩ : ∃ B, B = w.heap.size := ⟨_, rfl⟩
  rw [← hB] at hr1
  have HBe := hide hB
  have HSB : Hid (∀ W, Below w1.heap.size w1 W → (W.cell? ⟨B, 0, none⟩ = some (.slice ha hs.length hc) ∧ W.cell? ⟨B, 1, none⟩ = some (.slice va vn vc))) := hide (fun W hW => ⟨kept hW ((cell_of_row _ _ _ _ _ _ hr1).trans rfl), kept hW ((cell_of_row _ _ _ _ _ _ hr1).trans rfl)⟩)
  have HBW : Hid (∀ W, Below w1.heap.size w1 W → Below w.heap.size w W) := hide (fun W hW => hb1.trans (hW.mono hb1.size))
  have HHk : Hid (∀ (k : Nat) (x : Ha), hs[k]? = some x → ∃ b off, ha = some ⟨b, off, none⟩ ∧ ∀ W, Below w1.heap.size w1 W → HaAt W b (off + k * 3) x) := hide (fun k x hk => by
    obtain ⟨b, off, e, _, hat⟩ := ht.at hk
    exact ⟨b, off, e, fun W hW => hat.grown (hb1.trans (hW.mono hb1.size))⟩)
  have HDe : Hid (∀ (W : World) (f : List Ha) (a : Option Addr) (c : Nat) (va : Option Addr) (vn vc : Nat), Below w1.heap.size w1 W → (∀ x ∈ f, bigHaP x) → SlOf 3 HaAt W (.slice a f.length c) f → Calls Tryz.prog 9 #[.agg #[.slice a f.length c, .slice va vn vc], sv st, .slice la l.length lc, sv cmd, .slice ma m.length mc] W (CaughtD W (decE st l m f cmd))) := hide (fun W f a c va vn vc hW hbf hrow => by
    have h := hb1.trans (hW.mono hb1.size)
    obtain ⟨Y, hY, hsV⟩ := haPick hrow (fun x hx => (hbf x hx).1)
    have e : f.length = Y.length := by rw [← hY]; simp
    rw [e, ← hY]
    refine Decide_any a c Y va vn vc st l m la lc cmd ma mc W ?_ (bigHaP.v hY hbf) (hl.below h (Nat.le_refl _)) (hm.below h (Nat.le_refl _)) hst hfs hfg (hva.below h (Nat.le_refl _))
    rw [← e]
    exact hsV)
  have HRow : Hid (∀ W, Below w1.heap.size w1 W → SlOf 3 HaAt W (.slice ha hs.length hc) hs) := hide (fun W hW => ht.grown (fun _ _ _ _ _ => HaAt.grown) (hb1.trans (hW.mono hb1.size)))
  have HBig := hide hbig
  have HA := hide (uawake_go w1 (hva.below hb1 (Nat.le_refl _)))
  have hh1 := ht.len.2
  obtain ⟨N, hN⟩ : ∃ N, N = hs.length := ⟨_, rfl⟩
  have HN := hide hN
  rw [← hN] at HW HSB hh1 ⊢
  obtain ⟨NL, hNL⟩ : ∃ NL, NL = l.length := ⟨_, rfl⟩
  obtain ⟨NM, hNM⟩ : ∃ NM, NM = m.length := ⟨_, rfl⟩
  rw [← hNL, ← hNM] at HDe ⊢
  obtain ⟨dc, hdc⟩ : ∃ dc, dc = decE st l m := ⟨_, rfl⟩
  have HI : Hid (∀ k f, ApI hs cmd k f → (f = [] → hs.length ≤ k) → dc f cmd = dc hs cmd ∧ (f.length = 1 ∨ dc hs cmd = .error 136)) := hide (fun k f h1 h2 => by rw [hdc]; exact h1.dec h2 st l m)
  rw [← hdc] at HDe
  clear hw1 hb1 hr1 hB ht hbig hl hm hst hfs hfg hva hN hNL hNM hdc
  go_enter Tryz.func4, Tryz.ntmps4
  go_upto_region 1 with fail
  rw [show w.alloc (.cells #[Value.slice ha N hc, .slice va vn vc] 42) = w1 from (unhide HW).symm]
  rw [← unhide HBe]
  go_upto_region 3 with (go_at_call 5; refine (unhide HA).mono ?_; rintro e w2 ⟨rfl, b2⟩; have HK2 := hide b2; clear b2)
  have hb3 : Below w1.heap.size w1 (w2.alloc (.cells #[.slice none 0 0, .slice none 0 0] 42)) := (unhide HK2).alloc (unhide HK2).size _
  have hx3 : (w2.alloc (.cells #[.slice none 0 0, .slice none 0 0] 42)).heap[w2.heap.size]? = some (.cells #[.slice none 0 0, .slice none 0 0] 42 (0, 0)) := heap_alloc_new _ _
  obtain ⟨w3, hw3⟩ : ∃ w3, w3 = w2.alloc (.cells #[.slice none 0 0, .slice none 0 0] 42) := ⟨_, rfl⟩
  rw [show w2.alloc (.cells #[Value.slice none 0 0, .slice none 0 0] 42) = w3 from hw3.symm]
  rw [← hw3] at hb3 hx3
  obtain ⟨D, hD⟩ : ∃ D, D = w2.heap.size := ⟨_, rfl⟩
  have HDg : Hid (w1.heap.size ≤ D) := hide (by rw [hD]; exact (unhide HK2).size)
  rw [← hD] at hx3 ⊢
  have HM0 : Hid (ApM w1 w3 D none 0 []) := hide ⟨hb3, hx3, SlOf.nil _, fun _ => ⟨rfl, rfl⟩⟩
  have HI0 : Hid (ApI hs cmd 0 []) := hide (.inl ⟨rfl, fun j hj => absurd hj (by omega)⟩)
  clear hb3 hx3 hw3 hD HA
  go_wp2_with fail
  go_loopw [13] (fun i wr => ∃ (k : Nat) (f : List Ha) (a : Option Addr) (c : Nat), k ≤ N ∧ i = .int .i64 k ∧ Hid (ApI hs cmd k f) ∧ Hid (ApM w1 wr D a c f)) (fun i _ => N - (intOf i).toNat)
  case atStart => exact ⟨0, [], none, 0, by omega, rfl, HI0, HM0⟩
  case round =>
    clear HM0 HI0
    obtain ⟨k, f, fa, fc, hk, rfl, HIk, HM⟩ := hrel
    have r1 := (unhide HSB wr (unhide HM).bel).1
    have d0 : wr.cell? ⟨D, 0, none⟩ = some (.slice fa f.length fc) := (cell_of_row _ _ _ _ _ _ (unhide HM).box).trans rfl
    have hbx := (unhide HM).box
    have df : ∀ i, wr.frozen? ⟨D, i, none⟩ = false := fun i => by simp [World.frozen?, hbx]
    clear hbx
    obtain ⟨FN, hFN⟩ : ∃ FN, FN = f.length := ⟨_, rfl⟩
    rw [← hFN] at d0
    have HFN := hide hFN
    clear hFN
    by_cases hgo : k < N ∧ FN = 0
    · obtain ⟨hlt, h0⟩ := hgo
      have hf : f = [] := List.eq_nil_of_length_eq_zero (by rw [← unhide HFN]; exact h0)
      subst hf
      subst h0
      obtain ⟨rfl, rfl⟩ := (unhide HM).nil rfl
      obtain ⟨⟨cm, needs, cases⟩, hx⟩ : ∃ u, hs[k]? = some u := ⟨_, List.getElem?_eq_getElem (by have := unhide HN; omega)⟩
      obtain ⟨b, off, rfl, hat⟩ := unhide HHk k _ hx
      obtain ⟨e0w, ⟨na, nc, e1w, hne⟩, ca, cc, e2w, hcs⟩ := hat w1 (Below.refl _ _)
      simp only at e0w e1w e2w hne hcs
      have e0 := kept (unhide HM).bel e0w
      have e1 := kept (unhide HM).bel e1w
      have e2 := kept (unhide HM).bel e2w
      have HNe : Hid (∀ W, Below w1.heap.size w1 W → SlOf 2 NeAt W (.slice na needs.length nc) needs) := hide (fun W hW => hne.grown (fun _ _ _ _ _ => NeAt.grown) hW)
      have HCs : Hid (∀ W, Below w1.heap.size w1 W → SlOf 3 CsAt W (.slice ca cases.length cc) cases) := hide (fun W hW => hcs.grown (fun _ _ _ _ _ => CsAt.grown) hW)
      clear e0w e1w e2w
      have hki : (k : Int) < (N : Int) := by omega
      have hk0 : ¬ (k : Int) < 0 := by omega
      by_cases hcm : cm = cmd
      · subst hcm
        have HI2 : Hid (ApI hs cm (k + 1) [⟨cm, needs, cases⟩]) := hide (.inr ⟨k, _, rfl, hx, rfl, by
          rcases unhide HIk with ⟨_, h⟩ | ⟨j, h, e, _⟩
          · exact h
          · cases e⟩)
        obtain ⟨NL1, hNL1⟩ : ∃ n, n = needs.length := ⟨_, rfl⟩
        obtain ⟨NL2, hNL2⟩ : ∃ n, n = cases.length := ⟨_, rfl⟩
        have HNl := hide (And.intro hNL1 hNL2)
        rw [← hNL1] at e1
        rw [← hNL2] at e2
        have HNx : Hid (∀ (g c : Nat) (W : World), wr.heap.size ≤ g → 1 ≤ c → c ≤ 9223372036854775807 → W.cell? ⟨g, 0, none⟩ = some (sv cm) → W.cell? ⟨g, 1, none⟩ = some (.slice na NL1 nc) → W.cell? ⟨g, 2, none⟩ = some (.slice ca NL2 cc) → Below wr.heap.size wr W → ApM w1 (W.setCell ⟨D, 0, none⟩ (.slice (some ⟨g, 0, none⟩) 1 c)) D (some ⟨g, 0, none⟩) c [⟨cm, needs, cases⟩]) := hide (fun g c W hg hc1 hc2 c0 c1 c2 bW => by
          have hDl := lt_of_block (unhide HM).box
          have hgl := World.block_lt_of_cell? _ _ c0
          have hbW := (unhide HM).bel.trans (bW.mono (unhide HM).bel.size)
          have hb2 : Below w1.heap.size w1 (W.setCell ⟨D, 0, none⟩ (.slice (some ⟨g, 0, none⟩) 1 c)) := hbW.setCell (show w1.heap.size ≤ D from unhide HDg) _
          have hbx : W.heap[D]? = some (.cells #[.slice none 0 0, .slice none 0 0] 42 (0, 0)) := rowKept (unhide HM).box bW (Nat.le_refl _)
          have hne : g ≠ D := by omega
          have at' : ∀ j u, W.cell? ⟨g, j, none⟩ = some u → (W.setCell ⟨D, 0, none⟩ (.slice (some ⟨g, 0, none⟩) 1 c)).cell? ⟨g, j, none⟩ = some u := fun j u hu => by
            have e := heap_setCell_other W ⟨D, 0, none⟩ g (.slice (some ⟨g, 0, none⟩) 1 c) hne
            unfold World.cell? at hu ⊢
            simp only at hu ⊢
            rw [e]; exact hu
          refine ⟨hb2, ?_, ⟨some ⟨g, 0, none⟩, c, rfl, hc1, hc2, fun _ => ⟨g, 0, rfl, ?_, fun i x hi => ?_⟩⟩, fun e => by cases e⟩
          · rw [heap_setCell_same _ D 0 _ _ _ hbx]; rfl
          · rw [show (W.setCell ⟨D, 0, none⟩ (.slice (some ⟨g, 0, none⟩) 1 c)).heap.size = W.heap.size by simp [World.setCell]]; exact hgl
          · have hi0 : i = 0 := by have := (List.getElem?_eq_some_iff.1 hi).1; simpa using this
            subst hi0
            cases hi
            refine ⟨at' 0 _ c0, ⟨na, nc, ?_, unhide HNe _ hb2⟩, ca, cc, ?_, unhide HCs _ hb2⟩
            · show _ = some (Value.slice na needs.length nc)
              rw [← (unhide HNl).1]; exact at' 1 _ c1
            · show _ = some (Value.slice ca cases.length cc)
              rw [← (unhide HNl).2]; exact at' 2 _ c2)
        have HBx := hide (fun (W : World) (bW : Below wr.heap.size wr W) => cells2 (rowKept (unhide HM).box bW (Nat.le_refl _)))
        clear hx hat hne hcs hNL1 hNL2
        go_upto_region 7 with fail
        have dD : wr.drew.cell? ⟨D, 0, none⟩ = some (.slice none 0 0) := d0
        have rD : wr.drew.cell? ⟨B, 0, none⟩ = some (.slice (some ⟨b, off, none⟩) N hc) := r1
        have eD0 : wr.drew.cell? ⟨b, off + k * 3, none⟩ = some (sv cm) := e0
        have eD1 : wr.drew.cell? ⟨b, off + k * 3 + 1, none⟩ = some (.slice na NL1 nc) := e1
        have eD2 : wr.drew.cell? ⟨b, off + k * 3 + 2, none⟩ = some (.slice ca NL2 cc) := e2
        have dE : (wr.alloc (.cells #[sv cm, .slice na NL1 nc, .slice ca NL2 cc] 46)).drew.cell? ⟨D, 0, none⟩ = some (.slice none 0 0) := kept ((Below.refl _ wr).alloc (Nat.le_refl _) _) d0
        go_region_law (refine step_append_ha rfl (.tmp 42) (.tmp 48) rfl wr.heap.size _ (sv cm) (.slice na NL1 nc) (.slice ca NL2 cc) rfl rfl ?hq ⟨rfl, rfl, rfl⟩ ?hb ?_; (case hq => exact heap_alloc_new _ _); (case hb => simp); intro g c w5 hg hc1 hc2 c0 c1 c2 b5; have bw := Below.trans ((((Below.refl wr.heap.size wr).alloc (Nat.le_refl _) _).drew)) b5; obtain ⟨dd, de, dg⟩ := unhide HBx w5 bw; have HM2 := hide (unhide HNx g c w5 hg hc1 hc2 c0 c1 c2 bw); clear c0 c1 c2 b5 bw hg hc1 hc2)
        all_goals
          go_wp2_with fail
          go_roundw
          case rel => exact ⟨k + 1, _, _, _, by omega, by go_num, HI2, HM2⟩
          case measure => simp [intOf]; omega
      · have hne1 : (cm == cmd) = false := by simpa using hcm
        have HI2 : Hid (ApI hs cmd (k + 1) []) := hide (.inl ⟨rfl, fun j hj u hu => by
          rcases unhide HIk with ⟨_, h⟩ | ⟨j, h, e, _⟩
          · by_cases hjk : j = k
            · subst hjk
              rw [hx] at hu
              cases hu
              exact hcm
            · exact h j (by omega) u hu
          · cases e⟩)
        clear hx hat hne hcs
        go_wp2_with fail
        go_roundw
        case rel => exact ⟨k + 1, [], none, 0, by omega, by go_num, HI2, HM⟩
        case measure => simp [intOf]; omega
    · have HE := hide (unhide HI k f (unhide HIk) (fun e => by
        have := unhide HFN
        rw [e] at this
        have h2 := unhide HN
        simp at this
        omega))
      have rb1 := (unhide HSB wr (unhide HM).bel).2
      obtain ⟨R, hR⟩ : ∃ R, R = dc hs cmd := ⟨_, rfl⟩
      obtain ⟨d, hd⟩ : ∃ d, d = decV R := ⟨_, rfl⟩
      obtain ⟨M, hM⟩ : ∃ M, M = decN R := ⟨_, rfl⟩
      have HFs : Hid (FN = 1 ∨ M = 136) := hide (by
        rcases (unhide HE).2 with h | h
        · exact .inl (by rw [unhide HFN]; exact h)
        · exact .inr (by rw [hM, hR, h]; rfl))
      have hFd : (decide ((FN : Int) = 1) || decide (M = 136)) = true := by
        rcases unhide HFs with h | h
        · rw [h]; simp
        · rw [h]; simp
      have hbig2 : ∀ x ∈ f, bigHaP x := by
        rcases unhide HIk with ⟨h, _⟩ | ⟨j, h, e, hj, _⟩
        · rw [h]; intro x hx; cases hx
        · rw [e]; intro x hx
          rw [List.mem_singleton.1 hx]
          exact unhide HBig _ (List.mem_of_getElem? hj)
      have HD1 : Hid (∀ W, Below wr.heap.size wr W → Calls Tryz.prog 9 #[.agg #[.slice ha N hc, .slice va vn vc], sv st, .slice la NL lc, sv cmd, .slice ma NM mc] W (fun e w' => ∃ a c, e = .returned (.tuple #[.agg #[.bool d.refused, sv d.reason, .slice a d.events.length c], .int .i64 M]) ∧ EvOwn w' W.heap.size (.slice a d.events.length c) d.events ∧ Below W.heap.size W w')) := hide (fun W hW => by
        have h := (unhide HM).bel.trans (hW.mono (unhide HM).bel.size)
        rw [hd, hM, unhide HN, hR]
        exact (unhide HDe W hs ha hc va vn vc h (unhide HBig) (unhide HRow W h)).mono fun e w' q => caughtD_two q)
      have HD2 : Hid (∀ W, Below wr.heap.size wr W → Calls Tryz.prog 9 #[.agg #[.slice fa FN fc, .slice none 0 0], sv st, .slice la NL lc, sv cmd, .slice ma NM mc] W (fun e w' => ∃ a c, e = .returned (.tuple #[.agg #[.bool d.refused, sv d.reason, .slice a d.events.length c], .int .i64 M]) ∧ EvOwn w' W.heap.size (.slice a d.events.length c) d.events ∧ Below W.heap.size W w')) := hide (fun W hW => by
        have h := (unhide HM).bel.trans (hW.mono (unhide HM).bel.size)
        rw [hd, hM, unhide HFN, hR, ← (unhide HE).1]
        exact (unhide HDe W f fa fc none 0 0 h hbig2 ((unhide HM).grown hW).row).mono fun e w' q => caughtD_two q)
      have HBo : Hid (∀ W, Below wr.heap.size wr W → W.cell? ⟨D, 0, none⟩ = some (.slice fa FN fc) ∧ W.cell? ⟨D, 1, none⟩ = some (.slice none 0 0)) := hide (fun W hW => ⟨kept hW d0, (cell_of_row _ _ _ _ _ _ ((unhide HM).grown hW).box).trans rfl⟩)
      have HKr := hide (unhide HM).bel
      obtain ⟨rf, rs, evs⟩ := d
      simp only at HD1 HD2
      obtain ⟨NE, hNE⟩ : ∃ NE, NE = evs.length := ⟨_, rfl⟩
      rw [← hNE] at HD1 HD2
      have hcond : (k < N ∧ FN ≠ 0) ∨ ¬ k < N := by
        by_cases h : k < N
        · exact .inl ⟨h, fun e => hgo ⟨h, e⟩⟩
        · exact .inr h
      have HNE := hide hNE
      clear hR hd hM hbig2 HE HIk HM df hNE hgo
      have HC1 := hide (unhide HD1 wr (Below.refl _ _))
      rcases hcond with ⟨hlt, h0⟩ | hlt
      focus
        have f1 : (k : Int) < (N : Int) := by omega
        have f2 : ((FN : Int) == 0) = false := by simp; omega
        clear h0
        go_upto_region 8 with fail
      rotate_left
      focus
        have f1 : decide ((k : Int) < (N : Int)) = false := decide_eq_false (by omega)
        go_upto_region 8 with fail
      all_goals
        go_upto_region 9 with (go_at_call 9; refine (unhide HC1).mono ?_; rintro e w5 ⟨aa, ac, rfl, o5, b5⟩; have HO5 := hide o5; have HB5 := hide b5; clear o5 b5)
        clear r1 d0 rb1
        have b56 : Below w5.heap.size w5 (w5.alloc (.cells #[.bool rf, sv rs, .slice aa NE ac] 49)) := (Below.refl _ _).alloc (Nat.le_refl _) _
        have hx6 : (w5.alloc (.cells #[.bool rf, sv rs, .slice aa NE ac] 49)).heap[w5.heap.size]? = some (.cells #[.bool rf, sv rs, .slice aa NE ac] 49 (0, 0)) := heap_alloc_new _ _
        obtain ⟨w6, hw6⟩ : ∃ w6, w6 = w5.alloc (.cells #[.bool rf, sv rs, .slice aa NE ac] 49) := ⟨_, rfl⟩
        rw [show w5.alloc (.cells #[Value.bool rf, .string ⟨rs.toArray⟩, .slice aa NE ac] 49) = w6 from hw6.symm]
        rw [← hw6] at b56 hx6
        obtain ⟨D1, hD1⟩ : ∃ D1, D1 = w5.heap.size := ⟨_, rfl⟩
        rw [← hD1] at hx6 ⊢
        have HX6 := hide hx6
        have HO6 := hide ((unhide HO5).below b56 (Nat.le_refl _))
        have HB6 := hide ((unhide HB5).trans (b56.mono (unhide HB5).size))
        clear b56 hx6 hw6 hD1
        obtain ⟨c0, c1⟩ := unhide HBo w6 (unhide HB6)
        have HC6 := hide (unhide HD2 w6 (unhide HB6))
        go_upto_region 10 with (go_at_call 9; refine (unhide HC6).mono ?_; rintro e w7 ⟨ba, bc, rfl, o7, b7⟩; have HO7 := hide o7; have HB7 := hide b7; clear o7 b7)
        clear c0 c1
        have b78 : Below w7.heap.size w7 (w7.alloc (.cells #[.bool rf, sv rs, .slice ba NE bc] 49)) := (Below.refl _ _).alloc (Nat.le_refl _) _
        have hx8 : (w7.alloc (.cells #[.bool rf, sv rs, .slice ba NE bc] 49)).heap[w7.heap.size]? = some (.cells #[.bool rf, sv rs, .slice ba NE bc] 49 (0, 0)) := heap_alloc_new _ _
        obtain ⟨w8, hw8⟩ : ∃ w8, w8 = w7.alloc (.cells #[.bool rf, sv rs, .slice ba NE bc] 49) := ⟨_, rfl⟩
        rw [show w7.alloc (.cells #[Value.bool rf, .string ⟨rs.toArray⟩, .slice ba NE bc] 49) = w8 from hw8.symm]
        rw [← hw8] at b78 hx8
        obtain ⟨D2, hD2⟩ : ∃ D2, D2 = w7.heap.size := ⟨_, rfl⟩
        rw [← hD2] at hx8 ⊢
        have HB68 := hide ((unhide HB7).trans (b78.mono (unhide HB7).size))
        have HO8 := hide ((unhide HO7).below b78 (Nat.le_refl _))
        have HX8 := hide hx8
        have HX68 := hide (rowKept (unhide HX6) (unhide HB68) (Nat.le_refl _))
        clear b78 hx8 hw8 hD2
        obtain ⟨p0, p1, p2, -⟩ := cells3 (unhide HX68)
        obtain ⟨q0, q1, q2, -⟩ := cells3 (unhide HX8)
        have HC8 := hide (SameEv_eq _ _ evs w8 ((unhide HO6).below (unhide HB68) (Nat.le_refl _)).rd (unhide HO8).rd)
        go_upto_region 11 with (go_at_call 10; refine (unhide HC8).mono ?_; rintro e w9 ⟨rfl, b9⟩; have HB9 := hide b9; clear b9)
        clear p0 p1 p2 q0 q1 q2
        obtain ⟨p0, p1, p2, -⟩ := cells3 (rowKept (unhide HX68) (unhide HB9) (Nat.le_refl _))
        obtain ⟨q0, q1, q2, -⟩ := cells3 (rowKept (unhide HX8) (unhide HB9) (Nat.le_refl _))
        have HB69 := hide ((unhide HB68).trans ((unhide HB9).mono (unhide HB68).size))
        have HBr9 := hide ((unhide HB6).trans ((unhide HB69).mono (unhide HB6).size))
        obtain ⟨c0, c1⟩ := unhide HBo w9 (unhide HBr9)
        have HE9 := hide (unhide HBW w9 ((unhide HKr).trans ((unhide HBr9).mono (unhide HKr).size)))
        by_cases hF1 : FN = 1
        · subst hF1
          go_wp2_with fail
          go_ret
          exact ⟨rfl, unhide HE9⟩
        · have hM136 : M = 136 := (unhide HFs).resolve_left hF1
          subst hM136
          have hF2 : ((FN : Int) == 1) = false := by simp; omega
          clear hF1
          go_wp2_with fail
          go_ret
          exact ⟨rfl, unhide HE9⟩

set_option maxRecDepth 100000 in
theorem RuApart.lifted (os : Os) (started : os.Started) (H : Type) (enc : TypeId × Value → H) :
    ReturnsInHanded {} Tryz.checked os 4 .any (fun w args => (Rows.rulesApartSpec.pre enc Tryz.prog Tryz.f4 [] false w args ∧ laidMetH Tryz.prog seatLaid w) ∧ sizedMet enc Tryz.prog Tryz.f4 (OpenSpec.ofChange Rows.rulesApartSpec) false w args)
      (Rows.rulesApartSpec.post enc Tryz.prog Tryz.f4 false true false false) := by
  refine returnsInHanded_of_change_and (C := Tryz.checked) (X := fun w _ => laidMetH Tryz.prog seatLaid w) (fun _ _ _ hh h => h.of_heap hh) own_knob started (by kernel_rfl) Tryz.func4
    (ChangeSpec.witness_at (enc := enc) (C := Tryz.checked) (os := os) (X := fun w _ => laidMetH Tryz.prog seatLaid w) false (laidWorld os) #[.agg (rulV none 0 0 none 0 0), .string ⟨#[]⟩, .slice none 0 0, .string ⟨#[]⟩, .slice none 0 0] 8 rfl (by kernel_rfl) (by kernel_rfl) (by kernel_rfl) (by kernel_rfl) (by kernel_rfl) (laidWorld_met os _)) ?_
  intro W base args ds gs before hval0 hW _ hsz0 hL _
  have hval : ∀ (j : Nat) t v, Tryz.f4.params[j]? = some t → args[j]? = some v → Value.okWide Tryz.prog W .any base t v := hval0
  have hsz : (DataW.weightsEach Tryz.prog (Tryz.f4.params.toList ++ Rows.rulesApartSpec.plain.varTypes Tryz.prog) (ds ++ gs)).all (· ≤ reachBytes) = true := hsz0
  have hW' := hW
  obtain ⟨p, q, hA0, hV, rfl, hfz, hnd⟩ := hW
  have hA : DataW.TrodAll enc Tryz.prog W 0 (fun _ => true) true Tryz.f4.params.toList args.toList ds p := hA0
  rw [Tryz.params4] at hA hval hsz
  obtain ⟨v0, vs0, d0, ds0, p0, q0, e0, rfl, rfl, h0, hA⟩ := trodAll_cons hA
  obtain ⟨v1, vs1, d1, ds1, p1, q1, rfl, rfl, rfl, h1, hA⟩ := trodAll_cons hA
  obtain ⟨v2, vs2, d2, ds2, p2, q2, rfl, rfl, rfl, h2, hA⟩ := trodAll_cons hA
  obtain ⟨v3, vs3, d3, ds3, p3, q3, rfl, rfl, rfl, h3, hA⟩ := trodAll_cons hA
  obtain ⟨v4, vs4, d4, ds4, p4, q4, rfl, rfl, rfl, h4, hA⟩ := trodAll_cons hA
  obtain ⟨rfl, rfl, rfl⟩ := trodAll_nil hA
  obtain rfl : args = #[v0, v1, v2, v3, v4] := by cases args; simp_all
  obtain ⟨rfl, rfl⟩ := trodVars_none hV
  have k0 := h0
  have lt0 : ∀ x ∈ p0, x.block < W.heap.size := by obtain ⟨m, hm⟩ := k0; exact DataW.trod_lt m _ _ _ hm
  obtain ⟨a0, c0, l0, m0, r0, t0, rfl, g0, f0, b0, j0, o0, z0⟩ := open_ruA hsz (j := 0) rfl rfl (hval 0 42 v0 rfl rfl) h0
  obtain ⟨s1, rfl, rfl, rfl, hs1⟩ := open_string Tryz.underlying9 (hval 1 9 v1 rfl rfl) h1
  have ls1 : s1.data.toList.length ≤ 140737488351232 := by
    have := sized_string hsz (j := 1) (t := 9) rfl rfl
    simp only [reachBytes] at this
    omega
  have k2 := h2
  have lt2 : ∀ x ∈ p2, x.block < W.heap.size := by obtain ⟨m, hm⟩ := k2; exact DataW.trod_lt m _ _ _ hm
  obtain ⟨a2, c2, l2, rfl, g2, f2, b2⟩ := open_sfl hsz (j := 2) rfl rfl (okWide_slice Tryz.underlying27 (hval 2 27 v2 rfl rfl)) h2
  obtain ⟨s3, rfl, rfl, rfl, hs3⟩ := open_string Tryz.underlying9 (hval 3 9 v3 rfl rfl) h3
  have ls3 : s3.data.toList.length ≤ 140737488351232 := by
    have := sized_string hsz (j := 3) (t := 9) rfl rfl
    simp only [reachBytes] at this
    omega
  have k4 := h4
  have lt4 : ∀ x ∈ p4, x.block < W.heap.size := by obtain ⟨m, hm⟩ := k4; exact DataW.trod_lt m _ _ _ hm
  obtain ⟨a4, c4, l4, rfl, g4, f4, b4⟩ := open_sfl hsz (j := 4) rfl rfl (okWide_slice Tryz.underlying27 (hval 4 27 v4 rfl rfl)) h4
  clear hA0 hval0 hsz0
  refine (RuApart.walk a0 c0 l0 m0 t0.length r0 s1 a2 c2 l2 s3 a4 c4 l4 W g0 f0 (by omega) g2.1 (fun f hf => (f2 f hf).small) g4.1 (fun f hf => (f4 f hf).small) (vars_of_laid hL)).mono fun e W' ⟨he, bel⟩ => ?_
  subst he
  exact ⟨_, rfl, _, _, _, [], _, [], hW', trodAll_mk1 (shut_bool Tryz.underlying4 _), (trodAll_cons_mk (Below.trod laid_out (by kernel_rfl) (of_decide_eq_true (by kernel_rfl)) k0 bel lt0) (trodAll_cons_mk (shut_string Tryz.underlying9 hs1) (trodAll_cons_mk (Below.trod laid_out (by kernel_rfl) (of_decide_eq_true (by kernel_rfl)) k2 bel lt2) (trodAll_cons_mk (shut_string Tryz.underlying9 hs3) (trodAll_cons_mk (Below.trod laid_out (by kernel_rfl) (of_decide_eq_true (by kernel_rfl)) k4 bel lt4) trodAll_mk0))))), rfl, bel.frame _, fun h => by cases h⟩

theorem rulesApart_holds : Rows.RulesApartSaid :=
  OpenClaim.holds_of_wide 4 Tryz.f4 rfl rfl rfl rfl rfl rfl rfl ⟨rfl, rfl, rfl, rfl, rfl⟩ rfl rfl rfl rfl rfl (by kernel_rfl) Tryz.func4 (by kernel_rfl)
    (of_decide_eq_true (by kernel_rfl)) (by unfold Func.isWrapper; first | (rw [if_pos (by decide +kernel)]; kernel_rfl) | (rw [if_neg (by decide +kernel)]; exact ⟨rfl, rfl⟩))
    (fun os started H enc _ => RuApart.lifted os started H enc)

theorem rulesApartCard_holds : Rows.RulesApartCardSaid :=
  Claim7.holds_tied_plain_at .later [] _ _ _ _
    rulesApart_holds (fun _ h => by cases h) (by kernel_rfl) (fun _ h => by cases h) rulesApart_row_tie rfl ⟨rfl, rfl⟩ (by kernel_rfl) rfl
    (fun f fn hf hfn => by
      obtain rfl : f = 4 := Option.some.inj ((show Tryz.prog.funcNamed "cartulary/cartularylaw13.RulesApart" = some 4 by kernel_rfl).symm.trans hf) |>.symm
      obtain rfl : fn = Tryz.f4 := (Option.some.inj (Tryz.func4.symm.trans hfn)).symm
      exact ⟨by kernel_rfl, fun j t ht => by
        rw [Tryz.params4] at ht
        have h0 : ∀ (t : TypeId), t ∈ ([42, 9, 27, 9, 27] : List TypeId) → Tryz.prog.wantsStandIn t = false := by
          intro t ht
          simp only [List.mem_cons, List.not_mem_nil, or_false] at ht
          rcases ht with rfl | rfl | rfl | rfl | rfl <;> kernel_rfl
        exact h0 t (List.mem_of_getElem? (by simpa using ht))⟩)
    (by kernel_rfl)
#print axioms rulesApartCard_holds
end Go.Proofs.YtclllkbljaomoabGreatDoor
