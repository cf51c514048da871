/-
  DERIVED. The index in memory behind one more event, and behind one more key.
-/
import Derived.Test.YtgpijeaehkabdaaM1
import Derived.Test.YtgpijeaehkabdaaProg
import Derived.Deep.RegionHeld3
import Derived.Deep.AppendLies
namespace Go.Proofs.Ytgpijeaehkabdaa
open Go.RowKit Go.Maps
set_option linter.unusedVariables false

def Ix.push (I : Ix) (s : List UInt8) (num : Nat) (e : Evn) : Ix := ⟨I.all ++ [⟨s, num, e⟩], I.key⟩
def Ix.setKey (I : Ix) (k : List UInt8) (d : Kd) : Ix := ⟨I.all, fun j => if j = k then some d else I.key j⟩

theorem map_ne {w : World} {m q N : Nat} {D : DataW Value} {cur : Array Value} {t : TypeId} {fr : Nat × Nat} (h : w.ownsMap Try.prog 9 rawE m N D) (hq : w.heap[q]? = some (.cells cur t fr)) : q ≠ m := by
  rintro rfl
  obtain ⟨es, clock, hb, _⟩ := h
  rw [hq] at hb; cases hb

theorem IxIn.setKey {w W : World} {F : Nat → Prop} {st mp mk N : Nat} {I : Ix} {xs : List (Ent × Nat)} {av : Value} {pf : List UInt8 → Value} {D1 D2 : DataW Value} (h : IxIn w F st mp mk N I xs av pf D1 D2) (k : List UInt8) (hk : k ≠ []) (d : Kd)
    (hm : W.ownsMap Try.prog 9 rawE mk (N + 1) (D2.put (lit k) (.held (kdV (some d))))) (hg : w.grownBy W (some mk)) :
    IxIn W F st mp mk (N + 1) (I.setKey k d) xs av pf D1 (D2.put (lit k) (.held (kdV (some d)))) ∧ Kept F w W := by
  have hmap : IsMap D2 := by obtain ⟨es, clock, _, _, _, e⟩ := h.mko; exact ⟨_, e⟩
  have hne : ∀ j, j ≠ k → lit j ≠ lit k := fun j hj e => hj (lit_inj e)
  have hb : ∀ q, q < w.heap.size → q ≠ mk → W.heap[q]? = w.heap[q]? := fun q hq hn => hg.block q hq (by simpa using hn)
  have hrow : ∀ {e : TypeId} {sz n : Nat} {v : Value} {cs : List Value}, w.ownsRow 0 e sz v n cs → W.ownsRow 0 e sz v n cs := fun hr => ownsRow_frame hr fun q hq hl => by
    obtain ⟨cur, hc⟩ := ownsRow_mark hr hq
    exact hb q hl (map_ne h.mko hc)
  refine ⟨{ h with
      stc := (hb st (lt_of_block h.stc) (map_ne h.mko h.stc)).trans h.stc
      row := hrow h.row
      fds := fun x hx => ⟨(h.fds x hx).1.same (hb _ (h.fds x hx).1.lt (by obtain ⟨cs, hc, _⟩ := (h.fds x hx).1; exact map_ne h.mko hc)), (h.fds x hx).2⟩
      mpo := (ownsMap_frame h.mpo (hb mp h.mpo.lt h.mne)).mono (Nat.le_succ _)
      rows := fun s => hrow (h.rows s)
      mko := hm
      mka := ?_
      mkh := ?_
      len := Nat.le_succ_of_le h.len
      nil := ?_ }, Kept.of_grown hg (fun q e => by cases e; exact h.fmk)⟩
  · intro j
    show _ = DataW.held (kdV (if j = k then some d else I.key j))
    by_cases e : j = k
    · subst e; rw [atKey_put_same hmap (lit_is j), if_pos rfl]
    · rw [atKey_put_other (hne j e), if_neg e]; exact h.mka j
  · intro j
    show _ = (if j = k then some d else I.key j).isSome
    by_cases e : j = k
    · subst e; rw [has_put_same hmap (lit_is j), if_pos rfl]; rfl
    · rw [has_put_other (hne j e), if_neg e]; exact h.mkh j
  · show (if [] = k then some d else I.key []) = none
    rw [if_neg (fun e => hk e.symm)]; exact h.nil

theorem IxIn.push {w W3 W4 W5 W6 W7 : World} {F : Nat → Prop} {st mp mk N : Nat} {I : Ix} {xs : List (Ent × Nat)} {av : Value} {pf : List UInt8 → Value} {D1 D2 : DataW Value} (h : IxIn w F st mp mk N I xs av pf D1 D2) (s : List UInt8) (num : Nat) (e : Evn) (h16 : e.fields.length ≤ 16) (hF : ∀ j, w.heap.size ≤ j → F j)
    (g cap : Nat) (r3 : W3.ownsRow 0 3 1 (.slice (some ⟨g, 0, none⟩) (I.ver s + 1) cap) (I.ver s + 1) ((plc I.all s).map natV ++ [natV I.all.length])) (g3 : w.grownBy W3 (pf s).ownBlock) (hat : (pf s).ownBlock = some g ∨ w.heap.size ≤ g)
    (m4 : W4.ownsMap Try.prog 9 rawE mp (N + 1) (D1.put (lit s) (.held (.slice (some ⟨g, 0, none⟩) (I.ver s + 1) cap)))) (g4 : W3.grownBy W4 (some mp))
    (p : Nat) (b5 : Below W4.heap.size W4 W5) (f5 : FdBlk W5 p e.fields.length e.fields) (hp : W4.heap.size ≤ p)
    (a c6 : Nat) (r6 : W6.ownsRow 0 45 6 (.slice (some ⟨a, 0, none⟩) (xs.length + 1) c6) (xs.length + 1) (ecells xs 0 ++ ecell xs.length (⟨s, num, e⟩, p))) (g6 : W5.grownBy W6 av.ownBlock) (hat6 : av.ownBlock = some a ∨ W5.heap.size ≤ a)
    (h7 : W7 = W6.setCell ⟨st, 0, none⟩ (.slice (some ⟨a, 0, none⟩) (xs.length + 1) c6)) :
    IxIn W7 F st mp mk (N + 1) (I.push s num e) (xs ++ [(⟨s, num, e⟩, p)]) (.slice (some ⟨a, 0, none⟩) (xs.length + 1) c6) (fun j => if j = s then .slice (some ⟨g, 0, none⟩) (I.ver s + 1) cap else pf j) (D1.put (lit s) (.held (.slice (some ⟨g, 0, none⟩) (I.ver s + 1) cap))) D2 ∧ Kept F w W7 := by
  have hmap : IsMap D1 := by obtain ⟨es, clock, _, _, _, e⟩ := h.mpo; exact ⟨_, e⟩
  have hne : ∀ j, j ≠ s → lit j ≠ lit s := fun j hj e => hj (lit_inj e)
  have z3 := g3.size
  have z4 := g4.size
  have z5 := b5.size
  have z6 := g6.size
  have hlx : xs.length = I.all.length := by rw [← h.all, List.length_map]
  have lst := lt_of_block h.stc
  -- what stays from w to W5
  have k5 : ∀ q, q < w.heap.size → q ≠ mp → some q ≠ (pf s).ownBlock → W5.heap[q]? = w.heap[q]? := fun q h1 h2 h3 =>
    (b5.block q (by omega)).trans ((g4.block q (by omega) (by simpa using h2)).trans (g3.block q h1 h3))
  have k7 : ∀ q, q < w.heap.size → q ≠ mp → some q ≠ (pf s).ownBlock → some q ≠ av.ownBlock → q ≠ st → W7.heap[q]? = w.heap[q]? := fun q h1 h2 h3 h4 h5 => by
    rw [h7, heap_setCell_other _ _ _ _ (show q ≠ st from h5)]
    exact (g6.block q (by omega) h4).trans (k5 q h1 h2 h3)
  -- marks
  have nP : ∀ {q : Nat} {cur : Array Value} {t : TypeId} {fr : Nat × Nat}, w.heap[q]? = some (.cells cur t fr) → t ≠ 3 → some q ≠ (pf s).ownBlock := fun hq ht e => by
    obtain ⟨cur, hc⟩ := ownsRow_mark (h.rows s) e.symm
    exact mark_ne hc hq (fun e => ht e.symm) rfl
  have nA : ∀ {q : Nat} {cur : Array Value} {t : TypeId} {fr : Nat × Nat}, w.heap[q]? = some (.cells cur t fr) → t ≠ 45 → some q ≠ av.ownBlock := fun hq ht e => by
    obtain ⟨cur, hc⟩ := ownsRow_mark h.row e.symm
    exact mark_ne hc hq (fun e => ht e.symm) rfl
  have nS : ∀ {q : Nat} {cur : Array Value} {t : TypeId} {fr : Nat × Nat}, w.heap[q]? = some (.cells cur t fr) → t ≠ 68 → q ≠ st := fun hq ht => mark_ne h.stc hq (fun e => ht e.symm)
  have nM : mk ≠ st ∧ some mk ≠ (pf s).ownBlock ∧ some mk ≠ av.ownBlock := by
    refine ⟨fun e => map_ne h.mko h.stc e.symm, fun e => ?_, fun e => ?_⟩
    · obtain ⟨cur, hc⟩ := ownsRow_mark (h.rows s) e.symm
      exact map_ne h.mko hc rfl
    · obtain ⟨cur, hc⟩ := ownsRow_mark h.row e.symm
      exact map_ne h.mko hc rfl
  have nM1 : mp ≠ st ∧ some mp ≠ (pf s).ownBlock ∧ some mp ≠ av.ownBlock := by
    refine ⟨fun e => map_ne h.mpo h.stc e.symm, fun e => ?_, fun e => ?_⟩
    · obtain ⟨cur, hc⟩ := ownsRow_mark (h.rows s) e.symm
      exact map_ne h.mpo hc rfl
    · obtain ⟨cur, hc⟩ := ownsRow_mark h.row e.symm
      exact map_ne h.mpo hc rfl
  have st6 : W6.heap[st]? = some (.cells #[av, .map (some mp), .map (some mk)] 68 (0, 0)) := (g6.block st (by omega) (nA h.stc (by decide))).trans ((k5 st lst (map_ne h.mpo h.stc) (nP h.stc (by decide))).trans h.stc)
  have st7 : W7.heap[st]? = some (.cells #[.slice (some ⟨a, 0, none⟩) (xs.length + 1) c6, .map (some mp), .map (some mk)] 68 (0, 0)) := by
    rw [h7, heap_setCell_same _ st 0 _ _ _ st6]; rfl
  have same7 : ∀ q, q ≠ st → W7.heap[q]? = W6.heap[q]? := fun q hq => by rw [h7]; exact heap_setCell_other _ _ _ _ hq
  have ap5 : p < W5.heap.size := f5.lt
  -- the new row of places
  obtain ⟨cg, hcg⟩ := ownsRow_mark r3 (q := g) rfl
  have lg := lt_of_block hcg
  have gmp : g ≠ mp := by
    rcases hat with hat | hat
    · obtain ⟨cur, hc⟩ := ownsRow_mark (h.rows s) hat; exact map_ne h.mpo hc
    · have := h.mpo.lt; omega
  have gst : g ≠ st := by
    rcases hat with hat | hat
    · obtain ⟨cur, hc⟩ := ownsRow_mark (h.rows s) hat; exact nS hc (by decide)
    · omega
  have g5 : W5.heap[g]? = W3.heap[g]? := (b5.block g (by omega)).trans (g4.block g lg (by simpa using gmp))
  have gA : some g ≠ av.ownBlock := by
    rcases hat with hat | hat
    · obtain ⟨cur, hc⟩ := ownsRow_mark (h.rows s) hat; exact nA hc (by decide)
    · intro e
      obtain ⟨cur, hc⟩ := ownsRow_mark h.row e.symm
      have := lt_of_block hc; omega
  have g7 : W7.heap[g]? = W3.heap[g]? := (same7 g gst).trans ((g6.block g (by omega) gA).trans g5)
  obtain ⟨ca, hca⟩ := ownsRow_mark r6 (q := a) rfl
  have ast : a ≠ st := by
    rcases hat6 with hat6 | hat6
    · obtain ⟨cur, hc⟩ := ownsRow_mark h.row hat6; exact nS hc (by decide)
    · omega
  have pA : some p ≠ av.ownBlock := fun e => by
    obtain ⟨cur, hc⟩ := ownsRow_mark h.row e.symm
    have := lt_of_block hc; omega
  refine ⟨?_, ?_⟩
  · exact
      { stc := st7
        row := by
          have e1 : ecells (xs ++ [(⟨s, num, e⟩, p)]) 0 = ecells xs 0 ++ ecell xs.length (⟨s, num, e⟩, p) := by rw [ecells_snoc, Nat.zero_add]
          rw [e1, List.length_append]
          exact ownsRow_frame r6 fun q hq hl => by cases hq; exact same7 a ast
        all := by rw [List.map_append, h.all]; rfl
        fds := by
          intro x hx
          rcases List.mem_append.1 hx with hx | hx
          · obtain ⟨f1, f2, f3⟩ := h.fds x hx
            refine ⟨f1.same ?_, f2, f3⟩
            have fl := f1.lt
            obtain ⟨cs, hc, _⟩ := f1
            exact k7 _ fl (map_ne h.mpo hc) (nP hc (by decide)) (nA hc (by decide)) (nS hc (by decide))
          · rw [List.mem_singleton.1 hx]
            refine ⟨f5.same ((same7 p (by omega)).trans (g6.block p ap5 pA)), h16, hF p (by omega)⟩
        mpo := ownsMap_frame m4 ((same7 mp nM1.1).trans ((g6.block mp (by have := h.mpo.lt; omega) nM1.2.2).trans (b5.block mp (by have := h.mpo.lt; omega))))
        mpa := by
          intro j
          by_cases ej : j = s
          · subst ej; rw [atKey_put_same hmap (lit_is j), if_pos rfl]
          · rw [atKey_put_other (hne j ej), if_neg ej]; exact h.mpa j
        mph := by
          intro kl
          show _ ↔ ∃ j, plc (I.all ++ [⟨s, num, e⟩]) j ≠ [] ∧ kl = lit j
          by_cases ek : kl = lit s
          · subst ek
            refine ⟨fun _ => ⟨s, by rw [plc_snoc]; simp, rfl⟩, fun _ => has_put_same hmap (lit_is s) _⟩
          · rw [has_put_other ek, h.mph]
            constructor
            · rintro ⟨j, h1, rfl⟩
              exact ⟨j, by rw [plc_snoc]; simp [h1], rfl⟩
            · rintro ⟨j, h1, rfl⟩
              have hj : ¬ s = j := fun e => ek (by rw [e])
              rw [plc_snoc] at h1
              exact ⟨j, by simpa [hj] using h1, rfl⟩
        rows := by
          intro j
          show W7.ownsRow 0 3 1 _ (plc (I.all ++ [⟨s, num, e⟩]) j).length ((plc (I.all ++ [⟨s, num, e⟩]) j).map natV)
          rw [plc_snoc]
          by_cases ej : j = s
          · subst ej
            rw [if_pos rfl, if_pos rfl, List.length_append, List.map_append]
            exact ownsRow_frame r3 fun q hq hl => by cases hq; exact g7
          · rw [if_neg ej, if_neg (fun e => ej e.symm), List.append_nil]
            refine ownsRow_frame (h.rows j) fun q hq hl => ?_
            obtain ⟨cur, hc⟩ := ownsRow_mark (h.rows j) hq
            exact k7 q hl (map_ne h.mpo hc) (fun e => ej (h.apart j s q hq e.symm)) (nA hc (by decide)) (nS hc (by decide))
        apart := by
          intro j j' q hq hq'
          by_cases e1 : j = s
          · by_cases e2 : j' = s
            · rw [e1, e2]
            · simp only [if_pos e1] at hq
              simp only [if_neg e2] at hq'
              cases hq
              rcases hat with hat | hat
              · exact absurd (h.apart j' s g hq' hat) e2
              · obtain ⟨cur, hc⟩ := ownsRow_mark (h.rows j') hq'
                have hlc : g < w.heap.size := lt_of_block hc
                omega
          · by_cases e2 : j' = s
            · simp only [if_neg e1] at hq
              simp only [if_pos e2] at hq'
              cases hq'
              rcases hat with hat | hat
              · exact absurd (h.apart j s g hq hat) e1
              · obtain ⟨cur, hc⟩ := ownsRow_mark (h.rows j) hq
                have hlc : g < w.heap.size := lt_of_block hc
                omega
            · simp only [if_neg e1] at hq
              simp only [if_neg e2] at hq'
              exact h.apart j j' q hq hq'
        mko := (ownsMap_frame h.mko (k7 mk h.mko.lt (fun e => h.mne e.symm) nM.2.1 nM.2.2 nM.1)).mono (Nat.le_succ _)
        mka := h.mka
        mkh := h.mkh
        mne := h.mne
        fst := h.fst
        fmp := h.fmp
        fmk := h.fmk
        fav := fun q hq => by
          cases hq
          rcases hat6 with hat6 | hat6
          · exact h.fav a hat6
          · exact hF a (by omega)
        fpf := fun j q hq => by
          by_cases ej : j = s
          · simp only [if_pos ej] at hq
            cases hq
            rcases hat with hat | hat
            · exact h.fpf s g hat
            · exact hF g hat
          · simp only [if_neg ej] at hq
            exact h.fpf j q hq
        len := by show (I.all ++ [_]).length ≤ N + 1; rw [List.length_append]; have := h.len; simp; omega
        nil := h.nil
        avs := ⟨_, _, by rw [List.length_append]; rfl⟩ }
  · have a1 : Kept F w W3 := Kept.of_grown g3 fun q e => h.fpf s q e
    have a2 : Kept F W3 W4 := Kept.of_grown g4 fun q e => by cases e; exact h.fmp
    have a3 : Kept F W4 W5 := Kept.of_below b5
    have a4 : Kept F W5 W6 := Kept.of_grown g6 fun q e => h.fav q e
    have a5 : Kept F W6 W7 := by rw [h7]; exact ⟨rfl, rfl, rfl, by simp [World.setCell], fun q _ hn => heap_setCell_other _ _ _ _ (fun e => hn (by rw [e]; exact h.fst))⟩
    exact (((a1.trans a2).trans a3).trans a4).trans a5
end Go.Proofs.Ytgpijeaehkabdaa

/-
  DERIVED. A region that draws its order and whose last operation waits for all others: it is the region without that one, and that one behind it. So a condition that the last operation breaks may be held through the others.
-/
namespace Go.Proofs.Ytgpijeaehkabdaa
open Go

/-- What is asked behind the others: that the last one goes well. -/
def peelQ (P : Program) (L : Oper) (Q : Exit → Act → World → Prop) : Exit → Act → World → Prop
  | .normal, a, w => L.wp P a w (fun a' w' => Q .normal a' w') Q
  | .exit i, a, w => Q (.exit i) a w
  | .goto l, a, w => Q (.goto l) a w
  | .ret, a, w => Q .ret a w
  | .panic c, a, w => Q (.panic c) a w
  | .outgrown, a, w => Q .outgrown a w

theorem peel_upon {P : Program} {L o : Oper} {Q : Exit → Act → World → Prop} {a : Act} {w : World} {K K' : Act → World → Prop} (hK : ∀ a w, K a w → K' a w) (h : o.wp P a w K (peelQ P L Q)) : o.wp P a w K' Q := by
  unfold Oper.wp at *
  generalize (execOp a.eval o).run P w = r at *
  cases r with
  | ok n w' =>
    cases n <;> simp only [Oper.upon] at h ⊢
    case value u => exact hK _ _ h
    case skip => exact hK _ _ h
    case defer d => exact hK _ _ h
    case enter f args =>
      refine Calls.mono h fun e w'' he => ?_
      cases e with
      | returned u => exact hK _ _ he
      | panicked c => exact he
      | outgrown => obtain ⟨a, w, h⟩ := he; exact ⟨a, w, h⟩
    case row row args => exact Rows.mono h fun u w'' he => hK _ _ he
  | halt x w' =>
    cases x <;> simp only [Oper.upon] at h ⊢
    case panic u => exact h

/-- No guard, no operation that waits for itself or for a later one; the last one waits for all, or for one that does. -/
def peels (md : Region.Mode) (ops : Array Oper) (L : Oper) : Bool :=
  L.guard.isNone && (List.range ops.size).all (fun j => match ops[j]? with
    | none => false
    | some o => o.guard.isNone && o.after.all (fun e => decide (e.on < j)) && (L.after.any (fun e => Region.binds md e && e.on == j) || L.after.any (fun e => Region.binds md e && (match ops[e.on]? with | none => false | some o2 => o2.after.any (fun e2 => Region.binds md e2 && e2.on == j))))) && L.after.all (fun e => decide (e.on < ops.size))

theorem getD_push_lt {l : Array Bool} {b d : Bool} {j : Nat} (h : j < l.size) : (l.push b).getD j d = l.getD j d := by
  simp [Array.getElem?_push, Nat.ne_of_lt h]

theorem least_false {l : Array Bool} : ∀ n, n ≤ l.size → (∃ j, j < n ∧ l.getD j true = false) → ∃ j, j < n ∧ l.getD j true = false ∧ ∀ i, i < j → l.getD i false = true
  | 0, _, h => by obtain ⟨j, hj, _⟩ := h; omega
  | n + 1, hn, h => by
    by_cases hx : ∃ j, j < n ∧ l.getD j true = false
    · obtain ⟨j, h1, h2, h3⟩ := least_false n (by omega) hx
      exact ⟨j, by omega, h2, h3⟩
    · obtain ⟨j, hj, hf⟩ := h
      obtain rfl : j = n := by
        rcases Nat.lt_or_ge j n with h' | h'
        · exact absurd ⟨j, h', hf⟩ hx
        · omega
      refine ⟨j, hj, hf, fun i hi => ?_⟩
      cases hg : l.getD i true with
      | false => exact absurd ⟨i, hi, hg⟩ hx
      | true =>
        have : i < l.size := by omega
        simp [this] at hg ⊢
        exact hg

theorem peel_any {P : Program} {md : Region.Mode} {ops : Array Oper} {L : Oper} {Q : Exit → Act → World → Prop} (hp : peels md ops L = true) :
    ∀ (fuel : Nat) (l : Array Bool) (a : Act) (w : World), l.size = ops.size → (∀ i o, ops[i]? = some o → l.getD i false = true → ∀ e ∈ o.after, Region.binds md e = true → l.getD e.on false = true) → wpAny P md ops (peelQ P L Q) fuel l a w → wpAny P md (ops.push L) Q (fuel + 1) (l.push false) a w := by
  unfold peels at hp
  simp only [Bool.and_eq_true, Option.isNone_iff_eq_none, List.all_eq_true, List.mem_range, Array.all_eq_true_iff_forall_mem, decide_eq_true_eq] at hp
  obtain ⟨⟨hLg, hall⟩, hLa⟩ := hp
  have hops : ∀ j o, ops[j]? = some o → o.guard = none ∧ (∀ e ∈ o.after, e.on < j) ∧ ((∃ e ∈ L.after, Region.binds md e = true ∧ e.on = j) ∨ ∃ e ∈ L.after, Region.binds md e = true ∧ ∃ o2, ops[e.on]? = some o2 ∧ ∃ e2 ∈ o2.after, Region.binds md e2 = true ∧ e2.on = j) := fun j o ho => by
    have hj : j < ops.size := (Array.getElem?_eq_some_iff.1 ho).1
    have h := hall j hj
    rw [ho] at h
    simp only [Bool.and_eq_true, Option.isNone_iff_eq_none, Array.all_eq_true_iff_forall_mem, decide_eq_true_eq, Bool.or_eq_true, Array.any_eq_true, beq_iff_eq] at h
    refine ⟨h.1.1, h.1.2, ?_⟩
    rcases h.2 with ⟨i, hi, h2, h3⟩ | ⟨i, hi, h2, h3⟩
    · exact .inl ⟨L.after[i], Array.getElem_mem hi, h2, h3⟩
    · refine .inr ⟨L.after[i], Array.getElem_mem hi, h2, ?_⟩
      cases ho2 : ops[L.after[i].on]? with
      | none => rw [ho2] at h3; cases h3
      | some o2 =>
        rw [ho2] at h3
        simp only [Array.any_eq_true, Bool.and_eq_true, beq_iff_eq] at h3
        obtain ⟨k, hk, h4, h5⟩ := h3
        exact ⟨o2, rfl, o2.after[k], Array.getElem_mem hk, h4, h5⟩
  have hpu : ∀ j, j < ops.size → (ops.push L)[j]? = ops[j]? := fun j hj => by simp [Array.getElem?_push, Nat.ne_of_lt hj]
  have hpn : (ops.push L)[ops.size]? = some L := by simp
  -- nothing may come up: all have
  have done : ∀ l : Array Bool, l.size = ops.size → Region.ready md ops l = [] → ∀ j, j < ops.size → l.getD j false = true := fun l hl hr j hj => by
    cases hg : l.getD j true with
    | true => have : j < l.size := by omega
              simp [this] at hg ⊢; exact hg
    | false =>
      obtain ⟨i, h1, h2, h3⟩ := least_false (l := l) ops.size (by omega) ⟨j, hj, hg⟩
      have hi : ops[i]? = some ops[i] := Array.getElem?_eq_getElem h1
      have : i ∈ Region.ready md ops l := mem_ready.2 ⟨h2, _, hi, fun e he _ => h3 _ ((hops i _ hi).2.1 e he)⟩
      rw [hr] at this; cases this
  have back : ∀ (l : Array Bool) i, l.size = ops.size → i < ops.size → i ∈ Region.ready md (ops.push L) (l.push false) → i ∈ Region.ready md ops l := fun l i hl hi h => by
    obtain ⟨h0, o, ho, ha⟩ := mem_ready.1 h
    rw [hpu i hi] at ho
    rw [getD_push_lt (by omega)] at h0
    refine mem_ready.2 ⟨h0, o, ho, fun e he hb => ?_⟩
    have := ha e he hb
    have hlt := (hops i o ho).2.1 e he
    rwa [getD_push_lt (by omega)] at this
  -- where all have, the last one may
  have last : ∀ l : Array Bool, l.size = ops.size → (∀ j, j < ops.size → l.getD j false = true) → ops.size ∈ Region.ready md (ops.push L) (l.push false) := fun l hl h =>
    mem_ready.2 ⟨by simp [← hl], L, hpn, fun e he _ => by
      have := hLa e he
      rw [getD_push_lt (by omega)]; exact h _ this⟩
  have lastQ : ∀ (fuel : Nat) (l : Array Bool) (a : Act) (w : World), l.size = ops.size → (∀ j, j < ops.size → l.getD j false = true) → peelQ P L Q .normal a w → wpOp P (ops.push L) Q ops.size (wpAny P md (ops.push L) Q fuel ((l.push false).setIfInBounds ops.size true)) a w := fun fuel l a w hl h hq => by
    unfold wpOp
    rw [hpn]
    have hw : Region.wanted L (yielded (ops.push L) a.tmps) = true := by simp [Region.wanted, hLg]
    simp only [hw, if_true]
    refine .inl (Oper.wp_mono (fun a' w' h' => ?_) hq)
    have hr : Region.ready md (ops.push L) ((l.push false).setIfInBounds ops.size true) = [] := by
      refine List.eq_nil_iff_forall_not_mem.2 fun i hi => ?_
      obtain ⟨h0, o, ho, _⟩ := mem_ready.1 hi
      have hi' : i < (ops.push L).size := (Array.getElem?_eq_some_iff.1 ho).1
      rw [Array.size_push] at hi'
      by_cases e : i = ops.size
      · subst e
        simp [hl] at h0
      · have h1 := h i (by omega)
        rw [getD_set_ne true (fun h => e h.symm), getD_push_lt (by omega)] at h0
        have : i < l.size := by omega
        simp [this] at h0 h1
        rw [h1] at h0; cases h0
    cases fuel with
    | zero => exact ⟨hr, h'⟩
    | succ f => exact ⟨fun _ => h', by rw [hr]; simp⟩
  intro fuel
  induction fuel with
  | zero =>
    intro l a w hl hcl h
    obtain ⟨hr, hq⟩ := h
    have hd := done l hl hr
    refine ⟨fun h0 => ?_, fun i hi => ?_⟩
    · have := last l hl hd; rw [h0] at this; cases this
    · by_cases e : i < ops.size
      · have := back l i hl e hi; rw [hr] at this; cases this
      · obtain ⟨_, o, ho, _⟩ := mem_ready.1 hi
        have hi' : i < (ops.push L).size := (Array.getElem?_eq_some_iff.1 ho).1
        rw [Array.size_push] at hi'
        obtain rfl : i = ops.size := by omega
        exact lastQ 0 l a w hl hd hq
  | succ fuel ih =>
    intro l a w hl hcl h
    obtain ⟨hq, hi0⟩ := h
    refine ⟨fun h0 => ?_, fun i hi => ?_⟩
    · by_cases hr : Region.ready md ops l = []
      · have := last l hl (done l hl hr); rw [h0] at this; cases this
      · obtain ⟨i, hi⟩ := List.exists_mem_of_ne_nil _ hr
        obtain ⟨g0, o, ho, ha⟩ := mem_ready.1 hi
        have hil : i < ops.size := (Array.getElem?_eq_some_iff.1 ho).1
        have : i ∈ Region.ready md (ops.push L) (l.push false) := mem_ready.2 ⟨by rw [getD_push_lt (by omega)]; exact g0, o, by rw [hpu i hil]; exact ho, fun e he hb => by
          have hlt := (hops i o ho).2.1 e he
          rw [getD_push_lt (by omega)]; exact ha e he hb⟩
        rw [h0] at this; cases this
    · by_cases e : i < ops.size
      · have hi1 := back l i hl e hi
        have h1 := hi0 i hi1
        obtain ⟨_, o, ho, _⟩ := mem_ready.1 hi1
        have hg := (hops i o ho).1
        unfold wpOp at h1 ⊢
        rw [hpu i e]
        simp only [ho] at h1 ⊢
        have hw1 : Region.wanted o (yielded ops a.tmps) = true := by simp [Region.wanted, hg]
        have hw2 : Region.wanted o (yielded (ops.push L) a.tmps) = true := by simp [Region.wanted, hg]
        simp only [hw1, hw2, if_true] at h1 ⊢
        have step : ∀ a' w', wpAny P md ops (peelQ P L Q) fuel (l.setIfInBounds i true) a' w' → wpAny P md (ops.push L) Q (fuel + 1) ((l.push false).setIfInBounds i true) a' w' := fun a' w' h' => by
          have hcl2 : ∀ k o, ops[k]? = some o → (l.setIfInBounds i true).getD k false = true → ∀ e ∈ o.after, Region.binds md e = true → (l.setIfInBounds i true).getD e.on false = true := fun k o2 hk hl2 e2 he hb => by
            by_cases hik : i = k
            · subst hik
              obtain ⟨_, o3, ho3, ha⟩ := mem_ready.1 hi1
              rw [hk] at ho3; cases ho3
              exact getD_set_true (ha e2 he hb)
            · rw [getD_set_ne false hik] at hl2
              exact getD_set_true (hcl k o2 hk hl2 e2 he hb)
          have := ih (l.setIfInBounds i true) a' w' (by simpa using hl) hcl2 h'
          have e2 : (l.push false).setIfInBounds i true = (l.setIfInBounds i true).push false := by
            apply Array.ext_getElem?
            intro k
            rw [Array.getElem?_setIfInBounds, Array.getElem?_push, Array.getElem?_push, Array.getElem?_setIfInBounds, Array.size_push, Array.size_setIfInBounds]
            by_cases hk : i = k
            · subst hk
              have g1 : i < l.size := by omega
              have g2 : ¬ i = l.size := by omega
              have g3 : i < l.size + 1 := by omega
              simp [g1, g2, g3]
            · simp [hk]
          rw [e2]; exact this
        rcases h1 with h1 | ⟨hk, ⟨a2, w2, h2⟩⟩
        · exact .inl (peel_upon step h1)
        · exact .inr ⟨hk, ⟨a2, w2, h2⟩⟩
      · obtain ⟨_, o, ho, ha⟩ := mem_ready.1 hi
        have hi' : i < (ops.push L).size := (Array.getElem?_eq_some_iff.1 ho).1
        rw [Array.size_push] at hi'
        obtain rfl : i = ops.size := by omega
        rw [hpn] at ho
        cases ho
        have hd : ∀ j, j < ops.size → l.getD j false = true := fun j hj => by
          rcases (hops j _ (Array.getElem?_eq_getElem hj)).2.2 with ⟨e, he, hb, hj'⟩ | ⟨e, he, hb, o2, ho2, e2, he2, hb2, hj'⟩
          · have := ha e he hb
            rw [hj', getD_push_lt (by omega)] at this
            exact this
          · have := ha e he hb
            have hlt := hLa e he
            rw [getD_push_lt (by omega)] at this
            have := hcl _ o2 ho2 this e2 he2 hb2
            rw [hj'] at this
            exact this
        have hr : Region.ready md ops l = [] := by
          refine List.eq_nil_iff_forall_not_mem.2 fun i hi => ?_
          obtain ⟨h0, o, ho, _⟩ := mem_ready.1 hi
          have hi' : i < ops.size := (Array.getElem?_eq_some_iff.1 ho).1
          have h1 := hd i hi'
          have : i < l.size := by omega
          simp [this] at h0 h1
          rw [h1] at h0; cases h0
        exact lastQ (fuel + 1) l a w hl hd (hq hr)

/-- The region, its last operation apart. -/
theorem wp_region_peel {P : Program} {full : Array Oper} {L : Oper} {Q : Exit → Act → World → Prop} {id n : Nat} {a : Act} {w : World} (hm : P.follows .mixedOrders = true) (hn : full.size = n + 1) (hL : full[n]? = some L) (hp : peels .any full.pop L = true) {S : World → Prop} (hS : S w.drew)
    (h : S w.drew → wpAnyH P .any full.pop (peelQ P L Q) S n (Array.replicate n false) a w.drew) : (Code.region id full true).wp P Q a w := by
  have hz : full.pop.size = n := by simp [hn]
  have hf : full = full.pop.push L := by
    have h1 : n < full.size := by omega
    have h2 : full[n] = L := by rw [Array.getElem?_eq_getElem h1] at hL; exact Option.some.inj hL
    have h3 : full.back = full[full.size - 1] := rfl
    refine Array.ext (by simp; omega) fun k hk1 hk2 => ?_
    by_cases e : k = n
    · subst e; rw [h2, Array.getElem_push]; simp [hz]
    · have : k < full.pop.size := by omega
      rw [Array.getElem_push, dif_pos this]; simp
  refine wp_region_any hm ?_
  have := peel_any hp n (Array.replicate n false) a w.drew (by simp [hz]) (fun i o _ h => by by_cases hi : i < n <;> simp [hi] at h) (wpAny_of_held _ _ _ _ (h hS))
  rw [← hf] at this
  rw [hn]
  have e : Array.replicate (n + 1) false = (Array.replicate n false).push false := by simp [Array.replicate_succ]
  rw [e]
  exact this
end Go.Proofs.Ytgpijeaehkabdaa

/-
  DERIVED. The walk of the state's add.
-/
namespace Go.Proofs.Ytgpijeaehkabdaa
open Go.RowKit Go.Maps
set_option linter.unusedVariables false

theorem infoInt3 : (Try.prog.info? 3).map (fun i => (i.zero, i.size, i.bytes)) = some (some (.int .i64 0), 1, 8) := by kernel_rfl
theorem infoEntry3 : (Try.prog.info? 45).map (fun i => (i.zero, i.size, i.bytes)) = some (some (.agg #[.int .i64 0, sv [], .int .i64 0, sv [], .int .i64 0, .slice none 0 0]), 6, 80) := by kernel_rfl
theorem info_parts {t : TypeId} {z : Value} {n m : Nat} (h : (Try.prog.info? t).map (fun i => (i.zero, i.size, i.bytes)) = some (some z, n, m)) : ∃ i, Try.prog.info? t = some i ∧ i.zero = some z ∧ i.size = n ∧ i.bytes = m := by
  obtain ⟨i, hi, hh⟩ := Option.map_eq_some_iff.1 h
  simp only [Prod.mk.injEq] at hh
  exact ⟨i, hi, hh.1, hh.2.1, hh.2.2⟩

theorem build_ent (x y : Int) (s t : List UInt8) (v : Int) (a : Option Addr) (n c : Nat) (w : World) : (Instr.build 45 #[(0, .int .i64 x), (1, sv s), (2, .int .i64 y), (3, .agg #[sv t, .int .i64 v, .slice a n c])]).run Try.prog w = .ok (.agg #[.int .i64 x, sv s, .int .i64 y, sv t, .int .i64 v, .slice a n c]) w := by kernel_rfl
theorem slice_ent (x y : Int) (s t : List UInt8) (v : Int) (a : Option Addr) (n c : Nat) (w : World) : (Instr.buildSlice 37 1 #[(0, .agg #[.int .i64 x, sv s, .int .i64 y, sv t, .int .i64 v, .slice a n c])]).run Try.prog w = .ok (.slice (some ⟨w.heap.size, 0, none⟩) 1 1) (w.alloc (.cells #[.int .i64 x, sv s, .int .i64 y, sv t, .int .i64 v, .slice a n c] 45)) := by kernel_rfl
def bEnt (parts : Array (Nat × Value)) : Sem Value := Instr.build 45 parts
theorem bEnt_eq (parts : Array (Nat × Value)) : Instr.build 45 parts = bEnt parts := rfl
def bSl (parts : Array (Nat × Value)) : Sem Value := Instr.buildSlice 37 1 parts
theorem bSl_eq (parts : Array (Nat × Value)) : Instr.buildSlice 37 1 parts = bSl parts := rfl
theorem bEnt_run (x y : Int) (s t : List UInt8) (v : Int) (a : Option Addr) (n c : Nat) (w : World) : (bEnt #[(0, .int .i64 x), (1, sv s), (2, .int .i64 y), (3, .agg #[sv t, .int .i64 v, .slice a n c])]).run Try.prog w = .ok (.agg #[.int .i64 x, sv s, .int .i64 y, sv t, .int .i64 v, .slice a n c]) w := build_ent x y s t v a n c w
theorem bSl_run (x y : Int) (s t : List UInt8) (v : Int) (a : Option Addr) (n c : Nat) (w : World) : (bSl #[(0, .agg #[.int .i64 x, sv s, .int .i64 y, sv t, .int .i64 v, .slice a n c])]).run Try.prog w = .ok (.slice (some ⟨w.heap.size, 0, none⟩) 1 1) (w.alloc (.cells #[.int .i64 x, sv s, .int .i64 y, sv t, .int .i64 v, .slice a n c] 45)) := slice_ent x y s t v a n c w
attribute [local go_sem ↓] bEnt_eq bSl_eq
attribute [local go_sem] bEnt_run bSl_run

def Ix.pushN (I : Ix) (s : List UInt8) (f : Nat) : List Evn → Ix
  | [] => I
  | e :: r => (I.push s f e).pushN s (f + 1) r
theorem Ix.pushN_snoc (s : List UInt8) (e : Evn) : ∀ (l : List Evn) (I : Ix) (f : Nat), I.pushN s f (l ++ [e]) = (I.pushN s f l).push s (f + l.length) e
  | [], I, f => rfl
  | x :: r, I, f => by
    show ((I.push s f x).pushN s (f + 1) (r ++ [e])) = ((I.push s f x).pushN s (f + 1) r).push s (f + (r.length + 1)) e
    rw [Ix.pushN_snoc s e r, Nat.add_right_comm, Nat.add_assoc]

/-- What a round's first statement leaves: one more place of the stream, and the map's element. -/
def Reg7 (W1 W4 : World) (pa : Option Addr) (V pc X mp M : Nat) (l : List Value) (D1 : DataW Value) (s : List UInt8) : Prop :=
  ∃ gg cap2 W3, W3.ownsRow 0 3 1 (.slice (some ⟨gg, 0, none⟩) (V + 1) cap2) (V + 1) (l ++ [.int .i64 (X : Int)]) ∧ (W1.alloc (.cells #[.int .i64 (X : Int)] 3)).drew.grownBy W3 (Value.slice pa V pc).ownBlock ∧ ((Value.slice pa V pc).ownBlock = some gg ∨ gg = W1.heap.size + 1) ∧
    W4.ownsMap Try.prog 9 rawE mp M (D1.put (lit s) (.held (.slice (some ⟨gg, 0, none⟩) (V + 1) cap2))) ∧ W3.grownBy W4 (some mp)

/-- What lies in a state's first cell. -/
def stSel (st : Nat) (w : World) : Value := (w.cell? ⟨st, 0, none⟩).getD undef
theorem stSel_is {st : Nat} {w : World} {v : Value} (h : w.cell? ⟨st, 0, none⟩ = some v) : w.cell? ⟨st, 0, none⟩ = some (stSel st w) := by unfold stSel; rw [h]; rfl
theorem stSel_set {st : Nat} {w : World} {u v : Value} {a b c d e : Prop} (h : w.cell? ⟨st, 0, none⟩ = some u) (k : a ∧ b ∧ c ∧ d ∧ e) : a ∧ b ∧ c ∧ d ∧ e ∧ (w.setCell ⟨st, 0, none⟩ v).cell? ⟨st, 0, none⟩ = some (stSel st (w.setCell ⟨st, 0, none⟩ v)) :=
  ⟨k.1, k.2.1, k.2.2.1, k.2.2.2.1, k.2.2.2.2, by obtain ⟨v', h'⟩ := cell?_setCell_some (p := ⟨st, 0, none⟩) (x := v) h; exact stSel_is h'⟩

/-- Where add's loop stands. -/
structure ASt (w W : World) (F : Nat → Prop) (st mp mk M B : Nat) (I : Ix) (s k : List UInt8) (fi : Nat) (ev : Value) : Prop where
  ix : ∃ xs av pf D1 D2, IxIn W F st mp mk M I xs av pf D1 D2
  kept : Kept F w W
  box : BBox W B s k fi ev
  nb : ¬ F B
  hF : ∀ j, w.heap.size ≤ j → F j

set_option maxRecDepth 100000 in
set_option maxHeartbeats 8000000 in
theorem add7 {w : World} {F : Nat → Prop} {st mp mk M B : Nat} {I : Ix} {s k : List UInt8} {fi : Nat} {a : Option Addr} {n c : Nat} : True := trivial

theorem IxIn.more {w : World} {F : Nat → Prop} {st mp mk N N' : Nat} {I : Ix} {xs : List (Ent × Nat)} {av : Value} {pf : List UInt8 → Value} {D1 D2 : DataW Value} (h : IxIn w F st mp mk N I xs av pf D1 D2) (hn : N ≤ N') : IxIn w F st mp mk N' I xs av pf D1 D2 :=
  { h with mpo := h.mpo.mono hn, mko := h.mko.mono hn, len := Nat.le_trans h.len hn }
open Classical in
/-- The index behind a batch. -/
noncomputable def Ix.keyIf (I : Ix) (s k : List UInt8) (fi n : Nat) : Ix := if k = [] then I else I.setKey k ⟨s, fi, I.all.length, n⟩
noncomputable def Ix.added (I : Ix) (s k : List UInt8) (fi : Nat) (es : List Evn) : Ix := (I.keyIf s k fi es.length).pushN s fi es

set_option maxRecDepth 100000 in
set_option maxHeartbeats 8000000 in
theorem add_go {w : World} {F : Nat → Prop} {st mp mk N : Nat} {I : Ix} {xs : List (Ent × Nat)} {av : Value} {pf : List UInt8 → Value} {D1 D2 : DataW Value} (h : IxIn w F st mp mk N I xs av pf D1 D2) (s : List UInt8) (hs : s.length ≤ maxLen) (k : List UInt8) (hk : k.length ≤ maxLen) (fi : Nat) (hfi : (fi : Int) < 4611686018427387904) (ea : Option Addr) (en ec : Nat) (es : List Evn) (G : Nat → Prop) (hG : ∀ q, G q ↔ F q ∨ w.heap.size < q) (hFl : ∀ q, F q → q < w.heap.size)
    (hv : ∀ A, Kept G (w.alloc (.cells (bt s k fi ea en ec) 30)) A → EvL A (.slice ea en ec) es) (hv2 : ∀ A, Kept G (w.alloc (.cells (bt s k fi ea en ec) 30)) A → ∀ b off, ea = some ⟨b, off, none⟩ → A.heap[b]? = (w.alloc (.cells (bt s k fi ea en ec) 30)).heap[b]?) (h16 : es.length ≤ 16) (hf16 : ∀ e ∈ es, e.fields.length ≤ 16) (hN : N < 1000000) :
    Calls Try.prog 27 #[.pointer (some ⟨st, 0, none⟩), .agg (bt s k fi ea en ec)] w fun e w' => e = .returned (.tuple #[]) ∧ Kept F w w' ∧ ∃ xs' av' pf' D1' D2', IxIn w' G st mp mk (N + 1 + es.length) (I.added s k fi es) xs' av' pf' D1' D2' := by
  obtain ⟨w1, hw1⟩ : ∃ w1, w1 = w.alloc (.cells (bt s k fi ea en ec) 30) := ⟨_, rfl⟩
  have z1 : w1.heap.size = w.heap.size + 1 := by rw [hw1]; simp
  have b1 : Below w.heap.size w w1 := by rw [hw1]; exact (Below.refl _ _).alloc (Nat.le_refl _) _
  have hGF : ∀ q, F q → G q := fun q hq => (hG q).2 (.inl hq)
  have x1 : IxIn w1 G st mp mk N I xs av pf D1 D2 := by
    have y := h.frame (w' := w1) fun q _ hl => b1.block q hl
    exact { y with fds := fun x hx => ⟨(y.fds x hx).1, (y.fds x hx).2.1, hGF _ (y.fds x hx).2.2⟩, fst := hGF _ y.fst, fmp := hGF _ y.fmp, fmk := hGF _ y.fmk, fav := fun q hq => hGF _ (y.fav q hq), fpf := fun s q hq => hGF _ (y.fpf s q hq) }
  have hB1 : BBox w1 w.heap.size s k fi (.slice ea en ec) := by unfold BBox; rw [hw1]; exact heap_alloc_self _ _
  have ST00 : Hid (ASt w1 w1 G st mp mk N w.heap.size I s k fi (.slice ea en ec)) := hide
    { ix := ⟨xs, av, pf, D1, D2, x1⟩, kept := Kept.refl _ _, box := hB1, nb := fun hb => by rcases (hG _).1 hb with h1 | h1; exact absurd (hFl _ h1) (Nat.lt_irrefl _); omega, hF := fun j hj => (hG j).2 (.inr (by omega)) }
  rw [← hw1] at hv hv2
  have HV := hide hv
  have HV2 := hide hv2
  have H1 := hide hf16
  have HEND : Hid (∀ W, Kept G w1 W → Kept F w W) := hide (fun W hk => ((Kept.of_below b1).mono (fun _ _ hq => hq)).trans ⟨hk.os, hk.tape, hk.output, hk.size, fun q hq hn => hk.block q hq fun hg => by
    rcases (hG q).1 hg with h1 | h1
    · exact hn h1
    · omega⟩)
  obtain ⟨EN, hEN⟩ : ∃ EN, EN = es.length := ⟨_, rfl⟩
  have hen : en = EN := by obtain ⟨_, _, e, _⟩ := hv w1 (Kept.refl _ _); cases e; exact hEN.symm
  subst hen
  have HN := hide hEN
  have h16' : en ≤ 16 := by omega
  have HX0 := hide x1
  obtain ⟨a0, n0, hav⟩ := x1.avs
  have hXl : xs.length = I.all.length := by rw [← x1.all, List.length_map]
  clear h x1 hB1 hv hv2 hf16 hGF b1 hEN h16 hG hFl z1
  obtain ⟨B, hB⟩ : ∃ B, B = w.heap.size := ⟨_, rfl⟩
  rw [← hB] at ST00
  obtain ⟨K, hK⟩ : ∃ K, K = I.keyIf s k fi en := ⟨_, rfl⟩
  have HK := hide hK
  clear hK
  go_enter Try.func27, Try.ntmps27
  go_upto_region 1 with fail
  rw [← hw1, ← hB]
  clear hw1 hB
  obtain ⟨c0, c1, c2, c3, c4⟩ := (unhide ST00).box.cells
  go_upto_if 9 with fail
  go_cut [0] from 7 to 29 (fun t wx => t = .pointer (some ⟨st, 0, none⟩) ∧ ASt w1 wx G st mp mk (N + 1) B K s k fi (.slice ea en ec))
  case first =>
    by_cases hk0 : k = []
    · subst hk0
      have SS : Hid (ASt w1 w1 G st mp mk (N + 1) B K s [] fi (.slice ea en ec)) := hide (by
        have st0 := unhide ST00
        obtain ⟨xs, av, pf, D1, D2, x⟩ := st0.ix
        rw [unhide HK]
        exact { st0 with ix := ⟨xs, av, pf, D1, D2, by unfold Ix.keyIf; rw [if_pos rfl]; exact x.more (Nat.le_succ _)⟩ })
      clear hk hav hXl hs hfi
      go_wp2
      go_meet
      exact ⟨rfl, unhide SS⟩
    · have hkb : (k == []) = false := beq_eq_false_iff_ne.2 hk0
      have hkn : k.isEmpty = false := by simpa using hk0
      obtain ⟨X, hX⟩ : ∃ X, X = xs.length := ⟨_, rfl⟩
      have x1 := unhide HX0
      have s0 : w1.cell? ⟨st, 0, none⟩ = some (.slice a0 X n0) := by rw [hX]; rw [← hav]; exact (cell_of_row _ _ _ _ _ _ x1.stc).trans rfl
      have s2 : w1.cell? ⟨st, 2, none⟩ = some (.map (some mk)) := (cell_of_row _ _ _ _ _ _ x1.stc).trans rfl
      obtain ⟨W2, hmu, hmo, hmg⟩ := (ownsMap_frame (w' := w1.drew) x1.mko rfl).update keyedS Try.underlying66 (val := .agg (kdA s fi X en false)) (by unfold maxLen; omega) (lit_key hk) rfl
      have nst : st ≠ mk := map_ne x1.mko x1.stc
      have nB : B ≠ mk := map_ne x1.mko (unhide ST00).box
      have lst := lt_of_block x1.stc
      have lB := lt_of_block (unhide ST00).box
      have bst : W2.heap[st]? = w1.heap[st]? := hmg.block st lst (fun e => nst (Option.some.inj e))
      have bB : W2.heap[B]? = w1.heap[B]? := hmg.block B lB (fun e => nB (Option.some.inj e))
      have SS : Hid (ASt w1 W2 G st mp mk (N + 1) B K s k fi (.slice ea en ec)) := hide (by
        have x1d := x1.frame (w' := w1.drew) fun q _ _ => rfl
        obtain ⟨y, ky⟩ := x1d.setKey k hk0 ⟨s, fi, X, en⟩ hmo hmg
        have st0 := unhide ST00
        rw [unhide HK]
        exact { st0 with ix := ⟨_, _, _, _, _, by unfold Ix.keyIf; rw [if_neg hk0, ← hXl, ← hX]; exact y⟩, kept := (Kept.of_below (Below.refl _ w1).drew).trans ky, box := st0.box.same bB })
      have SC : Hid (w1.drew.cell? ⟨st, 0, none⟩ = some (.slice a0 X n0) ∧ w1.drew.cell? ⟨st, 2, none⟩ = some (.map (some mk)) ∧ w1.drew.cell? ⟨B, 0, none⟩ = some (sv s) ∧ w1.drew.cell? ⟨B, 1, none⟩ = some (sv k) ∧ w1.drew.cell? ⟨B, 2, none⟩ = some (.int .i64 (fi : Int)) ∧ w1.drew.cell? ⟨B, 3, none⟩ = some (.slice ea en ec)) := hide ⟨s0, s2, c0, c1, c2, c3⟩
      have SD : Hid (W2.cell? ⟨st, 0, none⟩ = some (.slice a0 X n0) ∧ W2.cell? ⟨st, 2, none⟩ = some (.map (some mk)) ∧ W2.cell? ⟨B, 0, none⟩ = some (sv s) ∧ W2.cell? ⟨B, 1, none⟩ = some (sv k) ∧ W2.cell? ⟨B, 2, none⟩ = some (.int .i64 (fi : Int)) ∧ W2.cell? ⟨B, 3, none⟩ = some (.slice ea en ec)) := hide ⟨(World.cell?_of_block bst).trans s0, (World.cell?_of_block bst).trans s2, (World.cell?_of_block bB).trans c0, (World.cell?_of_block bB).trans c1, (World.cell?_of_block bB).trans c2, (World.cell?_of_block bB).trans c3⟩
      clear hk0 hkb hX x1 hmo hmg bst bB nst nB hav hXl hs hk hfi
      simp only [hkn, Bool.not_false]
      go_upto_region 2 with fail
      clear s0 s2 c0 c1 c2 c3 c4
      go_region_held3 (fun w' => w'.cell? ⟨st, 0, none⟩ = some (.slice a0 X n0) ∧ w'.cell? ⟨st, 2, none⟩ = some (.map (some mk)) ∧ w'.cell? ⟨B, 0, none⟩ = some (sv s) ∧ w'.cell? ⟨B, 1, none⟩ = some (sv k) ∧ w'.cell? ⟨B, 2, none⟩ = some (.int .i64 (fi : Int)) ∧ w'.cell? ⟨B, 3, none⟩ = some (.slice ea en ec))
        (first | with_reducible exact unhide SC | with_reducible exact unhide SD)
        (fail)
      all_goals go_wp2
      all_goals go_meet
      all_goals exact ⟨rfl, unhide SS⟩
  case rest =>
    obtain ⟨rfl, hst⟩ := hcut
    obtain ⟨w2, hw2⟩ : ∃ w2, w2 = wc := ⟨_, rfl⟩
    rw [← hw2] at hst ⊢
    clear hw2 ST00 HX0 hav hXl c0 c1 c2 c3 c4
    obtain ⟨c0, c1, c2, c3, c4⟩ := hst.box.cells
    have ST0 : Hid (ASt w1 w2 G st mp mk (N + 1 + 0) B (K.pushN s fi (es.take 0)) s k fi (.slice ea en ec)) := hide hst
    clear hst
    go_wp2
    go_loopw [33] (fun i wr => ∃ j : Nat, i = .int .i64 (j : Int) ∧ j ≤ en ∧ Hid (ASt w1 wr G st mp mk (N + 1 + j) B (K.pushN s fi (es.take j)) s k fi (.slice ea en ec))) (fun i _ => en - (intOf i).toNat)
    case atStart => exact ⟨0, rfl, by omega, ST0⟩
    case round =>
      obtain ⟨j, rfl, hj, ST⟩ := hrel
      clear ST0
      by_cases hlt : j < en
      · obtain ⟨J, hJ⟩ : ∃ J, J = K.pushN s fi (es.take j) := ⟨_, rfl⟩
        have HJ := hide hJ
        rw [← hJ] at ST
        clear hJ
        obtain ⟨xs, av, pf, D1, D2, x⟩ := (unhide ST).ix
        obtain ⟨aa, ac, hav⟩ := x.avs
        subst hav
        obtain ⟨pa, pc, hpf⟩ := x.pfs s
        obtain ⟨V, hV⟩ : ∃ V, V = J.ver s := ⟨_, rfl⟩
        rw [← hV] at hpf
        have hVl : V ≤ N + 1 + j := by rw [hV]; exact Nat.le_trans (plc_len _ _) x.len
        have hXl : xs.length = J.all.length := by rw [← x.all, List.length_map]
        have hXN : xs.length ≤ N + 1 + j := by rw [hXl]; exact x.len
        obtain ⟨X, hX⟩ : ∃ X, X = xs.length := ⟨_, rfl⟩
        rw [← hX] at hXN
        have HX := hide hX
        have HVV := hide hV
        have HPF := hide hpf
        have HXJ := hide hXl
        have hkw := (unhide ST).kept
        have hevl := unhide HV wr hkw
        have hjl : j < es.length := by rw [← unhide HN]; exact hlt
        obtain ⟨ao', cap', e', _, _, h4⟩ := id hevl
        obtain ⟨b, off, hea, hb, hc⟩ := h4 (by omega)
        injection e' with q1 q2 q3
        subst q1
        clear q2 q3
        obtain ⟨d0, d1, fa, fl, fc, d2, dfd⟩ := hc j hjl
        obtain ⟨f, hf⟩ : ∃ f, f = es[j] := ⟨_, rfl⟩
        rw [← hf] at d0 d1 dfd
        have HE : Hid (es[j]? = some f) := hide (by rw [hf]; exact List.getElem?_eq_getElem hjl)
        have hf6 := unhide H1 f (List.mem_of_getElem? (unhide HE))
        obtain ⟨ft, fv, ff⟩ := f
        simp only at d0 d1 dfd hf6
        have hstl := lt_of_block x.stc
        have hbl := lt_of_block (unhide ST).box
        have s0 : wr.cell? ⟨st, 0, none⟩ = some (.slice aa X ac) := by rw [hX]; exact (cell_of_row _ _ _ _ _ _ x.stc).trans rfl
        have s1 : wr.cell? ⟨st, 1, none⟩ = some (.map (some mp)) := (cell_of_row _ _ _ _ _ _ x.stc).trans rfl
        obtain ⟨p0, p1, p2, p3, p4⟩ := (unhide ST).box.cells
        obtain ⟨W1, hW1⟩ : ∃ W1, W1 = wr.alloc (.cells (ev ft fv fa fl fc) 43) := ⟨_, rfl⟩
        have bW1 : Below wr.heap.size wr W1 := by rw [hW1]; exact (Below.refl _ _).alloc (Nat.le_refl _) _
        have zW1 : W1.heap.size = wr.heap.size + 1 := by rw [hW1]; simp
        have eb1 : W1.heap[wr.heap.size]? = some (.cells (ev ft fv fa fl fc) 43 (0, 0)) := by rw [hW1]; exact heap_alloc_self _ _
        have xW1 := x.frame (w' := W1) fun q _ hl => bW1.block q hl
        have lmp := xW1.mpo.lt
        have lst1 := lt_of_block xW1.stc
        have bx1 : BBox W1 B s k fi (.slice ea en ec) := (unhide ST).box.same (bW1.block B hbl)
        have lB1 := lt_of_block bx1
        have t1 : W1.cell? ⟨st, 1, none⟩ = some (.map (some mp)) := (cell_of_row _ _ _ _ _ _ xW1.stc).trans rfl
        have tB : W1.cell? ⟨B, 0, none⟩ = some (sv s) := bx1.cells.1
        have hl : ∀ W : World, W.heap[mp]? = W1.heap[mp]? → (Instr.lookup 65 (.map (some mp)) (sv s) false).run Try.prog W = .ok (.slice pa V pc) W := fun W hW => by rw [← unhide HPF]; exact xW1.look hW s hs
        have hlA := hl W1.drew rfl
        have hlB := hl (W1.alloc (.cells #[.int .i64 (X : Int)] 3)).drew (Below.heap_alloc _ _ _ lmp)
        obtain ⟨i0, hi0, hz0, hz1, hz2⟩ := info_parts infoInt3
        have HO : Hid (∀ o, ((W1.alloc o).drew).ownsRow 0 3 1 (.slice pa V pc) V ((plc J.all s).map natV)) := hide fun o => by
          have := World.ownsRow.alloc (xW1.rows s) o
          rw [unhide HPF] at this
          rw [hV]
          rw [hV] at this
          exact this
        have hmark : ∀ q, (Value.slice pa V pc).ownBlock = some q → (∃ cur, W1.heap[q]? = some (.cells cur 3 (0, 0))) := fun q hq => by rw [← unhide HPF] at hq; exact ownsRow_mark (xW1.rows s) hq
        have mst : ∀ q, (Value.slice pa V pc).ownBlock = some q → q ≠ st ∧ q ≠ B ∧ q ≠ mp ∧ q ≠ wr.heap.size := fun q hq => by
          obtain ⟨cur, hcu⟩ := hmark q hq
          exact ⟨mark_ne xW1.stc hcu (by decide), mark_ne bx1 hcu (by decide), map_ne xW1.mpo hcu, mark_ne eb1 hcu (by decide)⟩
        have HS3 : Hid (∀ W3, (W1.alloc (.cells #[.int .i64 (X : Int)] 3)).drew.grownBy W3 (Value.slice pa V pc).ownBlock → W3.cell? ⟨st, 1, none⟩ = some (.map (some mp)) ∧ W3.cell? ⟨B, 0, none⟩ = some (sv s)) := hide fun W3 hg =>
          ⟨(hg.cell_far ⟨st, 1, none⟩ (by show st < (W1.alloc _).heap.size; simp; omega) (fun e => (mst st e.symm).1 rfl)).trans ((World.cell?_alloc_lt _ _ _ lst1).trans t1), (hg.cell_far ⟨B, 0, none⟩ (by show B < (W1.alloc _).heap.size; simp; omega) (fun e => (mst B e.symm).2.1 rfl)).trans ((World.cell?_alloc_lt _ _ _ lB1).trans tB)⟩
        have nst : st ≠ mp := map_ne xW1.mpo xW1.stc
        have nB : B ≠ mp := map_ne xW1.mpo bx1
        have HU : Hid (∀ (W3 : World) (u : Value), (W1.alloc (.cells #[.int .i64 (X : Int)] 3)).drew.grownBy W3 (Value.slice pa V pc).ownBlock → ∃ W4, (Instr.mapUpdate 65 (.map (some mp)) (sv s) u).run Try.prog W3 = .ok () W4 ∧ W4.ownsMap Try.prog 9 rawE mp (N + 1 + j + 1) (D1.put (lit s) (.held u)) ∧ W3.grownBy W4 (some mp)) := hide fun W3 u hg =>
          (ownsMap_frame xW1.mpo ((hg.block mp (by show mp < (W1.alloc _).heap.size; simp; omega) (fun e => (mst mp e.symm).2.2.1 rfl)).trans (Below.heap_alloc _ _ _ lmp))).update keyedS Try.underlying65 (by unfold maxLen; omega) (lit_key hs) rfl
        have HX1 := hide xW1
        have HBX := hide bx1
        have HEB := hide eb1
        have HZ1 := hide zW1
        have HBW := hide bW1
        have HMST := hide mst
        have HKW := hide hkw
        have HDF := hide dfd
        have HEA := hide hea
        have HF6 := hide hf6
        have HD2 := hide d2
        subst hea
        clear x hpf hV hX hXl xW1 bx1 eb1 bW1 hmark mst hevl h4 hc hf hl hkw dfd hf6 zW1
        go_upto_region 7 with fail
        rw [← hW1]
        clear hW1 s0 s1 p0 p1 p2 p3 p4 d0 d1 d2 hstl hbl
        go_cut [6] from 43 to 58 (fun t wx => t = .int .i64 (X : Int) ∧ Reg7 W1 wx pa V pc X mp (N + 1 + j + 1) ((plc J.all s).map natV) D1 s)
        case first =>
          go_region_held3 (fun w' => w'.cell? ⟨st, 1, none⟩ = some (.map (some mp)) ∧ w'.cell? ⟨B, 0, none⟩ = some (sv s))
            (first | exact ⟨t1, tB⟩ | exact ⟨(World.cell?_alloc_lt _ _ _ lst1).trans t1, (World.cell?_alloc_lt _ _ _ lB1).trans tB⟩ | exact unhide HS3 _ hgrow | exact ⟨(hmg.cell_far ⟨st, 1, none⟩ (by have := hgrow.size; simp at this; show st < W3.heap.size; omega) (fun e => nst (Option.some.inj e))).trans (unhide HS3 _ hgrow).1, (hmg.cell_far ⟨B, 0, none⟩ (by have := hgrow.size; simp at this; show B < W3.heap.size; omega) (fun e => nB (Option.some.inj e))).trans (unhide HS3 _ hgrow).2⟩)
            ((refine step_append_lies _ (by rfl) _ _ _ (by rfl) 0 3 i0 _ 1 8 Try.underlying79 hi0 hz0 hz1 hz2 (by rfl) (by omega) (.slice pa V pc) V ((plc J.all s).map natV) (by rfl) (unhide HO _) ⟨W1.heap.size, 0, none⟩ 1 1 [.int .i64 (X : Int)] (by rfl) (by rfl) (World.news_of_block (cs := #[.int .i64 (X : Int)]) (t := 3) (fr := (0, 0)) (heap_alloc_new W1 _)) (by intro u hu; simp at hu; subst hu; rfl) (by omega) (by unfold maxLen; omega) (by omega) (Nat.zero_le _) (W1.heap.size + 1) (by simp) ?_; intro gg cap2 W3 hown3 hgrow hat hlt3; obtain ⟨W4, hmu, hmo, hmg⟩ := unhide HU W3 (.slice (some ⟨gg, 0, none⟩) (V + 1) cap2) hgrow))
          all_goals go_wp2
          all_goals go_meet
          all_goals exact ⟨rfl, gg, cap2, W3, hown3, hgrow, hat, hmo, hmg⟩
        case rest =>
          obtain ⟨rfl, gg, cap2, W3, hown3, hgrow, hat, hmo, hmg⟩ := hcut
          obtain ⟨W4, hW4⟩ : ∃ W4, W4 = wc := ⟨_, rfl⟩
          rw [← hW4] at hmo hmg ⊢
          clear hW4
          have z3 := hgrow.size
          have z4 := hmg.size
          have zA : (W1.alloc (.cells #[.int .i64 (X : Int)] 3)).drew.heap.size = W1.heap.size + 1 := by show (W1.alloc _).heap.size = _; simp
          have k4 : ∀ q, q < W1.heap.size → q ≠ mp → some q ≠ (Value.slice pa V pc).ownBlock → W4.heap[q]? = W1.heap[q]? := fun q h1 h2 h3 => (hmg.block q (by omega) (by simpa using h2)).trans ((hgrow.block q (by omega) h3).trans (Below.heap_alloc _ _ _ h1))
          have st4 := (k4 st lst1 nst (fun e => (unhide HMST st e.symm).1 rfl)).trans (unhide HX1).stc
          have bx4 := (unhide HBX).same (k4 B lB1 nB (fun e => (unhide HMST B e.symm).2.1 rfl))
          have eb4 := (k4 wr.heap.size (by have := unhide HZ1; omega) (map_ne (unhide HX1).mpo (unhide HEB)) (fun e => (unhide HMST _ e.symm).2.2.2 rfl)).trans (unhide HEB)
          have kp4 : Kept G w1 W4 := (((unhide HKW).trans (Kept.of_below (unhide HBW))).trans (Kept.of_below ((Below.refl _ W1).alloc (Nat.le_refl _) (.cells #[.int .i64 (X : Int)] 3)).drew)).trans ((Kept.of_grown hgrow (fun q e => (unhide HX1).fpf s q (by rw [unhide HPF]; exact e))).trans (Kept.of_grown hmg (fun q e => by cases e; exact (unhide HX1).fmp)))
          have fd4 : FdL W4.drew (.slice fa fl fc) ff := by
            obtain ⟨ao', cap', e', _, _, h4⟩ := unhide HV W4 kp4
            have hjl : j < es.length := by rw [← unhide HN]; exact hlt
            obtain ⟨b', off', hea, hb', hc'⟩ := h4 (by omega)
            injection e' with q1 q2 q3
            subst q1
            injection hea with hea
            injection hea with u1 u2 u3
            subst u1 u2
            obtain ⟨_, _, fa', fl', fc', d2', df'⟩ := hc' j hjl
            have hs1 := unhide HV2 W4 kp4 b off rfl
            have hs2 := unhide HV2 wr (unhide HKW) b off rfl
            have hcell : W4.cell? ⟨b, off + j * 3 + 2, none⟩ = wr.cell? ⟨b, off + j * 3 + 2, none⟩ := World.cell?_of_block (by rw [hs1, hs2])
            rw [hcell, unhide HD2] at d2'
            have hff : es[j].fields = ff := by
              have := unhide HE
              rw [List.getElem?_eq_getElem hjl] at this
              rw [Option.some.inj this]
            cases d2'
            rw [hff] at df'
            exact df'.below ((Below.refl _ _).drew) (Nat.le_refl _)
          obtain ⟨M, hM⟩ : ∃ M, M = ff.length := ⟨_, rfl⟩
          have HM := hide hM
          have CA : Hid (Calls Try.prog 37 #[.agg (ev ft fv fa fl fc)] W4.drew (fun e w' => ∃ p, e = .returned (.agg #[sv ft, .int .i64 fv, .slice (some ⟨p, 0, none⟩) M M]) ∧ W4.drew.heap.size ≤ p ∧ FdBlk w' p ff.length ff ∧ Below W4.drew.heap.size W4.drew w')) := hide (by rw [hM]; exact apart_go ft fv fa fl fc ff W4.drew fd4 (unhide HF6))
          clear hM
          have l4 : W1.heap.size < W4.heap.size := by omega
          have lst4 := lt_of_block st4
          have lB4 := lt_of_block bx4
          have lE4 := lt_of_block eb4
          obtain ⟨r0, r1, r2, r3, r4⟩ := bx4.cells
          have S0 : Hid (W4.drew.cell? ⟨B, 0, none⟩ = some (sv s) ∧ W4.drew.cell? ⟨B, 2, none⟩ = some (.int .i64 (fi : Int)) ∧ W4.drew.cell? ⟨wr.heap.size, 0, none⟩ = some (sv ft) ∧ W4.drew.cell? ⟨wr.heap.size, 1, none⟩ = some (.int .i64 fv) ∧ W4.drew.cell? ⟨wr.heap.size, 2, none⟩ = some (.slice fa fl fc)) := hide ⟨r0, r2, (cell_of_row _ _ _ _ _ _ eb4).trans rfl, (cell_of_row _ _ _ _ _ _ eb4).trans rfl, (cell_of_row _ _ _ _ _ _ eb4).trans rfl⟩
          have NX : Hid (∀ A, Below W4.heap.size W4.drew A → A.cell? ⟨B, 0, none⟩ = some (sv s) ∧ A.cell? ⟨B, 2, none⟩ = some (.int .i64 (fi : Int)) ∧ A.cell? ⟨wr.heap.size, 0, none⟩ = some (sv ft) ∧ A.cell? ⟨wr.heap.size, 1, none⟩ = some (.int .i64 fv) ∧ A.cell? ⟨wr.heap.size, 2, none⟩ = some (.slice fa fl fc)) := hide (fun A hA => ⟨(hA.cell (p := ⟨B, 0, none⟩) lB4).trans (unhide S0).1, (hA.cell (p := ⟨B, 2, none⟩) lB4).trans (unhide S0).2.1, (hA.cell (p := ⟨wr.heap.size, 0, none⟩) lE4).trans (unhide S0).2.2.1, (hA.cell (p := ⟨wr.heap.size, 1, none⟩) lE4).trans (unhide S0).2.2.2.1, (hA.cell (p := ⟨wr.heap.size, 2, none⟩) lE4).trans (unhide S0).2.2.2.2⟩)
          have v0 : W4.drew.cell? ⟨st, 0, none⟩ = some (.slice aa X ac) := by rw [unhide HX]; exact (cell_of_row _ _ _ _ _ _ st4).trans rfl
          have HC0 : Hid (∀ A, Below W4.heap.size W4.drew A → A.cell? ⟨st, 0, none⟩ = some (.slice aa X ac)) := hide (fun A hA => (hA.cell (p := ⟨st, 0, none⟩) lst4).trans v0)
          have HST4 := hide st4
          have HRow : Hid (∀ A, Below W4.heap.size W4.drew A → A.ownsRow 0 45 6 (.slice aa X ac) X (ecells xs 0)) := hide (fun A hA => by
            have hr := (unhide HX1).row
            rw [← unhide HX] at hr
            exact ownsRow_frame hr fun q hq hl => by
              obtain ⟨cur, hcu⟩ := ownsRow_mark hr hq
              refine (hA.block q (by omega)).trans (k4 q hl (map_ne (unhide HX1).mpo hcu) fun e => ?_)
              have hq2 : (pf s).ownBlock = some q := by rw [unhide HPF]; exact e.symm
              obtain ⟨cur2, hcu2⟩ := ownsRow_mark ((unhide HX1).rows s) hq2
              exact mark_ne hcu hcu2 (by decide) rfl)
          obtain ⟨i6, hi6, hy0, hy1, hy2⟩ := info_parts infoEntry3
          have HI6 := hide hi6
          have HY0 := hide hy0
          have HY1 := hide hy1
          have HY2 := hide hy2
          clear hi6 hy0 hy1 hy2
          obtain ⟨num, hnum⟩ : ∃ num : Int, num = (fi : Int) + (j : Int) := ⟨_, rfl⟩
          have hov : IntKind.i64.wrap ((fi : Int) + (j : Int)) = num := by rw [IntKind.wrap_i64, hnum]; omega
          have HNUM := hide hnum
          clear hnum
          have HMA : Hid (∀ q, (Value.slice aa X ac).ownBlock = some q → q ≠ st ∧ q ≠ B ∧ q ≠ wr.heap.size) := hide (fun q hq => by
            have hr := (unhide HX1).row
            rw [← unhide HX] at hr
            obtain ⟨cur, hcu⟩ := ownsRow_mark hr hq
            exact ⟨mark_ne (unhide HX1).stc hcu (by decide), mark_ne (unhide HBX) hcu (by decide), mark_ne (unhide HEB) hcu (by decide)⟩)
          have nstB : B ≠ st := mark_ne (unhide HX1).stc (unhide HBX) (by decide)
          have nstE : wr.heap.size ≠ st := mark_ne (unhide HX1).stc (unhide HEB) (by decide)
          have HS6 : Hid (∀ (w5 W6 : World) (o : Obj), Below W4.heap.size W4.drew w5 → (w5.alloc o).grownBy W6 (Value.slice aa X ac).ownBlock → (W6.cell? ⟨B, 0, none⟩ = some (sv s) ∧ W6.cell? ⟨B, 2, none⟩ = some (.int .i64 (fi : Int)) ∧ W6.cell? ⟨wr.heap.size, 0, none⟩ = some (sv ft) ∧ W6.cell? ⟨wr.heap.size, 1, none⟩ = some (.int .i64 fv) ∧ W6.cell? ⟨wr.heap.size, 2, none⟩ = some (.slice fa fl fc)) ∧ W6.cell? ⟨st, 0, none⟩ = some (.slice aa X ac) ∧ W6.frozen? ⟨st, 0, none⟩ = false ∧ ∀ v, ((W6.setCell ⟨st, 0, none⟩ v).cell? ⟨B, 0, none⟩ = some (sv s) ∧ (W6.setCell ⟨st, 0, none⟩ v).cell? ⟨B, 2, none⟩ = some (.int .i64 (fi : Int)) ∧ (W6.setCell ⟨st, 0, none⟩ v).cell? ⟨wr.heap.size, 0, none⟩ = some (sv ft) ∧ (W6.setCell ⟨st, 0, none⟩ v).cell? ⟨wr.heap.size, 1, none⟩ = some (.int .i64 fv) ∧ (W6.setCell ⟨st, 0, none⟩ v).cell? ⟨wr.heap.size, 2, none⟩ = some (.slice fa fl fc))) := hide (fun w5 W6 o h5 h6 => by
            have hA := h5.alloc h5.size o
            have hsA := hA.size
            have far : ∀ q, q < W4.heap.size → some q ≠ (Value.slice aa X ac).ownBlock → W6.heap[q]? = W4.heap[q]? := fun q hq hn => (h6.block q (by have : W4.drew.heap.size = W4.heap.size := rfl; omega) hn).trans (hA.block q hq)
            have fB := far B lB4 (fun e => (unhide HMA B e.symm).2.1 rfl)
            have fE := far wr.heap.size lE4 (fun e => (unhide HMA _ e.symm).2.2 rfl)
            have fS := far st lst4 (fun e => (unhide HMA st e.symm).1 rfl)
            have hst6 := fS.trans (unhide HST4)
            have hS : W6.cell? ⟨B, 0, none⟩ = some (sv s) ∧ W6.cell? ⟨B, 2, none⟩ = some (.int .i64 (fi : Int)) ∧ W6.cell? ⟨wr.heap.size, 0, none⟩ = some (sv ft) ∧ W6.cell? ⟨wr.heap.size, 1, none⟩ = some (.int .i64 fv) ∧ W6.cell? ⟨wr.heap.size, 2, none⟩ = some (.slice fa fl fc) := ⟨(World.cell?_of_block fB).trans (unhide S0).1, (World.cell?_of_block fB).trans (unhide S0).2.1, (World.cell?_of_block fE).trans (unhide S0).2.2.1, (World.cell?_of_block fE).trans (unhide S0).2.2.2.1, (World.cell?_of_block fE).trans (unhide S0).2.2.2.2⟩
            refine ⟨hS, (World.cell?_of_block fS).trans v0, by simp [World.frozen?, hst6], fun v => ?_⟩
            have oB := heap_setCell_other W6 ⟨st, 0, none⟩ B v nstB
            have oE := heap_setCell_other W6 ⟨st, 0, none⟩ wr.heap.size v nstE
            exact ⟨(World.cell?_of_block oB).trans hS.1, (World.cell?_of_block oB).trans hS.2.1, (World.cell?_of_block oE).trans hS.2.2.1, (World.cell?_of_block oE).trans hS.2.2.2.1, (World.cell?_of_block oE).trans hS.2.2.2.2⟩)
          have FIN : Hid (∀ (w5 W6 : World) (p ga cap6 : Nat), W4.drew.heap.size ≤ p → FdBlk w5 p ff.length ff → Below W4.drew.heap.size W4.drew w5 → W6.ownsRow 0 45 6 (.slice (some ⟨ga, 0, none⟩) (X + 1) cap6) (X + 1) (ecells xs 0 ++ [.int .i64 (X : Int), sv s, .int .i64 num, sv ft, .int .i64 fv, .slice (some ⟨p, 0, none⟩) M M]) → (w5.alloc (.cells #[.int .i64 (X : Int), sv s, .int .i64 num, sv ft, .int .i64 fv, .slice (some ⟨p, 0, none⟩) M M] 45)).grownBy W6 (Value.slice aa X ac).ownBlock → ((Value.slice aa X ac).ownBlock = some ga ∨ ga = w5.heap.size + 1) → ASt w1 (W6.setCell ⟨st, 0, none⟩ (.slice (some ⟨ga, 0, none⟩) (X + 1) cap6)) G st mp mk (N + 1 + (j + 1)) B (K.pushN s fi (es.take (j + 1))) s k fi (.slice (some ⟨b, off, none⟩) en ec)) := hide (fun w5 W6 p ga cap6 hp hfb hb5 hown6 hgrow6 hat6 => by
            have bA : Below W1.heap.size W1 (W1.alloc (.cells #[.int .i64 (X : Int)] 3)).drew := ((Below.refl _ W1).alloc (Nat.le_refl _) _).drew
            have xA := (unhide HX1).frame (w' := (W1.alloc (.cells #[.int .i64 (X : Int)] 3)).drew) fun q _ hl => bA.block q hl
            have eV := unhide HVV
            have eX := unhide HX
            have eM := unhide HM
            have eN := unhide HNUM
            have hFA : ∀ q, (W1.alloc (.cells #[.int .i64 (X : Int)] 3)).drew.heap.size ≤ q → G q := fun q hq => (unhide ST).hF q (by have := (unhide HKW).size; have := unhide HZ1; omega)
            have b5' : Below W4.heap.size W4 (w5.alloc (.cells #[.int .i64 (X : Int), sv s, .int .i64 num, sv ft, .int .i64 fv, .slice (some ⟨p, 0, none⟩) M M] 45)) := ((Below.refl _ W4).drew.trans hb5).alloc hb5.size _
            obtain ⟨y, ky⟩ := IxIn.push xA s (fi + j) ⟨ft, fv, ff⟩ (unhide HF6) hFA gg cap2 (by rw [← eV]; have := hown3; rw [show natV J.all.length = .int .i64 (X : Int) by rw [← unhide HXJ, ← eX]; rfl]; exact this) (by rw [unhide HPF]; exact hgrow) (by rw [unhide HPF]; exact hat.imp id (fun e => by omega)) (by rw [← eV]; exact hmo) hmg p b5' (hfb.same (Below.heap_alloc _ _ _ hfb.lt)) hp ga cap6 (by rw [← eX]; have := hown6; rw [eM, eN] at this; simpa [ecell, natV] using this) (by rw [← eX]; exact hgrow6) (by rw [← eX]; exact hat6.imp id (fun e => by simp; omega)) rfl
            have kW : Kept G w1 (W1.alloc (.cells #[.int .i64 (X : Int)] 3)).drew := ((unhide HKW).trans (Kept.of_below (unhide HBW))).trans (Kept.of_below bA)
            have ep : K.pushN s fi (es.take (j + 1)) = J.push s (fi + j) ⟨ft, fv, ff⟩ := by
              rw [List.take_add_one, unhide HE]
              show K.pushN s fi (es.take j ++ [_]) = _
              rw [Ix.pushN_snoc, ← unhide HJ, List.length_take, Nat.min_eq_left (by have := unhide HN; omega)]
            rw [← eX] at y ky
            exact { ix := ⟨_, _, _, _, _, by rw [ep]; exact y⟩, kept := kW.trans ky, box := (unhide HBX).same ((ky.block B (by omega) (unhide ST).nb).trans (bA.block B lB1)), nb := (unhide ST).nb, hF := (unhide ST).hF })
          clear k4 fd4 st4 bx4 eb4 r0 r1 r2 r3 r4 hmo hmg hgrow hown3 hat kp4 t1 tB hlA hlB
          clear c0 c1 c2 c3 c4 zA z3 z4 l4 hjl hi0 hz0 hz1 hz2 nst nB nstB nstE HO HU HS3
          have SA : Hid (∀ A, Below W4.heap.size W4.drew A → A.cell? ⟨B, 0, none⟩ = some (sv s) ∧ A.cell? ⟨B, 2, none⟩ = some (.int .i64 (fi : Int)) ∧ A.cell? ⟨wr.heap.size, 0, none⟩ = some (sv ft) ∧ A.cell? ⟨wr.heap.size, 1, none⟩ = some (.int .i64 fv) ∧ A.cell? ⟨wr.heap.size, 2, none⟩ = some (.slice fa fl fc) ∧ A.cell? ⟨st, 0, none⟩ = some (.slice aa X ac)) := hide (fun A hA => ⟨(unhide NX A hA).1, (unhide NX A hA).2.1, (unhide NX A hA).2.2.1, (unhide NX A hA).2.2.2.1, (unhide NX A hA).2.2.2.2, unhide HC0 A hA⟩)
          clear v0
          go_upto_region 8 with fail
          refine wp_region_peel (n := 19) (L := ?L8) (S := fun w' => w'.cell? ⟨B, 0, none⟩ = some (sv s) ∧ w'.cell? ⟨B, 2, none⟩ = some (.int .i64 (fi : Int)) ∧ w'.cell? ⟨wr.heap.size, 0, none⟩ = some (sv ft) ∧ w'.cell? ⟨wr.heap.size, 1, none⟩ = some (.int .i64 fv) ∧ w'.cell? ⟨wr.heap.size, 2, none⟩ = some (.slice fa fl fc) ∧ w'.cell? ⟨st, 0, none⟩ = some (.slice aa X ac)) (by kernel_rfl) (by rfl) ?hL8 ?hp8 (unhide SA _ (Below.refl _ _)) (fun hS => ?_)
          case hL8 => (simp only [List.getElem?_toArray, List.getElem?_cons_succ, List.getElem?_cons_zero]; rfl)
          case hp8 => kernel_rfl
          simp only [List.pop_toArray, List.dropLast_cons_cons, List.dropLast_singleton]
          refine wpAnyH_take (i := 0) (oi := ?o0) (v := ?v0) ?h0 (by kernel_rfl) (by kernel_rfl) (by kernel_rfl) ?q0 (Or.inl ⟨?w0, ?y0⟩) hS ?r0
          case h0 => (simp only [List.getElem?_toArray, List.getElem?_cons_zero]; rfl)
          case w0 => rfl
          case q0 => exact fun _ _ _ h => h
          case y0 =>
            intro w' hSw
            try dsimp only at hSw
            go_simp
            with_reducible rfl
          try simp only [Act.put, List.setIfInBounds_toArray, List.set_cons_zero, List.set_cons_succ]
          refine wpAnyH_take (i := 1) (oi := ?o1) (v := ?v1) ?h1 (by kernel_rfl) (by kernel_rfl) (by kernel_rfl) ?q1 (Or.inl ⟨?w1, ?y1⟩) hS ?r1
          case h1 => (simp only [List.getElem?_toArray, List.getElem?_cons_succ, List.getElem?_cons_zero]; rfl)
          case w1 => rfl
          case q1 => exact fun _ _ _ h => h
          case y1 =>
            intro w' hSw
            try dsimp only at hSw
            go_simp
            with_reducible rfl
          try simp only [Act.put, List.setIfInBounds_toArray, List.set_cons_zero, List.set_cons_succ]
          refine wpAnyH_take (i := 2) (oi := ?o2) (v := ?v2) ?h2 (by kernel_rfl) (by kernel_rfl) (by kernel_rfl) ?q2 (Or.inl ⟨?w2, ?y2⟩) hS ?r2
          case h2 => (simp only [List.getElem?_toArray, List.getElem?_cons_succ, List.getElem?_cons_zero]; rfl)
          case w2 => rfl
          case q2 => exact fun _ _ _ h => h
          case y2 =>
            intro w' hSw
            try dsimp only at hSw
            go_simp
            with_reducible rfl
          try simp only [Act.put, List.setIfInBounds_toArray, List.set_cons_zero, List.set_cons_succ]
          refine wpAnyH_take (i := 3) (oi := ?o3) (v := ?v3) ?h3 (by kernel_rfl) (by kernel_rfl) (by kernel_rfl) ?q3 (Or.inl ⟨?w3, ?y3⟩) hS ?r3
          case h3 => (simp only [List.getElem?_toArray, List.getElem?_cons_succ, List.getElem?_cons_zero]; rfl)
          case w3 => rfl
          case q3 => exact fun _ _ _ h => h
          case y3 =>
            intro w' hSw
            try dsimp only at hSw
            go_simp
            with_reducible rfl
          try simp only [Act.put, List.setIfInBounds_toArray, List.set_cons_zero, List.set_cons_succ]
          refine wpAnyH_take (i := 4) (oi := ?o4) (v := ?v4) ?h4 (by kernel_rfl) (by kernel_rfl) (by kernel_rfl) ?q4 (Or.inl ⟨?w4, ?y4⟩) hS ?r4
          case h4 => (simp only [List.getElem?_toArray, List.getElem?_cons_succ, List.getElem?_cons_zero]; rfl)
          case w4 => rfl
          case q4 => exact fun _ _ _ h => h
          case y4 =>
            intro w' hSw
            try dsimp only at hSw
            go_simp
            with_reducible rfl
          try simp only [Act.put, List.setIfInBounds_toArray, List.set_cons_zero, List.set_cons_succ]
          refine wpAnyH_take (i := 5) (oi := ?o5) (v := ?v5) ?h5 (by kernel_rfl) (by kernel_rfl) (by kernel_rfl) ?q5 (Or.inl ⟨?w5, ?y5⟩) hS ?r5
          case h5 => (simp only [List.getElem?_toArray, List.getElem?_cons_succ, List.getElem?_cons_zero]; rfl)
          case w5 => rfl
          case q5 => exact fun _ _ _ h => h
          case y5 =>
            intro w' hSw
            try dsimp only at hSw
            go_simp
            with_reducible rfl
          try simp only [Act.put, List.setIfInBounds_toArray, List.set_cons_zero, List.set_cons_succ]
          refine wpAnyH_take (i := 6) (oi := ?o6) (v := ?v6) ?h6 (by kernel_rfl) (by kernel_rfl) (by kernel_rfl) ?q6 (Or.inl ⟨?w6, ?y6⟩) hS ?r6
          case h6 => (simp only [List.getElem?_toArray, List.getElem?_cons_succ, List.getElem?_cons_zero]; rfl)
          case w6 => rfl
          case q6 => exact fun _ _ _ h => h
          case y6 =>
            intro w' hSw
            try dsimp only at hSw
            go_simp
            with_reducible rfl
          try simp only [Act.put, List.setIfInBounds_toArray, List.set_cons_zero, List.set_cons_succ]
          refine wpAnyH_take (i := 7) (oi := ?o7) (v := ?v7) ?h7 (by kernel_rfl) (by kernel_rfl) (by kernel_rfl) ?q7 (Or.inl ⟨?w7, ?y7⟩) hS ?r7
          case h7 => (simp only [List.getElem?_toArray, List.getElem?_cons_succ, List.getElem?_cons_zero]; rfl)
          case w7 => rfl
          case q7 => exact fun _ _ _ h => h
          case y7 =>
            intro w' hSw
            try dsimp only at hSw
            go_simp
            with_reducible rfl
          try simp only [Act.put, List.setIfInBounds_toArray, List.set_cons_zero, List.set_cons_succ]
          refine wpAnyH_take (i := 8) (oi := ?o8) (v := ?v8) ?h8 (by kernel_rfl) (by kernel_rfl) (by kernel_rfl) ?q8 (Or.inl ⟨?w8, ?y8⟩) hS ?r8
          case h8 => (simp only [List.getElem?_toArray, List.getElem?_cons_succ, List.getElem?_cons_zero]; rfl)
          case w8 => rfl
          case q8 => exact fun _ _ _ h => h
          case y8 =>
            intro w' hSw
            try dsimp only at hSw
            go_simp
            with_reducible rfl
          try simp only [Act.put, List.setIfInBounds_toArray, List.set_cons_zero, List.set_cons_succ]
          refine wpAnyH_take (i := 9) (oi := ?o9) (v := ?v9) ?h9 (by kernel_rfl) (by kernel_rfl) (by kernel_rfl) ?q9 (Or.inl ⟨?w9, ?y9⟩) hS ?r9
          case h9 => (simp only [List.getElem?_toArray, List.getElem?_cons_succ, List.getElem?_cons_zero]; rfl)
          case w9 => rfl
          case q9 => exact fun _ _ _ h => h
          case y9 =>
            intro w' hSw
            try dsimp only at hSw
            go_simp
            with_reducible rfl
          try simp only [Act.put, List.setIfInBounds_toArray, List.set_cons_zero, List.set_cons_succ]
          refine wpAnyH_take (i := 10) (oi := ?o10) (v := ?v10) ?h10 (by kernel_rfl) (by kernel_rfl) (by kernel_rfl) ?q10 (Or.inl ⟨?w10, ?y10⟩) hS ?r10
          case h10 => (simp only [List.getElem?_toArray, List.getElem?_cons_succ, List.getElem?_cons_zero]; rfl)
          case w10 => rfl
          case q10 => exact fun _ _ _ h => h
          case y10 =>
            intro w' hSw
            try dsimp only at hSw
            go_simp
            with_reducible rfl
          try simp only [Act.put, List.setIfInBounds_toArray, List.set_cons_zero, List.set_cons_succ]
          refine wpAnyH_take (i := 11) (oi := ?o11) (v := ?v11) ?h11 (by kernel_rfl) (by kernel_rfl) (by kernel_rfl) ?q11 (Or.inl ⟨?w11, ?y11⟩) hS ?r11
          case h11 => (simp only [List.getElem?_toArray, List.getElem?_cons_succ, List.getElem?_cons_zero]; rfl)
          case w11 => rfl
          case q11 => exact fun _ _ _ h => h
          case y11 =>
            intro w' hSw
            try dsimp only at hSw
            go_simp
            with_reducible rfl
          try simp only [Act.put, List.setIfInBounds_toArray, List.set_cons_zero, List.set_cons_succ]
          refine wpAnyH_take (i := 12) (oi := ?o12) (v := ?v12) ?h12 (by kernel_rfl) (by kernel_rfl) (by kernel_rfl) ?q12 (Or.inl ⟨?w12, ?y12⟩) hS ?r12
          case h12 => (simp only [List.getElem?_toArray, List.getElem?_cons_succ, List.getElem?_cons_zero]; rfl)
          case w12 => rfl
          case q12 => exact fun _ _ _ h => h
          case y12 =>
            intro w' hSw
            try dsimp only at hSw
            go_simp
            with_reducible rfl
          try simp only [Act.put, List.setIfInBounds_toArray, List.set_cons_zero, List.set_cons_succ]
          refine wpAnyH_ready (rs := [13]) (by kernel_rfl) (by simp) ?_
          refine AllReadyH.cons (o := ?o13) ?h13 (fun K hK => ?_) AllReadyH.nil
          case h13 => (simp only [List.getElem?_toArray, List.getElem?_cons_succ, List.getElem?_cons_zero]; rfl)
          go_simp
          refine (unhide CA).mono ?_
          rintro e w5 ⟨p, rfl, hp, hfb, hb5⟩
          have S5 := unhide SA w5 hb5
          have HP5 := hide hp
          have HFB := hide hfb
          have HB5 := hide hb5
          clear hp hfb hb5
          refine hK.out _ _ (S5) (fun hS => ?_)
          clear hK K
          try simp only [Act.put, List.setIfInBounds_toArray, List.set_cons_zero, List.set_cons_succ]
          clear S5
          refine wpAnyH_take (i := 14) (oi := ?o14) (v := ?v14) ?h14 (by kernel_rfl) (by kernel_rfl) (by kernel_rfl) ?q14 (Or.inl ⟨?w14, ?y14⟩) hS ?r14
          case h14 => (simp only [List.getElem?_toArray, List.getElem?_cons_succ, List.getElem?_cons_zero]; rfl)
          case w14 => rfl
          case q14 => exact fun _ _ _ h => h
          case y14 =>
            intro w' hSw
            try dsimp only at hSw
            go_simp
            with_reducible rfl
          try simp only [Act.put, List.setIfInBounds_toArray, List.set_cons_zero, List.set_cons_succ]
          refine wpAnyH_ready (rs := [15]) (by kernel_rfl) (by simp) ?_
          refine AllReadyH.cons (o := ?o15) ?h15 (fun K hK => ?_) AllReadyH.nil
          case h15 => (simp only [List.getElem?_toArray, List.getElem?_cons_succ, List.getElem?_cons_zero]; rfl)
          go_simp
          refine hK.out _ _ (unhide SA _ ((unhide HB5).alloc (unhide HB5).size _)) (fun hS => ?_)
          clear hK K
          try simp only [Act.put, List.setIfInBounds_toArray, List.set_cons_zero, List.set_cons_succ]
          refine wpAnyH_ready (rs := [16]) (by kernel_rfl) (by simp) ?_
          refine AllReadyH.cons (o := ?o16) ?h16 (fun K hK => ?_) AllReadyH.nil
          case h16 => (simp only [List.getElem?_toArray, List.getElem?_cons_succ, List.getElem?_cons_zero]; rfl)
          refine step_append_lies _ (by rfl) _ _ _ (by rfl) 0 45 i6 _ 6 80 Try.underlying37 (unhide HI6) (unhide HY0) (unhide HY1) (unhide HY2) (by rfl) (by omega) (.slice aa X ac) X (ecells xs 0) (by rfl) (unhide HRow _ ((unhide HB5).alloc (unhide HB5).size _)) ⟨w5.heap.size, 0, none⟩ 1 1 [.int .i64 (X : Int), sv s, .int .i64 num, sv ft, .int .i64 fv, .slice (some ⟨p, 0, none⟩) M M] (by rfl) (by rfl) (World.news_of_block (cs := #[.int .i64 (X : Int), sv s, .int .i64 num, sv ft, .int .i64 fv, .slice (some ⟨p, 0, none⟩) M M]) (t := 45) (fr := (0, 0)) (heap_alloc_new w5 _)) (by intro u hu; simp at hu; rcases hu with rfl | rfl | rfl | rfl | rfl | rfl <;> rfl) (by omega) (by unfold maxLen; omega) (by omega) (Nat.zero_le _) (w5.heap.size + 1) (by simp) ?_
          intro ga cap6 W6 hown6 hgrow6 hat6 hlt6
          have S6 := hide (unhide HS6 w5 W6 _ (unhide HB5) hgrow6)
          refine hK.out _ _ (⟨(unhide S6).1.1, (unhide S6).1.2.1, (unhide S6).1.2.2.1, (unhide S6).1.2.2.2.1, (unhide S6).1.2.2.2.2, (unhide S6).2.1⟩) (fun hS => ?_)
          clear hK K
          try simp only [Act.put, List.setIfInBounds_toArray, List.set_cons_zero, List.set_cons_succ]
          refine wpAnyH_take (i := 17) (oi := ?o17) (v := ?v17) ?h17 (by kernel_rfl) (by kernel_rfl) (by kernel_rfl) ?q17 (Or.inl ⟨?w17, ?y17⟩) hS ?r17
          case h17 => (simp only [List.getElem?_toArray, List.getElem?_cons_succ, List.getElem?_cons_zero]; rfl)
          case w17 => rfl
          case q17 => exact fun _ _ _ h => h
          case y17 =>
            intro w' hSw
            try dsimp only at hSw
            go_simp
            with_reducible rfl
          try simp only [Act.put, List.setIfInBounds_toArray, List.set_cons_zero, List.set_cons_succ]
          refine wpAnyH_take (i := 18) (oi := ?o18) (v := ?v18) ?h18 (by kernel_rfl) (by kernel_rfl) (by kernel_rfl) ?q18 (Or.inl ⟨?w18, ?y18⟩) hS ?r18
          case h18 => (simp only [List.getElem?_toArray, List.getElem?_cons_succ, List.getElem?_cons_zero]; rfl)
          case w18 => rfl
          case q18 => exact fun _ _ _ h => h
          case y18 =>
            intro w' hSw
            try dsimp only at hSw
            go_simp
            with_reducible rfl
          try simp only [Act.put, List.setIfInBounds_toArray, List.set_cons_zero, List.set_cons_succ]
          have u6 := (unhide S6).2.1
          have fz6 := (unhide S6).2.2.1
          refine wpAnyH_done (by kernel_rfl) ?_ _
          unfold peelQ
          go_simp
          have NXT := hide (unhide FIN w5 W6 p ga cap6 (unhide HP5) (unhide HFB) (unhide HB5) hown6 hgrow6 hat6)
          clear HP5 HFB HB5 hown6 hgrow6 hat6 hlt6 FIN CA S0 NX HC0 HS6 HRow S6 SA
          go_wp2
          go_roundw
          case rel => exact ⟨j + 1, by go_num, by omega, NXT⟩
          case measure => simp [intOf]; omega
      · obtain rfl : j = en := by omega
        have HP : Hid (Kept F w wr ∧ ∃ xs' av' pf' D1' D2', IxIn wr G st mp mk (N + 1 + es.length) (I.added s k fi es) xs' av' pf' D1' D2') := hide (by
          have st := unhide ST
          have e := unhide HN
          have e2 := unhide HK
          rw [e, List.take_length, e2, e] at st
          exact ⟨unhide HEND _ st.kept, st.ix⟩)
        go_wp2
        go_end0
        exact ⟨rfl, unhide HP⟩
end Go.Proofs.Ytgpijeaehkabdaa

/-
  DERIVED. The walks of the state's try, by cases.
-/
namespace Go.Proofs.Ytgpijeaehkabdaa
open Go.RowKit Go.Maps
set_option linter.unusedVariables false

set_option maxRecDepth 20000 in
set_option maxHeartbeats 4000000 in
theorem try_names0 {w : World} {F : Nat → Prop} {st mp mk N : Nat} {I : Ix} {xs : List (Ent × Nat)} {av : Value} {pf : List UInt8 → Value} {D1 D2 : DataW Value} (h : IxIn w F st mp mk N I xs av pf D1 D2) (a : Option Addr) (n c : Nat) (ha : av = .slice a n c) (s : List UInt8) (hs : s.length ≤ maxLen) (x : Int) (k : List UInt8) (hk : k.length ≤ maxLen) (ea : Option Addr) (en ec : Nat) (es : List Evn) (hv : EvL w (.slice ea en ec) es) (hfit : ∀ e ∈ es, fitE e) (hn : ¬ okNames s k) (hky : I.key k = none) :
    Calls Try.prog 24 #[.agg (stV (.slice a n c) (some mp) (some mk)), sv s, .int .i64 x, sv k, .slice ea en ec] w (TrPost (apV 0 0 0 false, 100) w) := by
  have hsl : s.length ≤ 9223372036854775807 := hs
  have hkl : k.length ≤ 9223372036854775807 := hk
  have lmp := h.mpo.lt
  have lmk := h.mko.lt
  obtain ⟨w1, hw1⟩ : ∃ w1, w1 = (w.alloc (.cells (stV (.slice a n c) (some mp) (some mk)) 68)).alloc (.cells (apV 0 0 0 false) 27) := ⟨_, rfl⟩
  have b1 : Below w.heap.size w w1 := by rw [hw1]; exact ((Below.refl _ _).alloc (Nat.le_refl _) _).alloc (by simp) _
  have z1 : w1.heap.size = w.heap.size + 2 := by rw [hw1]; simp
  have VC := hide (version_go h a n c ha s hs w1 (b1.block mp lmp))
  have HS1 : w1.heap[w.heap.size]? = some (.cells (stV (.slice a n c) (some mp) (some mk)) 68 (0, 0)) := by rw [hw1, Below.heap_alloc _ _ _ (by simp)]; exact heap_alloc_self _ _
  have HA1 : ABox w1 (w.heap.size + 1) 0 0 0 false := by
    unfold ABox; rw [hw1, show w.heap.size + 1 = (w.alloc (.cells (stV (.slice a n c) (some mp) (some mk)) 68)).heap.size by simp]; exact heap_alloc_self _ _
  have Z1 := hide z1
  have HI := hide h
  have hxl : n = xs.length := by obtain ⟨a', c', e⟩ := h.avs; rw [ha] at e; cases e; rfl
  have HXL : Hid ((n : Int) = I.all.length) := hide (by rw [hxl, ← h.all, List.length_map])
  have HEL : Hid ((en : Int) = es.length) := hide (by obtain ⟨_, _, e, _⟩ := hv; cases e; rfl)
  have B1 := hide b1
  have HV := hide hv
  have HFI := hide hfit
  have s1 : w1.cell? ⟨w.heap.size, 0, none⟩ = some (.slice a n c) := (cell_of_row _ _ _ _ _ _ HS1).trans rfl
  have s2 : w1.cell? ⟨w.heap.size, 1, none⟩ = some (.map (some mp)) := (cell_of_row _ _ _ _ _ _ HS1).trans rfl
  have s3 : w1.cell? ⟨w.heap.size, 2, none⟩ = some (.map (some mk)) := (cell_of_row _ _ _ _ _ _ HS1).trans rfl
  have HS := hide HS1
  have HA := hide HA1
  have NA := hide (namesAllowed_any s k)
  have HNA := hide (ans_false hn)
  have HKEY := hide hky

  clear h b1 z1 HS1 HA1 hv hfit hxl hs hk
  go_enter Try.func24, Try.ntmps24
  go_upto_region 1 with fail
  rw [← hw1]
  clear hw1
  go_wp2_with fail
  refine (unhide VC).mono ?_
  rintro e w2 ⟨rfl, b2⟩
  have B2 := hide ((unhide B1).trans (b2.mono (by have := unhide Z1; omega)))
  have z2 : w.heap.size + 1 < w2.heap.size := by have := b2.size; have := unhide Z1; omega
  have HS2 := (b2.block w.heap.size (by have := unhide Z1; omega)).trans (unhide HS)
  have HA2 := (unhide HA).same (b2.block (w.heap.size + 1) (by have := unhide Z1; omega))
  obtain ⟨w3, hw3⟩ : ∃ w3, w3 = w2.alloc (.cells (kdA [] 0 0 0 false) 84) := ⟨_, rfl⟩
  have hlk := (unhide HI).lookK (W := w2) ((b2.block mk (by have := unhide Z1; omega)).trans ((unhide B1).block mk lmk)) k hkl
  rw [unhide HKEY] at hlk
  simp only [kdV, Option.isSome_none] at hlk
  have t1 : w2.cell? ⟨w.heap.size, 0, none⟩ = some (.slice a n c) := (cell_of_row _ _ _ _ _ _ HS2).trans rfl
  have t2 : w2.cell? ⟨w.heap.size, 1, none⟩ = some (.map (some mp)) := (cell_of_row _ _ _ _ _ _ HS2).trans rfl
  have t3 : w2.cell? ⟨w.heap.size, 2, none⟩ = some (.map (some mk)) := (cell_of_row _ _ _ _ _ _ HS2).trans rfl
  have b3 : Below w2.heap.size w2 w3 := by rw [hw3]; exact (Below.refl _ _).alloc (Nat.le_refl _) _
  have HA3 := HA2.same (b3.block _ z2)
  have HS3 := (b3.block w.heap.size (by omega)).trans HS2
  have HK3 : w3.heap[w2.heap.size]? = some (.cells (kdA [] 0 0 0 false) 84 (0, 0)) := by rw [hw3]; exact heap_alloc_self _ _
  have u1 : w3.cell? ⟨w.heap.size, 0, none⟩ = some (.slice a n c) := (cell_of_row _ _ _ _ _ _ HS3).trans rfl
  obtain ⟨a0, a1, a2, a3, a4⟩ := HA3.cells
  have B3 := hide ((unhide B2).trans (b3.mono (unhide B2).size))
  have z3 : w.heap.size + 1 < w3.heap.size := by have := b3.size; omega
  have HAA := hide HA3
  have HSS := hide HS3
  have HKK := hide HK3
  clear b2 b3 HS2 HA2 VC HS HA s1 s2 s3 HA3 HS3 HK3
  go_upto_region 3 with fail
  rw [← hw3]
  clear hw3 hlk t1 t2 t3
  obtain ⟨kb, hkb⟩ : ∃ kb, kb = w2.heap.size := ⟨_, rfl⟩
  rw [← hkb] at HKK ⊢
  have hkz : w.heap.size + 1 < kb := by omega
  clear hkb z2
  go_wp2_with fail
  refine (unhide NA w3 hsl hkl).mono ?_
  rintro e w4 ⟨rfl, rfl⟩
  rw [unhide HNA]
  have HE := hide ((unhide HAA).put 0 0 0 false)
  have BE := hide (below_put (unhide B3) (Nat.le_succ _) 0 0 0 false)
  go_wp2
  exact bodyPost_ret (results_ct rfl _ _ (w.heap.size + 1) 27 (apV 0 0 0 false) (0, 0) _ (.int .i64 100) rfl rfl (unhide HE) Try.underlying27 rfl sizeApp) rfl ⟨rfl, unhide BE⟩

set_option maxRecDepth 20000 in
set_option maxHeartbeats 4000000 in
theorem try_names1 {w : World} {F : Nat → Prop} {st mp mk N : Nat} {I : Ix} {xs : List (Ent × Nat)} {av : Value} {pf : List UInt8 → Value} {D1 D2 : DataW Value} (h : IxIn w F st mp mk N I xs av pf D1 D2) (a : Option Addr) (n c : Nat) (ha : av = .slice a n c) (s : List UInt8) (hs : s.length ≤ maxLen) (x : Int) (k : List UInt8) (hk : k.length ≤ maxLen) (ea : Option Addr) (en ec : Nat) (es : List Evn) (hv : EvL w (.slice ea en ec) es) (hfit : ∀ e ∈ es, fitE e) (hn : ¬ okNames s k) (ds : List UInt8) (df dp dc : Nat) (hky : I.key k = some ⟨ds, df, dp, dc⟩) :
    Calls Try.prog 24 #[.agg (stV (.slice a n c) (some mp) (some mk)), sv s, .int .i64 x, sv k, .slice ea en ec] w (TrPost (apV 0 0 0 false, 100) w) := by
  have hsl : s.length ≤ 9223372036854775807 := hs
  have hkl : k.length ≤ 9223372036854775807 := hk
  have lmp := h.mpo.lt
  have lmk := h.mko.lt
  obtain ⟨w1, hw1⟩ : ∃ w1, w1 = (w.alloc (.cells (stV (.slice a n c) (some mp) (some mk)) 68)).alloc (.cells (apV 0 0 0 false) 27) := ⟨_, rfl⟩
  have b1 : Below w.heap.size w w1 := by rw [hw1]; exact ((Below.refl _ _).alloc (Nat.le_refl _) _).alloc (by simp) _
  have z1 : w1.heap.size = w.heap.size + 2 := by rw [hw1]; simp
  have VC := hide (version_go h a n c ha s hs w1 (b1.block mp lmp))
  have HS1 : w1.heap[w.heap.size]? = some (.cells (stV (.slice a n c) (some mp) (some mk)) 68 (0, 0)) := by rw [hw1, Below.heap_alloc _ _ _ (by simp)]; exact heap_alloc_self _ _
  have HA1 : ABox w1 (w.heap.size + 1) 0 0 0 false := by
    unfold ABox; rw [hw1, show w.heap.size + 1 = (w.alloc (.cells (stV (.slice a n c) (some mp) (some mk)) 68)).heap.size by simp]; exact heap_alloc_self _ _
  have Z1 := hide z1
  have HI := hide h
  have hxl : n = xs.length := by obtain ⟨a', c', e⟩ := h.avs; rw [ha] at e; cases e; rfl
  have HXL : Hid ((n : Int) = I.all.length) := hide (by rw [hxl, ← h.all, List.length_map])
  have HEL : Hid ((en : Int) = es.length) := hide (by obtain ⟨_, _, e, _⟩ := hv; cases e; rfl)
  have B1 := hide b1
  have HV := hide hv
  have HFI := hide hfit
  have s1 : w1.cell? ⟨w.heap.size, 0, none⟩ = some (.slice a n c) := (cell_of_row _ _ _ _ _ _ HS1).trans rfl
  have s2 : w1.cell? ⟨w.heap.size, 1, none⟩ = some (.map (some mp)) := (cell_of_row _ _ _ _ _ _ HS1).trans rfl
  have s3 : w1.cell? ⟨w.heap.size, 2, none⟩ = some (.map (some mk)) := (cell_of_row _ _ _ _ _ _ HS1).trans rfl
  have HS := hide HS1
  have HA := hide HA1
  have NA := hide (namesAllowed_any s k)
  have HNA := hide (ans_false hn)
  have HKEY := hide hky

  clear h b1 z1 HS1 HA1 hv hfit hxl hs hk
  go_enter Try.func24, Try.ntmps24
  go_upto_region 1 with fail
  rw [← hw1]
  clear hw1
  go_wp2_with fail
  refine (unhide VC).mono ?_
  rintro e w2 ⟨rfl, b2⟩
  have B2 := hide ((unhide B1).trans (b2.mono (by have := unhide Z1; omega)))
  have z2 : w.heap.size + 1 < w2.heap.size := by have := b2.size; have := unhide Z1; omega
  have HS2 := (b2.block w.heap.size (by have := unhide Z1; omega)).trans (unhide HS)
  have HA2 := (unhide HA).same (b2.block (w.heap.size + 1) (by have := unhide Z1; omega))
  obtain ⟨w3, hw3⟩ : ∃ w3, w3 = w2.alloc (.cells (kdA ds df dp dc false) 84) := ⟨_, rfl⟩
  have hlk := (unhide HI).lookK (W := w2) ((b2.block mk (by have := unhide Z1; omega)).trans ((unhide B1).block mk lmk)) k hkl
  rw [unhide HKEY] at hlk
  simp only [kdV, Option.isSome_some] at hlk
  have t1 : w2.cell? ⟨w.heap.size, 0, none⟩ = some (.slice a n c) := (cell_of_row _ _ _ _ _ _ HS2).trans rfl
  have t2 : w2.cell? ⟨w.heap.size, 1, none⟩ = some (.map (some mp)) := (cell_of_row _ _ _ _ _ _ HS2).trans rfl
  have t3 : w2.cell? ⟨w.heap.size, 2, none⟩ = some (.map (some mk)) := (cell_of_row _ _ _ _ _ _ HS2).trans rfl
  have b3 : Below w2.heap.size w2 w3 := by rw [hw3]; exact (Below.refl _ _).alloc (Nat.le_refl _) _
  have HA3 := HA2.same (b3.block _ z2)
  have HS3 := (b3.block w.heap.size (by omega)).trans HS2
  have HK3 : w3.heap[w2.heap.size]? = some (.cells (kdA ds df dp dc false) 84 (0, 0)) := by rw [hw3]; exact heap_alloc_self _ _
  have u1 : w3.cell? ⟨w.heap.size, 0, none⟩ = some (.slice a n c) := (cell_of_row _ _ _ _ _ _ HS3).trans rfl
  obtain ⟨a0, a1, a2, a3, a4⟩ := HA3.cells
  have B3 := hide ((unhide B2).trans (b3.mono (unhide B2).size))
  have z3 : w.heap.size + 1 < w3.heap.size := by have := b3.size; omega
  have HAA := hide HA3
  have HSS := hide HS3
  have HKK := hide HK3
  clear b2 b3 HS2 HA2 VC HS HA s1 s2 s3 HA3 HS3 HK3
  go_upto_region 3 with fail
  rw [← hw3]
  clear hw3 hlk t1 t2 t3
  obtain ⟨kb, hkb⟩ : ∃ kb, kb = w2.heap.size := ⟨_, rfl⟩
  rw [← hkb] at HKK ⊢
  have hkz : w.heap.size + 1 < kb := by omega
  clear hkb z2
  go_wp2_with fail
  refine (unhide NA w3 hsl hkl).mono ?_
  rintro e w4 ⟨rfl, rfl⟩
  rw [unhide HNA]
  have HE := hide ((unhide HAA).put 0 0 0 false)
  have BE := hide (below_put (unhide B3) (Nat.le_succ _) 0 0 0 false)
  go_wp2
  exact bodyPost_ret (results_ct rfl _ _ (w.heap.size + 1) 27 (apV 0 0 0 false) (0, 0) _ (.int .i64 100) rfl rfl (unhide HE) Try.underlying27 rfl sizeApp) rfl ⟨rfl, unhide BE⟩

set_option maxRecDepth 20000 in
set_option maxHeartbeats 4000000 in
theorem try_key {w : World} {F : Nat → Prop} {st mp mk N : Nat} {I : Ix} {xs : List (Ent × Nat)} {av : Value} {pf : List UInt8 → Value} {D1 D2 : DataW Value} (h : IxIn w F st mp mk N I xs av pf D1 D2) (a : Option Addr) (n c : Nat) (ha : av = .slice a n c) (s : List UInt8) (hs : s.length ≤ maxLen) (x : Int) (k : List UInt8) (hk : k.length ≤ maxLen) (ea : Option Addr) (en ec : Nat) (es : List Evn) (hv : EvL w (.slice ea en ec) es) (hfit : ∀ e ∈ es, fitE e) (hn : okNames s k) (ds : List UInt8) (df dp dc : Nat) (hky : I.key k = some ⟨ds, df, dp, dc⟩) (hne : ds ≠ s) :
    Calls Try.prog 24 #[.agg (stV (.slice a n c) (some mp) (some mk)), sv s, .int .i64 x, sv k, .slice ea en ec] w (TrPost (apV 0 0 0 false, 101) w) := by
  have hsl : s.length ≤ 9223372036854775807 := hs
  have hkl : k.length ≤ 9223372036854775807 := hk
  have lmp := h.mpo.lt
  have lmk := h.mko.lt
  obtain ⟨w1, hw1⟩ : ∃ w1, w1 = (w.alloc (.cells (stV (.slice a n c) (some mp) (some mk)) 68)).alloc (.cells (apV 0 0 0 false) 27) := ⟨_, rfl⟩
  have b1 : Below w.heap.size w w1 := by rw [hw1]; exact ((Below.refl _ _).alloc (Nat.le_refl _) _).alloc (by simp) _
  have z1 : w1.heap.size = w.heap.size + 2 := by rw [hw1]; simp
  have VC := hide (version_go h a n c ha s hs w1 (b1.block mp lmp))
  have HS1 : w1.heap[w.heap.size]? = some (.cells (stV (.slice a n c) (some mp) (some mk)) 68 (0, 0)) := by rw [hw1, Below.heap_alloc _ _ _ (by simp)]; exact heap_alloc_self _ _
  have HA1 : ABox w1 (w.heap.size + 1) 0 0 0 false := by
    unfold ABox; rw [hw1, show w.heap.size + 1 = (w.alloc (.cells (stV (.slice a n c) (some mp) (some mk)) 68)).heap.size by simp]; exact heap_alloc_self _ _
  have Z1 := hide z1
  have HI := hide h
  have hxl : n = xs.length := by obtain ⟨a', c', e⟩ := h.avs; rw [ha] at e; cases e; rfl
  have HXL : Hid ((n : Int) = I.all.length) := hide (by rw [hxl, ← h.all, List.length_map])
  have HEL : Hid ((en : Int) = es.length) := hide (by obtain ⟨_, _, e, _⟩ := hv; cases e; rfl)
  have B1 := hide b1
  have HV := hide hv
  have HFI := hide hfit
  have s1 : w1.cell? ⟨w.heap.size, 0, none⟩ = some (.slice a n c) := (cell_of_row _ _ _ _ _ _ HS1).trans rfl
  have s2 : w1.cell? ⟨w.heap.size, 1, none⟩ = some (.map (some mp)) := (cell_of_row _ _ _ _ _ _ HS1).trans rfl
  have s3 : w1.cell? ⟨w.heap.size, 2, none⟩ = some (.map (some mk)) := (cell_of_row _ _ _ _ _ _ HS1).trans rfl
  have HS := hide HS1
  have HA := hide HA1
  have NA := hide (namesAllowed_any s k)
  have HNA := hide (ans_true hn)
  have HKEY := hide hky
  have hdq : (ds == s) = false := beq_eq_false_iff_ne.2 hne
  clear hne

  clear h b1 z1 HS1 HA1 hv hfit hxl hs hk
  go_enter Try.func24, Try.ntmps24
  go_upto_region 1 with fail
  rw [← hw1]
  clear hw1
  go_wp2_with fail
  refine (unhide VC).mono ?_
  rintro e w2 ⟨rfl, b2⟩
  have B2 := hide ((unhide B1).trans (b2.mono (by have := unhide Z1; omega)))
  have z2 : w.heap.size + 1 < w2.heap.size := by have := b2.size; have := unhide Z1; omega
  have HS2 := (b2.block w.heap.size (by have := unhide Z1; omega)).trans (unhide HS)
  have HA2 := (unhide HA).same (b2.block (w.heap.size + 1) (by have := unhide Z1; omega))
  obtain ⟨w3, hw3⟩ : ∃ w3, w3 = w2.alloc (.cells (kdA ds df dp dc false) 84) := ⟨_, rfl⟩
  have hlk := (unhide HI).lookK (W := w2) ((b2.block mk (by have := unhide Z1; omega)).trans ((unhide B1).block mk lmk)) k hkl
  rw [unhide HKEY] at hlk
  simp only [kdV, Option.isSome_some] at hlk
  have t1 : w2.cell? ⟨w.heap.size, 0, none⟩ = some (.slice a n c) := (cell_of_row _ _ _ _ _ _ HS2).trans rfl
  have t2 : w2.cell? ⟨w.heap.size, 1, none⟩ = some (.map (some mp)) := (cell_of_row _ _ _ _ _ _ HS2).trans rfl
  have t3 : w2.cell? ⟨w.heap.size, 2, none⟩ = some (.map (some mk)) := (cell_of_row _ _ _ _ _ _ HS2).trans rfl
  have b3 : Below w2.heap.size w2 w3 := by rw [hw3]; exact (Below.refl _ _).alloc (Nat.le_refl _) _
  have HA3 := HA2.same (b3.block _ z2)
  have HS3 := (b3.block w.heap.size (by omega)).trans HS2
  have HK3 : w3.heap[w2.heap.size]? = some (.cells (kdA ds df dp dc false) 84 (0, 0)) := by rw [hw3]; exact heap_alloc_self _ _
  have u1 : w3.cell? ⟨w.heap.size, 0, none⟩ = some (.slice a n c) := (cell_of_row _ _ _ _ _ _ HS3).trans rfl
  obtain ⟨a0, a1, a2, a3, a4⟩ := HA3.cells
  have B3 := hide ((unhide B2).trans (b3.mono (unhide B2).size))
  have z3 : w.heap.size + 1 < w3.heap.size := by have := b3.size; omega
  have HAA := hide HA3
  have HSS := hide HS3
  have HKK := hide HK3
  clear b2 b3 HS2 HA2 VC HS HA s1 s2 s3 HA3 HS3 HK3
  go_upto_region 3 with fail
  rw [← hw3]
  clear hw3 hlk t1 t2 t3
  obtain ⟨kb, hkb⟩ : ∃ kb, kb = w2.heap.size := ⟨_, rfl⟩
  rw [← hkb] at HKK ⊢
  have hkz : w.heap.size + 1 < kb := by omega
  clear hkb z2
  go_wp2_with fail
  refine (unhide NA w3 hsl hkl).mono ?_
  rintro e w4 ⟨rfl, rfl⟩
  rw [unhide HNA]
  obtain ⟨k0, k1, k2, k3, k4, k5⟩ : w3.cell? ⟨kb, 0, none⟩ = some (sv ds) ∧ w3.cell? ⟨kb, 1, none⟩ = some (.int .i64 df) ∧ w3.cell? ⟨kb, 2, none⟩ = some (.int .i64 dp) ∧ w3.cell? ⟨kb, 3, none⟩ = some (.int .i64 dc) ∧ w3.cell? ⟨kb, 4, none⟩ = some (.bool false) ∧ ∀ i, w3.frozen? ⟨kb, i, none⟩ = false :=
    ⟨(cell_of_row _ _ _ _ _ _ (unhide HKK)).trans rfl, (cell_of_row _ _ _ _ _ _ (unhide HKK)).trans rfl, (cell_of_row _ _ _ _ _ _ (unhide HKK)).trans rfl, (cell_of_row _ _ _ _ _ _ (unhide HKK)).trans rfl, (cell_of_row _ _ _ _ _ _ (unhide HKK)).trans rfl, fun i => by simp [World.frozen?, unhide HKK]⟩
  have HE := hide ((unhide HAA).put 0 0 0 false)
  have BE := hide (below_put (unhide B3) (Nat.le_succ _) 0 0 0 false)
  go_wp2
  exact bodyPost_ret (results_ct rfl _ _ (w.heap.size + 1) 27 (apV 0 0 0 false) (0, 0) _ (.int .i64 101) rfl rfl (unhide HE) Try.underlying27 rfl sizeApp) rfl ⟨rfl, unhide BE⟩

set_option maxRecDepth 20000 in
set_option maxHeartbeats 4000000 in
theorem try_again {w : World} {F : Nat → Prop} {st mp mk N : Nat} {I : Ix} {xs : List (Ent × Nat)} {av : Value} {pf : List UInt8 → Value} {D1 D2 : DataW Value} (h : IxIn w F st mp mk N I xs av pf D1 D2) (a : Option Addr) (n c : Nat) (ha : av = .slice a n c) (s : List UInt8) (hs : s.length ≤ maxLen) (x : Int) (k : List UInt8) (hk : k.length ≤ maxLen) (ea : Option Addr) (en ec : Nat) (es : List Evn) (hv : EvL w (.slice ea en ec) es) (hfit : ∀ e ∈ es, fitE e) (hn : okNames s k) (ds : List UInt8) (df dp dc : Nat) (hky : I.key k = some ⟨ds, df, dp, dc⟩) (heq : ds = s) :
    Calls Try.prog 24 #[.agg (stV (.slice a n c) (some mp) (some mk)), sv s, .int .i64 x, sv k, .slice ea en ec] w (TrPost (apV df dp dc true, 0) w) := by
  have hsl : s.length ≤ 9223372036854775807 := hs
  have hkl : k.length ≤ 9223372036854775807 := hk
  have lmp := h.mpo.lt
  have lmk := h.mko.lt
  obtain ⟨w1, hw1⟩ : ∃ w1, w1 = (w.alloc (.cells (stV (.slice a n c) (some mp) (some mk)) 68)).alloc (.cells (apV 0 0 0 false) 27) := ⟨_, rfl⟩
  have b1 : Below w.heap.size w w1 := by rw [hw1]; exact ((Below.refl _ _).alloc (Nat.le_refl _) _).alloc (by simp) _
  have z1 : w1.heap.size = w.heap.size + 2 := by rw [hw1]; simp
  have VC := hide (version_go h a n c ha s hs w1 (b1.block mp lmp))
  have HS1 : w1.heap[w.heap.size]? = some (.cells (stV (.slice a n c) (some mp) (some mk)) 68 (0, 0)) := by rw [hw1, Below.heap_alloc _ _ _ (by simp)]; exact heap_alloc_self _ _
  have HA1 : ABox w1 (w.heap.size + 1) 0 0 0 false := by
    unfold ABox; rw [hw1, show w.heap.size + 1 = (w.alloc (.cells (stV (.slice a n c) (some mp) (some mk)) 68)).heap.size by simp]; exact heap_alloc_self _ _
  have Z1 := hide z1
  have HI := hide h
  have hxl : n = xs.length := by obtain ⟨a', c', e⟩ := h.avs; rw [ha] at e; cases e; rfl
  have HXL : Hid ((n : Int) = I.all.length) := hide (by rw [hxl, ← h.all, List.length_map])
  have HEL : Hid ((en : Int) = es.length) := hide (by obtain ⟨_, _, e, _⟩ := hv; cases e; rfl)
  have B1 := hide b1
  have HV := hide hv
  have HFI := hide hfit
  have s1 : w1.cell? ⟨w.heap.size, 0, none⟩ = some (.slice a n c) := (cell_of_row _ _ _ _ _ _ HS1).trans rfl
  have s2 : w1.cell? ⟨w.heap.size, 1, none⟩ = some (.map (some mp)) := (cell_of_row _ _ _ _ _ _ HS1).trans rfl
  have s3 : w1.cell? ⟨w.heap.size, 2, none⟩ = some (.map (some mk)) := (cell_of_row _ _ _ _ _ _ HS1).trans rfl
  have HS := hide HS1
  have HA := hide HA1
  have NA := hide (namesAllowed_any s k)
  have HNA := hide (ans_true hn)
  have HKEY := hide hky
  have hdq : (ds == s) = true := beq_iff_eq.2 heq
  clear heq

  clear h b1 z1 HS1 HA1 hv hfit hxl hs hk
  go_enter Try.func24, Try.ntmps24
  go_upto_region 1 with fail
  rw [← hw1]
  clear hw1
  go_wp2_with fail
  refine (unhide VC).mono ?_
  rintro e w2 ⟨rfl, b2⟩
  have B2 := hide ((unhide B1).trans (b2.mono (by have := unhide Z1; omega)))
  have z2 : w.heap.size + 1 < w2.heap.size := by have := b2.size; have := unhide Z1; omega
  have HS2 := (b2.block w.heap.size (by have := unhide Z1; omega)).trans (unhide HS)
  have HA2 := (unhide HA).same (b2.block (w.heap.size + 1) (by have := unhide Z1; omega))
  obtain ⟨w3, hw3⟩ : ∃ w3, w3 = w2.alloc (.cells (kdA ds df dp dc false) 84) := ⟨_, rfl⟩
  have hlk := (unhide HI).lookK (W := w2) ((b2.block mk (by have := unhide Z1; omega)).trans ((unhide B1).block mk lmk)) k hkl
  rw [unhide HKEY] at hlk
  simp only [kdV, Option.isSome_some] at hlk
  have t1 : w2.cell? ⟨w.heap.size, 0, none⟩ = some (.slice a n c) := (cell_of_row _ _ _ _ _ _ HS2).trans rfl
  have t2 : w2.cell? ⟨w.heap.size, 1, none⟩ = some (.map (some mp)) := (cell_of_row _ _ _ _ _ _ HS2).trans rfl
  have t3 : w2.cell? ⟨w.heap.size, 2, none⟩ = some (.map (some mk)) := (cell_of_row _ _ _ _ _ _ HS2).trans rfl
  have b3 : Below w2.heap.size w2 w3 := by rw [hw3]; exact (Below.refl _ _).alloc (Nat.le_refl _) _
  have HA3 := HA2.same (b3.block _ z2)
  have HS3 := (b3.block w.heap.size (by omega)).trans HS2
  have HK3 : w3.heap[w2.heap.size]? = some (.cells (kdA ds df dp dc false) 84 (0, 0)) := by rw [hw3]; exact heap_alloc_self _ _
  have u1 : w3.cell? ⟨w.heap.size, 0, none⟩ = some (.slice a n c) := (cell_of_row _ _ _ _ _ _ HS3).trans rfl
  obtain ⟨a0, a1, a2, a3, a4⟩ := HA3.cells
  have B3 := hide ((unhide B2).trans (b3.mono (unhide B2).size))
  have z3 : w.heap.size + 1 < w3.heap.size := by have := b3.size; omega
  have HAA := hide HA3
  have HSS := hide HS3
  have HKK := hide HK3
  clear b2 b3 HS2 HA2 VC HS HA s1 s2 s3 HA3 HS3 HK3
  go_upto_region 3 with fail
  rw [← hw3]
  clear hw3 hlk t1 t2 t3
  obtain ⟨kb, hkb⟩ : ∃ kb, kb = w2.heap.size := ⟨_, rfl⟩
  rw [← hkb] at HKK ⊢
  have hkz : w.heap.size + 1 < kb := by omega
  clear hkb z2
  go_wp2_with fail
  refine (unhide NA w3 hsl hkl).mono ?_
  rintro e w4 ⟨rfl, rfl⟩
  rw [unhide HNA]
  obtain ⟨k0, k1, k2, k3, k4, k5⟩ : w3.cell? ⟨kb, 0, none⟩ = some (sv ds) ∧ w3.cell? ⟨kb, 1, none⟩ = some (.int .i64 df) ∧ w3.cell? ⟨kb, 2, none⟩ = some (.int .i64 dp) ∧ w3.cell? ⟨kb, 3, none⟩ = some (.int .i64 dc) ∧ w3.cell? ⟨kb, 4, none⟩ = some (.bool false) ∧ ∀ i, w3.frozen? ⟨kb, i, none⟩ = false :=
    ⟨(cell_of_row _ _ _ _ _ _ (unhide HKK)).trans rfl, (cell_of_row _ _ _ _ _ _ (unhide HKK)).trans rfl, (cell_of_row _ _ _ _ _ _ (unhide HKK)).trans rfl, (cell_of_row _ _ _ _ _ _ (unhide HKK)).trans rfl, (cell_of_row _ _ _ _ _ _ (unhide HKK)).trans rfl, fun i => by simp [World.frozen?, unhide HKK]⟩
  have b5 : Below w.heap.size w (w3.setCell ⟨kb, 4, none⟩ (.bool true)) := (unhide B3).setCell (p := ⟨kb, 4, none⟩) (by show w.heap.size ≤ kb; omega) _
  have HA5 := (unhide HAA).same (heap_setCell_other w3 ⟨kb, 4, none⟩ (w.heap.size + 1) (.bool true) (show w.heap.size + 1 ≠ kb by omega))
  have HE := hide (HA5.put df dp dc true)
  have BE := hide (below_put b5 (Nat.le_succ _) df dp dc true)
  clear b5 HA5
  go_wp2
  exact bodyPost_ret (results_ct rfl _ _ (w.heap.size + 1) 27 (apV df dp dc true) (0, 0) _ (.int .i64 0) rfl rfl (unhide HE) Try.underlying27 rfl sizeApp) rfl ⟨rfl, unhide BE⟩

end Go.Proofs.Ytgpijeaehkabdaa

/-
  DERIVED. The walks of the state's try, by cases.
-/
namespace Go.Proofs.Ytgpijeaehkabdaa
open Go.RowKit Go.Maps
set_option linter.unusedVariables false

set_option maxRecDepth 20000 in
set_option maxHeartbeats 4000000 in
theorem try_evs {w : World} {F : Nat → Prop} {st mp mk N : Nat} {I : Ix} {xs : List (Ent × Nat)} {av : Value} {pf : List UInt8 → Value} {D1 D2 : DataW Value} (h : IxIn w F st mp mk N I xs av pf D1 D2) (a : Option Addr) (n c : Nat) (ha : av = .slice a n c) (s : List UInt8) (hs : s.length ≤ maxLen) (x : Int) (k : List UInt8) (hk : k.length ≤ maxLen) (ea : Option Addr) (en ec : Nat) (es : List Evn) (hv : EvL w (.slice ea en ec) es) (hfit : ∀ e ∈ es, fitE e) (hn : okNames s k) (hky : I.key k = none) (hev : ¬ okEvs es) :
    Calls Try.prog 24 #[.agg (stV (.slice a n c) (some mp) (some mk)), sv s, .int .i64 x, sv k, .slice ea en ec] w (TrPost (apV 0 0 0 false, 102) w) := by
  have hsl : s.length ≤ 9223372036854775807 := hs
  have hkl : k.length ≤ 9223372036854775807 := hk
  have lmp := h.mpo.lt
  have lmk := h.mko.lt
  obtain ⟨w1, hw1⟩ : ∃ w1, w1 = (w.alloc (.cells (stV (.slice a n c) (some mp) (some mk)) 68)).alloc (.cells (apV 0 0 0 false) 27) := ⟨_, rfl⟩
  have b1 : Below w.heap.size w w1 := by rw [hw1]; exact ((Below.refl _ _).alloc (Nat.le_refl _) _).alloc (by simp) _
  have z1 : w1.heap.size = w.heap.size + 2 := by rw [hw1]; simp
  have VC := hide (version_go h a n c ha s hs w1 (b1.block mp lmp))
  have HS1 : w1.heap[w.heap.size]? = some (.cells (stV (.slice a n c) (some mp) (some mk)) 68 (0, 0)) := by rw [hw1, Below.heap_alloc _ _ _ (by simp)]; exact heap_alloc_self _ _
  have HA1 : ABox w1 (w.heap.size + 1) 0 0 0 false := by
    unfold ABox; rw [hw1, show w.heap.size + 1 = (w.alloc (.cells (stV (.slice a n c) (some mp) (some mk)) 68)).heap.size by simp]; exact heap_alloc_self _ _
  have Z1 := hide z1
  have HI := hide h
  have hxl : n = xs.length := by obtain ⟨a', c', e⟩ := h.avs; rw [ha] at e; cases e; rfl
  have HXL : Hid ((n : Int) = I.all.length) := hide (by rw [hxl, ← h.all, List.length_map])
  have HEL : Hid ((en : Int) = es.length) := hide (by obtain ⟨_, _, e, _⟩ := hv; cases e; rfl)
  have B1 := hide b1
  have HV := hide hv
  have HFI := hide hfit
  have s1 : w1.cell? ⟨w.heap.size, 0, none⟩ = some (.slice a n c) := (cell_of_row _ _ _ _ _ _ HS1).trans rfl
  have s2 : w1.cell? ⟨w.heap.size, 1, none⟩ = some (.map (some mp)) := (cell_of_row _ _ _ _ _ _ HS1).trans rfl
  have s3 : w1.cell? ⟨w.heap.size, 2, none⟩ = some (.map (some mk)) := (cell_of_row _ _ _ _ _ _ HS1).trans rfl
  have HS := hide HS1
  have HA := hide HA1
  have NA := hide (namesAllowed_any s k)
  have HNA := hide (ans_true hn)
  have HKEY := hide hky
  have HEV := hide (ans_false hev)
  clear hev

  clear h b1 z1 HS1 HA1 hv hfit hxl hs hk
  go_enter Try.func24, Try.ntmps24
  go_upto_region 1 with fail
  rw [← hw1]
  clear hw1
  go_wp2_with fail
  refine (unhide VC).mono ?_
  rintro e w2 ⟨rfl, b2⟩
  have B2 := hide ((unhide B1).trans (b2.mono (by have := unhide Z1; omega)))
  have z2 : w.heap.size + 1 < w2.heap.size := by have := b2.size; have := unhide Z1; omega
  have HS2 := (b2.block w.heap.size (by have := unhide Z1; omega)).trans (unhide HS)
  have HA2 := (unhide HA).same (b2.block (w.heap.size + 1) (by have := unhide Z1; omega))
  obtain ⟨w3, hw3⟩ : ∃ w3, w3 = w2.alloc (.cells (kdA [] 0 0 0 false) 84) := ⟨_, rfl⟩
  have hlk := (unhide HI).lookK (W := w2) ((b2.block mk (by have := unhide Z1; omega)).trans ((unhide B1).block mk lmk)) k hkl
  rw [unhide HKEY] at hlk
  simp only [kdV, Option.isSome_none] at hlk
  have t1 : w2.cell? ⟨w.heap.size, 0, none⟩ = some (.slice a n c) := (cell_of_row _ _ _ _ _ _ HS2).trans rfl
  have t2 : w2.cell? ⟨w.heap.size, 1, none⟩ = some (.map (some mp)) := (cell_of_row _ _ _ _ _ _ HS2).trans rfl
  have t3 : w2.cell? ⟨w.heap.size, 2, none⟩ = some (.map (some mk)) := (cell_of_row _ _ _ _ _ _ HS2).trans rfl
  have b3 : Below w2.heap.size w2 w3 := by rw [hw3]; exact (Below.refl _ _).alloc (Nat.le_refl _) _
  have HA3 := HA2.same (b3.block _ z2)
  have HS3 := (b3.block w.heap.size (by omega)).trans HS2
  have HK3 : w3.heap[w2.heap.size]? = some (.cells (kdA [] 0 0 0 false) 84 (0, 0)) := by rw [hw3]; exact heap_alloc_self _ _
  have u1 : w3.cell? ⟨w.heap.size, 0, none⟩ = some (.slice a n c) := (cell_of_row _ _ _ _ _ _ HS3).trans rfl
  obtain ⟨a0, a1, a2, a3, a4⟩ := HA3.cells
  have B3 := hide ((unhide B2).trans (b3.mono (unhide B2).size))
  have z3 : w.heap.size + 1 < w3.heap.size := by have := b3.size; omega
  have HAA := hide HA3
  have HSS := hide HS3
  have HKK := hide HK3
  clear b2 b3 HS2 HA2 VC HS HA s1 s2 s3 HA3 HS3 HK3
  go_upto_region 3 with fail
  rw [← hw3]
  clear hw3 hlk t1 t2 t3
  obtain ⟨kb, hkb⟩ : ∃ kb, kb = w2.heap.size := ⟨_, rfl⟩
  rw [← hkb] at HKK ⊢
  have hkz : w.heap.size + 1 < kb := by omega
  clear hkb z2
  go_wp2_with fail
  refine (unhide NA w3 hsl hkl).mono ?_
  rintro e w4 ⟨rfl, rfl⟩
  rw [unhide HNA]
  have CE := hide (eventsAllowed_any ea en ec es w3 ((unhide HV).below (unhide B3) (Nat.le_refl _)) (unhide HFI))
  go_wp2_with fail
  refine (unhide CE).mono ?_
  rintro e w5 ⟨rfl, b5⟩
  rw [unhide HEV]
  have HA5 := (unhide HAA).same (b5.block _ z3)
  have HS5 := (b5.block w.heap.size (by omega)).trans (unhide HSS)
  have B5 := (unhide B3).trans (b5.mono (unhide B3).size)
  obtain ⟨e0, e1, e2, e3, e4⟩ := HA5.cells
  have u5 : w5.cell? ⟨w.heap.size, 0, none⟩ = some (.slice a n c) := (cell_of_row _ _ _ _ _ _ HS5).trans rfl
  have HE := hide (HA5.put 0 0 0 false)
  have BE := hide (below_put B5 (Nat.le_succ _) 0 0 0 false)
  clear HA5 B5 HS5 b5 CE a0 a1 a2 a3 a4 u1
  go_wp2
  exact bodyPost_ret (results_ct rfl _ _ (w.heap.size + 1) 27 (apV 0 0 0 false) (0, 0) _ (.int .i64 102) rfl rfl (unhide HE) Try.underlying27 rfl sizeApp) rfl ⟨rfl, unhide BE⟩

set_option maxRecDepth 20000 in
set_option maxHeartbeats 4000000 in
theorem try_arg {w : World} {F : Nat → Prop} {st mp mk N : Nat} {I : Ix} {xs : List (Ent × Nat)} {av : Value} {pf : List UInt8 → Value} {D1 D2 : DataW Value} (h : IxIn w F st mp mk N I xs av pf D1 D2) (a : Option Addr) (n c : Nat) (ha : av = .slice a n c) (s : List UInt8) (hs : s.length ≤ maxLen) (x : Int) (k : List UInt8) (hk : k.length ≤ maxLen) (ea : Option Addr) (en ec : Nat) (es : List Evn) (hv : EvL w (.slice ea en ec) es) (hfit : ∀ e ∈ es, fitE e) (hn : okNames s k) (hky : I.key k = none) (hev : okEvs es) (hx : x < -1) :
    Calls Try.prog 24 #[.agg (stV (.slice a n c) (some mp) (some mk)), sv s, .int .i64 x, sv k, .slice ea en ec] w (TrPost (apV 0 0 0 false, 1) w) := by
  have hsl : s.length ≤ 9223372036854775807 := hs
  have hkl : k.length ≤ 9223372036854775807 := hk
  have lmp := h.mpo.lt
  have lmk := h.mko.lt
  obtain ⟨w1, hw1⟩ : ∃ w1, w1 = (w.alloc (.cells (stV (.slice a n c) (some mp) (some mk)) 68)).alloc (.cells (apV 0 0 0 false) 27) := ⟨_, rfl⟩
  have b1 : Below w.heap.size w w1 := by rw [hw1]; exact ((Below.refl _ _).alloc (Nat.le_refl _) _).alloc (by simp) _
  have z1 : w1.heap.size = w.heap.size + 2 := by rw [hw1]; simp
  have VC := hide (version_go h a n c ha s hs w1 (b1.block mp lmp))
  have HS1 : w1.heap[w.heap.size]? = some (.cells (stV (.slice a n c) (some mp) (some mk)) 68 (0, 0)) := by rw [hw1, Below.heap_alloc _ _ _ (by simp)]; exact heap_alloc_self _ _
  have HA1 : ABox w1 (w.heap.size + 1) 0 0 0 false := by
    unfold ABox; rw [hw1, show w.heap.size + 1 = (w.alloc (.cells (stV (.slice a n c) (some mp) (some mk)) 68)).heap.size by simp]; exact heap_alloc_self _ _
  have Z1 := hide z1
  have HI := hide h
  have hxl : n = xs.length := by obtain ⟨a', c', e⟩ := h.avs; rw [ha] at e; cases e; rfl
  have HXL : Hid ((n : Int) = I.all.length) := hide (by rw [hxl, ← h.all, List.length_map])
  have HEL : Hid ((en : Int) = es.length) := hide (by obtain ⟨_, _, e, _⟩ := hv; cases e; rfl)
  have B1 := hide b1
  have HV := hide hv
  have HFI := hide hfit
  have s1 : w1.cell? ⟨w.heap.size, 0, none⟩ = some (.slice a n c) := (cell_of_row _ _ _ _ _ _ HS1).trans rfl
  have s2 : w1.cell? ⟨w.heap.size, 1, none⟩ = some (.map (some mp)) := (cell_of_row _ _ _ _ _ _ HS1).trans rfl
  have s3 : w1.cell? ⟨w.heap.size, 2, none⟩ = some (.map (some mk)) := (cell_of_row _ _ _ _ _ _ HS1).trans rfl
  have HS := hide HS1
  have HA := hide HA1
  have NA := hide (namesAllowed_any s k)
  have HNA := hide (ans_true hn)
  have HKEY := hide hky
  have HEV := hide (ans_true hev)
  clear hev

  clear h b1 z1 HS1 HA1 hv hfit hxl hs hk
  go_enter Try.func24, Try.ntmps24
  go_upto_region 1 with fail
  rw [← hw1]
  clear hw1
  go_wp2_with fail
  refine (unhide VC).mono ?_
  rintro e w2 ⟨rfl, b2⟩
  have B2 := hide ((unhide B1).trans (b2.mono (by have := unhide Z1; omega)))
  have z2 : w.heap.size + 1 < w2.heap.size := by have := b2.size; have := unhide Z1; omega
  have HS2 := (b2.block w.heap.size (by have := unhide Z1; omega)).trans (unhide HS)
  have HA2 := (unhide HA).same (b2.block (w.heap.size + 1) (by have := unhide Z1; omega))
  obtain ⟨w3, hw3⟩ : ∃ w3, w3 = w2.alloc (.cells (kdA [] 0 0 0 false) 84) := ⟨_, rfl⟩
  have hlk := (unhide HI).lookK (W := w2) ((b2.block mk (by have := unhide Z1; omega)).trans ((unhide B1).block mk lmk)) k hkl
  rw [unhide HKEY] at hlk
  simp only [kdV, Option.isSome_none] at hlk
  have t1 : w2.cell? ⟨w.heap.size, 0, none⟩ = some (.slice a n c) := (cell_of_row _ _ _ _ _ _ HS2).trans rfl
  have t2 : w2.cell? ⟨w.heap.size, 1, none⟩ = some (.map (some mp)) := (cell_of_row _ _ _ _ _ _ HS2).trans rfl
  have t3 : w2.cell? ⟨w.heap.size, 2, none⟩ = some (.map (some mk)) := (cell_of_row _ _ _ _ _ _ HS2).trans rfl
  have b3 : Below w2.heap.size w2 w3 := by rw [hw3]; exact (Below.refl _ _).alloc (Nat.le_refl _) _
  have HA3 := HA2.same (b3.block _ z2)
  have HS3 := (b3.block w.heap.size (by omega)).trans HS2
  have HK3 : w3.heap[w2.heap.size]? = some (.cells (kdA [] 0 0 0 false) 84 (0, 0)) := by rw [hw3]; exact heap_alloc_self _ _
  have u1 : w3.cell? ⟨w.heap.size, 0, none⟩ = some (.slice a n c) := (cell_of_row _ _ _ _ _ _ HS3).trans rfl
  obtain ⟨a0, a1, a2, a3, a4⟩ := HA3.cells
  have B3 := hide ((unhide B2).trans (b3.mono (unhide B2).size))
  have z3 : w.heap.size + 1 < w3.heap.size := by have := b3.size; omega
  have HAA := hide HA3
  have HSS := hide HS3
  have HKK := hide HK3
  clear b2 b3 HS2 HA2 VC HS HA s1 s2 s3 HA3 HS3 HK3
  go_upto_region 3 with fail
  rw [← hw3]
  clear hw3 hlk t1 t2 t3
  obtain ⟨kb, hkb⟩ : ∃ kb, kb = w2.heap.size := ⟨_, rfl⟩
  rw [← hkb] at HKK ⊢
  have hkz : w.heap.size + 1 < kb := by omega
  clear hkb z2
  go_wp2_with fail
  refine (unhide NA w3 hsl hkl).mono ?_
  rintro e w4 ⟨rfl, rfl⟩
  rw [unhide HNA]
  have CE := hide (eventsAllowed_any ea en ec es w3 ((unhide HV).below (unhide B3) (Nat.le_refl _)) (unhide HFI))
  go_wp2_with fail
  refine (unhide CE).mono ?_
  rintro e w5 ⟨rfl, b5⟩
  rw [unhide HEV]
  have HA5 := (unhide HAA).same (b5.block _ z3)
  have HS5 := (b5.block w.heap.size (by omega)).trans (unhide HSS)
  have B5 := (unhide B3).trans (b5.mono (unhide B3).size)
  obtain ⟨e0, e1, e2, e3, e4⟩ := HA5.cells
  have u5 : w5.cell? ⟨w.heap.size, 0, none⟩ = some (.slice a n c) := (cell_of_row _ _ _ _ _ _ HS5).trans rfl
  have HE := hide (HA5.put 0 0 0 false)
  have BE := hide (below_put B5 (Nat.le_succ _) 0 0 0 false)
  clear HA5 B5 HS5 b5 CE a0 a1 a2 a3 a4 u1
  go_wp2
  exact bodyPost_ret (results_ct rfl _ _ (w.heap.size + 1) 27 (apV 0 0 0 false) (0, 0) _ (.int .i64 1) rfl rfl (unhide HE) Try.underlying27 rfl sizeApp) rfl ⟨rfl, unhide BE⟩

end Go.Proofs.Ytgpijeaehkabdaa
