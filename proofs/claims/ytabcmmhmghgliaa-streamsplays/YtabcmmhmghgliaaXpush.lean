/-
  DERIVED. The index in memory behind one more event, and behind one more key.
-/
import Derived.Test.YtabcmmhmghgliaaXchk
namespace Go.Proofs.Ytabcmmhmghgliaa
open Go.RowKit Go.Maps
set_option linter.unusedVariables false

def Ix.push (I : Ix) (s : List UInt8) (num : Nat) (e : Evn) : Ix := ⟨I.all ++ [⟨s, num, e⟩], I.key⟩
def Ix.setKey (I : Ix) (k : List UInt8) (d : Kd) : Ix := ⟨I.all, fun j => if j = k then some d else I.key j⟩

theorem map_ne {w : World} {m q N : Nat} {D : DataW Value} {cur : Array Value} {t : TypeId} {fr : Nat × Nat} (h : w.ownsMap Try.prog 9 rawE m N D) (hq : w.heap[q]? = some (.cells cur t fr)) : q ≠ m := by
  rintro rfl
  obtain ⟨es, clock, hb, _⟩ := h
  rw [hq] at hb; cases hb

theorem IxIn.setKey {w W : World} {F : Nat → Prop} {st mp mk N : Nat} {I : Ix} {xs : List (Ent × Nat)} {av : Value} {pf : List UInt8 → Value} {D1 D2 : DataW Value} (h : IxIn w F st mp mk N I xs av pf D1 D2) (k : List UInt8) (hk : k ≠ []) (d : Kd)
    (hm : W.ownsMap Try.prog 9 rawE mk (N + 1) (D2.put (lit k) (.held (kdV (some d))))) (hg : w.grownBy W (some mk)) :
    IxIn W F st mp mk (N + 1) (I.setKey k d) xs av pf D1 (D2.put (lit k) (.held (kdV (some d)))) ∧ Kept F w W := by
  have hmap : IsMap D2 := by obtain ⟨es, clock, _, _, _, e⟩ := h.mko; exact ⟨_, e⟩
  have hne : ∀ j, j ≠ k → lit j ≠ lit k := fun j hj e => hj (lit_inj e)
  have hb : ∀ q, q < w.heap.size → q ≠ mk → W.heap[q]? = w.heap[q]? := fun q hq hn => hg.block q hq (by simpa using hn)
  have hrow : ∀ {e : TypeId} {sz n : Nat} {v : Value} {cs : List Value}, w.ownsRow 0 e sz v n cs → W.ownsRow 0 e sz v n cs := fun hr => ownsRow_frame hr fun q hq hl => by
    obtain ⟨cur, hc⟩ := ownsRow_mark hr hq
    exact hb q hl (map_ne h.mko hc)
  refine ⟨{ h with
      stc := (hb st (lt_of_block h.stc) (map_ne h.mko h.stc)).trans h.stc
      row := hrow h.row
      fds := fun x hx => ⟨(h.fds x hx).1.same (hb _ (h.fds x hx).1.lt (by obtain ⟨cs, hc, _⟩ := (h.fds x hx).1; exact map_ne h.mko hc)), (h.fds x hx).2⟩
      mpo := (ownsMap_frame h.mpo (hb mp h.mpo.lt h.mne)).mono (Nat.le_succ _)
      rows := fun s => hrow (h.rows s)
      mko := hm
      mka := ?_
      mkh := ?_
      len := Nat.le_succ_of_le h.len
      nil := ?_ }, Kept.of_grown hg (fun q e => by cases e; exact h.fmk)⟩
  · intro j
    show _ = DataW.held (kdV (if j = k then some d else I.key j))
    by_cases e : j = k
    · subst e; rw [atKey_put_same hmap (lit_is j), if_pos rfl]
    · rw [atKey_put_other (hne j e), if_neg e]; exact h.mka j
  · intro j
    show _ = (if j = k then some d else I.key j).isSome
    by_cases e : j = k
    · subst e; rw [has_put_same hmap (lit_is j), if_pos rfl]; rfl
    · rw [has_put_other (hne j e), if_neg e]; exact h.mkh j
  · show (if [] = k then some d else I.key []) = none
    rw [if_neg (fun e => hk e.symm)]; exact h.nil

theorem IxIn.push {w W3 W4 W5 W6 W7 : World} {F : Nat → Prop} {st mp mk N : Nat} {I : Ix} {xs : List (Ent × Nat)} {av : Value} {pf : List UInt8 → Value} {D1 D2 : DataW Value} (h : IxIn w F st mp mk N I xs av pf D1 D2) (s : List UInt8) (num : Nat) (e : Evn) (h16 : e.fields.length ≤ 16) (hF : ∀ j, w.heap.size ≤ j → F j)
    (g cap : Nat) (r3 : W3.ownsRow 0 3 1 (.slice (some ⟨g, 0, none⟩) (I.ver s + 1) cap) (I.ver s + 1) ((plc I.all s).map natV ++ [natV I.all.length])) (g3 : w.grownBy W3 (pf s).ownBlock) (hat : (pf s).ownBlock = some g ∨ w.heap.size ≤ g)
    (m4 : W4.ownsMap Try.prog 9 rawE mp (N + 1) (D1.put (lit s) (.held (.slice (some ⟨g, 0, none⟩) (I.ver s + 1) cap)))) (g4 : W3.grownBy W4 (some mp))
    (p : Nat) (b5 : Below W4.heap.size W4 W5) (f5 : FdBlk W5 p e.fields.length e.fields) (hp : W4.heap.size ≤ p)
    (a c6 : Nat) (r6 : W6.ownsRow 0 64 6 (.slice (some ⟨a, 0, none⟩) (xs.length + 1) c6) (xs.length + 1) (ecells xs 0 ++ ecell xs.length (⟨s, num, e⟩, p))) (g6 : W5.grownBy W6 av.ownBlock) (hat6 : av.ownBlock = some a ∨ W5.heap.size ≤ a)
    (h7 : W7 = W6.setCell ⟨st, 0, none⟩ (.slice (some ⟨a, 0, none⟩) (xs.length + 1) c6)) :
    IxIn W7 F st mp mk (N + 1) (I.push s num e) (xs ++ [(⟨s, num, e⟩, p)]) (.slice (some ⟨a, 0, none⟩) (xs.length + 1) c6) (fun j => if j = s then .slice (some ⟨g, 0, none⟩) (I.ver s + 1) cap else pf j) (D1.put (lit s) (.held (.slice (some ⟨g, 0, none⟩) (I.ver s + 1) cap))) D2 ∧ Kept F w W7 := by
  have hmap : IsMap D1 := by obtain ⟨es, clock, _, _, _, e⟩ := h.mpo; exact ⟨_, e⟩
  have hne : ∀ j, j ≠ s → lit j ≠ lit s := fun j hj e => hj (lit_inj e)
  have z3 := g3.size
  have z4 := g4.size
  have z5 := b5.size
  have z6 := g6.size
  have hlx : xs.length = I.all.length := by rw [← h.all, List.length_map]
  have lst := lt_of_block h.stc
  -- what stays from w to W5
  have k5 : ∀ q, q < w.heap.size → q ≠ mp → some q ≠ (pf s).ownBlock → W5.heap[q]? = w.heap[q]? := fun q h1 h2 h3 =>
    (b5.block q (by omega)).trans ((g4.block q (by omega) (by simpa using h2)).trans (g3.block q h1 h3))
  have k7 : ∀ q, q < w.heap.size → q ≠ mp → some q ≠ (pf s).ownBlock → some q ≠ av.ownBlock → q ≠ st → W7.heap[q]? = w.heap[q]? := fun q h1 h2 h3 h4 h5 => by
    rw [h7, heap_setCell_other _ _ _ _ (show q ≠ st from h5)]
    exact (g6.block q (by omega) h4).trans (k5 q h1 h2 h3)
  -- marks
  have nP : ∀ {q : Nat} {cur : Array Value} {t : TypeId} {fr : Nat × Nat}, w.heap[q]? = some (.cells cur t fr) → t ≠ 3 → some q ≠ (pf s).ownBlock := fun hq ht e => by
    obtain ⟨cur, hc⟩ := ownsRow_mark (h.rows s) e.symm
    exact mark_ne hc hq (fun e => ht e.symm) rfl
  have nA : ∀ {q : Nat} {cur : Array Value} {t : TypeId} {fr : Nat × Nat}, w.heap[q]? = some (.cells cur t fr) → t ≠ 64 → some q ≠ av.ownBlock := fun hq ht e => by
    obtain ⟨cur, hc⟩ := ownsRow_mark h.row e.symm
    exact mark_ne hc hq (fun e => ht e.symm) rfl
  have nS : ∀ {q : Nat} {cur : Array Value} {t : TypeId} {fr : Nat × Nat}, w.heap[q]? = some (.cells cur t fr) → t ≠ 68 → q ≠ st := fun hq ht => mark_ne h.stc hq (fun e => ht e.symm)
  have nM : mk ≠ st ∧ some mk ≠ (pf s).ownBlock ∧ some mk ≠ av.ownBlock := by
    refine ⟨fun e => map_ne h.mko h.stc e.symm, fun e => ?_, fun e => ?_⟩
    · obtain ⟨cur, hc⟩ := ownsRow_mark (h.rows s) e.symm
      exact map_ne h.mko hc rfl
    · obtain ⟨cur, hc⟩ := ownsRow_mark h.row e.symm
      exact map_ne h.mko hc rfl
  have nM1 : mp ≠ st ∧ some mp ≠ (pf s).ownBlock ∧ some mp ≠ av.ownBlock := by
    refine ⟨fun e => map_ne h.mpo h.stc e.symm, fun e => ?_, fun e => ?_⟩
    · obtain ⟨cur, hc⟩ := ownsRow_mark (h.rows s) e.symm
      exact map_ne h.mpo hc rfl
    · obtain ⟨cur, hc⟩ := ownsRow_mark h.row e.symm
      exact map_ne h.mpo hc rfl
  have st6 : W6.heap[st]? = some (.cells #[av, .map (some mp), .map (some mk)] 68 (0, 0)) := (g6.block st (by omega) (nA h.stc (by decide))).trans ((k5 st lst (map_ne h.mpo h.stc) (nP h.stc (by decide))).trans h.stc)
  have st7 : W7.heap[st]? = some (.cells #[.slice (some ⟨a, 0, none⟩) (xs.length + 1) c6, .map (some mp), .map (some mk)] 68 (0, 0)) := by
    rw [h7, heap_setCell_same _ st 0 _ _ _ st6]; rfl
  have same7 : ∀ q, q ≠ st → W7.heap[q]? = W6.heap[q]? := fun q hq => by rw [h7]; exact heap_setCell_other _ _ _ _ hq
  have ap5 : p < W5.heap.size := f5.lt
  -- the new row of places
  obtain ⟨cg, hcg⟩ := ownsRow_mark r3 (q := g) rfl
  have lg := lt_of_block hcg
  have gmp : g ≠ mp := by
    rcases hat with hat | hat
    · obtain ⟨cur, hc⟩ := ownsRow_mark (h.rows s) hat; exact map_ne h.mpo hc
    · have := h.mpo.lt; omega
  have gst : g ≠ st := by
    rcases hat with hat | hat
    · obtain ⟨cur, hc⟩ := ownsRow_mark (h.rows s) hat; exact nS hc (by decide)
    · omega
  have g5 : W5.heap[g]? = W3.heap[g]? := (b5.block g (by omega)).trans (g4.block g lg (by simpa using gmp))
  have gA : some g ≠ av.ownBlock := by
    rcases hat with hat | hat
    · obtain ⟨cur, hc⟩ := ownsRow_mark (h.rows s) hat; exact nA hc (by decide)
    · intro e
      obtain ⟨cur, hc⟩ := ownsRow_mark h.row e.symm
      have := lt_of_block hc; omega
  have g7 : W7.heap[g]? = W3.heap[g]? := (same7 g gst).trans ((g6.block g (by omega) gA).trans g5)
  obtain ⟨ca, hca⟩ := ownsRow_mark r6 (q := a) rfl
  have ast : a ≠ st := by
    rcases hat6 with hat6 | hat6
    · obtain ⟨cur, hc⟩ := ownsRow_mark h.row hat6; exact nS hc (by decide)
    · omega
  have pA : some p ≠ av.ownBlock := fun e => by
    obtain ⟨cur, hc⟩ := ownsRow_mark h.row e.symm
    have := lt_of_block hc; omega
  refine ⟨?_, ?_⟩
  · exact
      { stc := st7
        row := by
          have e1 : ecells (xs ++ [(⟨s, num, e⟩, p)]) 0 = ecells xs 0 ++ ecell xs.length (⟨s, num, e⟩, p) := by rw [ecells_snoc, Nat.zero_add]
          rw [e1, List.length_append]
          exact ownsRow_frame r6 fun q hq hl => by cases hq; exact same7 a ast
        all := by rw [List.map_append, h.all]; rfl
        fds := by
          intro x hx
          rcases List.mem_append.1 hx with hx | hx
          · obtain ⟨f1, f2, f3⟩ := h.fds x hx
            refine ⟨f1.same ?_, f2, f3⟩
            have fl := f1.lt
            obtain ⟨cs, hc, _⟩ := f1
            exact k7 _ fl (map_ne h.mpo hc) (nP hc (by decide)) (nA hc (by decide)) (nS hc (by decide))
          · rw [List.mem_singleton.1 hx]
            refine ⟨f5.same ((same7 p (by omega)).trans (g6.block p ap5 pA)), h16, hF p (by omega)⟩
        mpo := ownsMap_frame m4 ((same7 mp nM1.1).trans ((g6.block mp (by have := h.mpo.lt; omega) nM1.2.2).trans (b5.block mp (by have := h.mpo.lt; omega))))
        mpa := by
          intro j
          by_cases ej : j = s
          · subst ej; rw [atKey_put_same hmap (lit_is j), if_pos rfl]
          · rw [atKey_put_other (hne j ej), if_neg ej]; exact h.mpa j
        mph := by
          intro kl
          show _ ↔ ∃ j, plc (I.all ++ [⟨s, num, e⟩]) j ≠ [] ∧ kl = lit j
          by_cases ek : kl = lit s
          · subst ek
            refine ⟨fun _ => ⟨s, by rw [plc_snoc]; simp, rfl⟩, fun _ => has_put_same hmap (lit_is s) _⟩
          · rw [has_put_other ek, h.mph]
            constructor
            · rintro ⟨j, h1, rfl⟩
              exact ⟨j, by rw [plc_snoc]; simp [h1], rfl⟩
            · rintro ⟨j, h1, rfl⟩
              have hj : ¬ s = j := fun e => ek (by rw [e])
              rw [plc_snoc] at h1
              exact ⟨j, by simpa [hj] using h1, rfl⟩
        rows := by
          intro j
          show W7.ownsRow 0 3 1 _ (plc (I.all ++ [⟨s, num, e⟩]) j).length ((plc (I.all ++ [⟨s, num, e⟩]) j).map natV)
          rw [plc_snoc]
          by_cases ej : j = s
          · subst ej
            rw [if_pos rfl, if_pos rfl, List.length_append, List.map_append]
            exact ownsRow_frame r3 fun q hq hl => by cases hq; exact g7
          · rw [if_neg ej, if_neg (fun e => ej e.symm), List.append_nil]
            refine ownsRow_frame (h.rows j) fun q hq hl => ?_
            obtain ⟨cur, hc⟩ := ownsRow_mark (h.rows j) hq
            exact k7 q hl (map_ne h.mpo hc) (fun e => ej (h.apart j s q hq e.symm)) (nA hc (by decide)) (nS hc (by decide))
        apart := by
          intro j j' q hq hq'
          by_cases e1 : j = s
          · by_cases e2 : j' = s
            · rw [e1, e2]
            · simp only [if_pos e1] at hq
              simp only [if_neg e2] at hq'
              cases hq
              rcases hat with hat | hat
              · exact absurd (h.apart j' s g hq' hat) e2
              · obtain ⟨cur, hc⟩ := ownsRow_mark (h.rows j') hq'
                have hlc : g < w.heap.size := lt_of_block hc
                omega
          · by_cases e2 : j' = s
            · simp only [if_neg e1] at hq
              simp only [if_pos e2] at hq'
              cases hq'
              rcases hat with hat | hat
              · exact absurd (h.apart j s g hq hat) e1
              · obtain ⟨cur, hc⟩ := ownsRow_mark (h.rows j) hq
                have hlc : g < w.heap.size := lt_of_block hc
                omega
            · simp only [if_neg e1] at hq
              simp only [if_neg e2] at hq'
              exact h.apart j j' q hq hq'
        mko := (ownsMap_frame h.mko (k7 mk h.mko.lt (fun e => h.mne e.symm) nM.2.1 nM.2.2 nM.1)).mono (Nat.le_succ _)
        mka := h.mka
        mkh := h.mkh
        mne := h.mne
        fst := h.fst
        fmp := h.fmp
        fmk := h.fmk
        fav := fun q hq => by
          cases hq
          rcases hat6 with hat6 | hat6
          · exact h.fav a hat6
          · exact hF a (by omega)
        fpf := fun j q hq => by
          by_cases ej : j = s
          · simp only [if_pos ej] at hq
            cases hq
            rcases hat with hat | hat
            · exact h.fpf s g hat
            · exact hF g hat
          · simp only [if_neg ej] at hq
            exact h.fpf j q hq
        len := by show (I.all ++ [_]).length ≤ N + 1; rw [List.length_append]; have := h.len; simp; omega
        nil := h.nil
        avs := ⟨_, _, by rw [List.length_append]; rfl⟩ }
  · have a1 : Kept F w W3 := Kept.of_grown g3 fun q e => h.fpf s q e
    have a2 : Kept F W3 W4 := Kept.of_grown g4 fun q e => by cases e; exact h.fmp
    have a3 : Kept F W4 W5 := Kept.of_below b5
    have a4 : Kept F W5 W6 := Kept.of_grown g6 fun q e => h.fav q e
    have a5 : Kept F W6 W7 := by rw [h7]; exact ⟨rfl, rfl, rfl, by simp [World.setCell], fun q _ hn => heap_setCell_other _ _ _ _ (fun e => hn (by rw [e]; exact h.fst))⟩
    exact (((a1.trans a2).trans a3).trans a4).trans a5
end Go.Proofs.Ytabcmmhmghgliaa
