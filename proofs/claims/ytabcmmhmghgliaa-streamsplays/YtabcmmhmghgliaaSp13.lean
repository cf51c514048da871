/-
  DERIVED. The walk of the document's Names.
-/
import Derived.Test.YtabcmmhmghgliaaSp11
import Derived.BigQuiet
namespace Go.Proofs.Ytabcmmhmghgliaa
open Go.RowKit
set_option linter.unusedVariables false

/-- Where a text stands, or would. -/
def posD (s : List UInt8) (l : List (List UInt8)) : Nat := (l.takeWhile fun x => Op.bytesLess x s).length
def insD (l : List (List UInt8)) (s : List UInt8) : List (List UInt8) := if l[posD s l]? = some s then l else l.take (posD s l) ++ [s] ++ l.drop (posD s l)
def namesD (Bs : List Bat) : List (List UInt8) := (Bs.map (·.s)).foldl insD []
theorem insD_len (l : List (List UInt8)) (s : List UInt8) : (insD l s).length ≤ l.length + 1 := by
  unfold insD
  split
  · omega
  · simp only [List.length_append, List.length_take, List.length_drop, List.length_singleton]; omega
theorem posD_le (s : List UInt8) (l : List (List UInt8)) : posD s l ≤ l.length := (List.takeWhile_sublist _).length_le
theorem posD_at {s : List UInt8} : ∀ {l : List (List UInt8)} {k : Nat}, (∀ i x, i < k → l[i]? = some x → Op.bytesLess x s = true) → k ≤ l.length → (∀ x, l[k]? = some x → Op.bytesLess x s = false) → posD s l = k
  | [], k, _, h2, _ => by simp at h2; subst h2; rfl
  | a :: r, 0, _, _, h3 => by
    have := h3 a rfl
    unfold posD
    rw [List.takeWhile_cons, this]; rfl
  | a :: r, k + 1, h1, h2, h3 => by
    have ha := h1 0 a (by omega) rfl
    have ih := posD_at (s := s) (l := r) (k := k) (fun i x hi hx => h1 (i + 1) x (by omega) (by simpa using hx)) (by simpa using h2) (fun x hx => h3 x (by simpa using hx))
    unfold posD at ih ⊢
    rw [List.takeWhile_cons, ha]
    simp only [if_true, List.length_cons, ih]

/-- Texts in a row of one's own. -/
def StR (w : World) (base : Nat) (v : Value) (xs : List (List UInt8)) : Prop := w.ownsRow base 9 1 v xs.length (xs.map sv)
theorem StR.nil (w : World) (base : Nat) : StR w base (.slice none 0 0) [] := World.ownsRow_nil _ _ _ _
theorem StR.below {B base : Nat} {w w' : World} {v : Value} {l : List (List UInt8)} (h : StR w base v l) (hb : Below B w w') (hB : w.heap.size ≤ B) : StR w' base v l := by
  obtain ⟨h1, h2⟩ := h
  refine ⟨h1, ?_⟩
  rcases h2 with h | ⟨g, cap, cur, a, b, c, r⟩
  · exact .inl h
  · exact .inr ⟨g, cap, cur, a, b, (hb.block g (by have := lt_of_block c; omega)).trans c, r⟩
theorem StR.sl {w : World} {base : Nat} {v : Value} {L : List (List UInt8)} (h : StR w base v L) : ∃ a c, v = .slice a L.length c ∧ (L.length ≠ 0 → ∃ g, a = some ⟨g, 0, none⟩) ∧ L.length ≤ c ∧ c ≤ 9223372036854775807 := by
  rcases h.2 with ⟨e, h0⟩ | ⟨g, cap, cur, e, _, _, hn, hm, _⟩
  · exact ⟨none, 0, by rw [e, h0], fun h => absurd h0 h, by omega, by omega⟩
  · exact ⟨_, _, e, fun _ => ⟨g, rfl⟩, hn, by unfold maxLen at hm; omega⟩
theorem StR.get {w : World} {base g n c : Nat} {xs : List (List UInt8)} (h : StR w base (.slice (some ⟨g, 0, none⟩) n c) xs) : base ≤ g ∧ g < w.heap.size ∧ (∀ i x, xs[i]? = some x → w.cell? ⟨g, i, none⟩ = some (sv x)) ∧ ∀ i, w.frozen? ⟨g, i, none⟩ = false := by
  have h0 : w.ownsRow base 9 1 (.slice (some ⟨g, 0, none⟩) n c) xs.length (xs.map sv) := h
  rcases h.2 with ⟨e, _⟩ | ⟨g', cap, cur, e, hb, hg, hn, hm, _⟩
  · cases e
  · cases e
    refine ⟨hb, lt_of_block hg, fun i x hx => ?_, fun i => by simp [World.frozen?, hg]⟩
    have := h0.cellAt i (by have := (List.getElem?_eq_some_iff.1 hx).1; omega)
    refine this.trans ?_
    rw [List.getElem?_map, hx]; rfl
theorem StR.set {w : World} {base g n c : Nat} {xs : List (List UInt8)} (h : StR w base (.slice (some ⟨g, 0, none⟩) n c) xs) (i : Nat) (s : List UInt8) : StR (w.setCell ⟨g, i, none⟩ (sv s)) base (.slice (some ⟨g, 0, none⟩) n c) (xs.set i s) := by
  obtain ⟨h1, h2⟩ := h
  rcases h2 with ⟨e, _⟩ | ⟨g', cap, cur, e, hb, hg, hn, hm, hs, ht⟩
  · cases e
  · cases e
    refine ⟨by simp, .inr ⟨g, c, _, by rw [List.length_set], hb, heap_setCell_same _ g _ _ _ _ hg, by rw [List.length_set]; exact hn, hm, by simpa using hs, ?_⟩⟩
    rw [List.length_set, List.map_set, ← ht]
    simp only [Array.toList_setIfInBounds, List.take_set]
theorem infoStr3 : (Try.prog.info? 9).map (fun i => (i.zero, i.size, i.bytes)) = some (some (.string ⟨#[]⟩), 1, 16) := by kernel_rfl
theorem wpList_append_s1 {w : World} {ops : Array Oper} {rest : List Oper} {o : Oper} {a : Act} {Q : Exit → Act → World → Prop} (hgd : o.guard = none) (s x : Operand)
    (ho : o.op = .call { callee := .builtin .append, args := #[s, x], argTypes := #[74, 74] })
    (base : Nat) (v : Value) (R : List (List UInt8)) (hs : a.eval s = v) (hown : StR w base v R) (q : Nat) (y : List UInt8) (hx : a.eval x = .slice (some ⟨q, 0, none⟩) 1 1) (hq : w.heap[q]? = some (.cells #[sv y] 9 (0, 0))) (hlen : R.length ≤ 1000000) (hbase : base ≤ w.heap.size)
    (h : ∀ v' w', StR w' base v' (R ++ [y]) → Below base w w' → wpList Try.prog ops Q rest (a.put o.dst v') w') : wpList Try.prog ops Q (o :: rest) a w := by
  obtain ⟨i0, hi, hh⟩ := Option.map_eq_some_iff.1 infoStr3
  simp only [Prod.mk.injEq] at hh
  refine wpList_append_own w hgd s x 74 ho base 9 i0 _ 1 16 Try.underlying74 hi hh.1 hh.2.1 hh.2.2 rfl (by decide) v R.length (R.map sv) hs hown ⟨q, 0, none⟩ 1 1 [sv y] hx rfl (fun j u hj => by
    rw [addr_add, Nat.zero_add, cell_of_row _ _ _ _ _ _ hq, ← hj]; simp) (fun u hu => by simp at hu; subst hu; rfl) (by unfold maxLen; omega) (by omega) hbase ?_
  intro v' w' ho' hgr _
  refine h v' w' (by unfold StR; rw [List.map_append, List.length_append]; exact ho') ((Below.refl _ _).grown hgr hbase ?_)
  intro k hk
  rcases hown.2 with ⟨rfl, _⟩ | ⟨g, cap', cur, rfl, hb, _⟩
  · cases hk
  · simp only [Value.ownBlock, Option.some.injEq] at hk; omega
theorem shift_set {l : List (List UInt8)} {j : Nat} {y x : List UInt8} (hj : j + 1 ≤ l.length) (hy : l[j]? = some y) : (l.take (j + 1) ++ [x] ++ l.drop (j + 1)).set (j + 1) y = l.take j ++ [y] ++ l.drop j := by
  obtain ⟨hl, rfl⟩ := List.getElem?_eq_some_iff.1 hy
  have h1 : (l.take (j + 1)).length = j + 1 := by rw [List.length_take]; omega
  rw [List.append_assoc, List.set_append, if_neg (by omega), h1, Nat.sub_self, List.singleton_append, List.set_cons_zero, List.take_add_one, hy, Option.toList_some, List.append_assoc, List.append_assoc]
  congr 1
  rw [List.drop_eq_getElem_cons hl]
theorem last_set {l : List (List UInt8)} {k : Nat} {x s : List UInt8} (hk : k ≤ l.length) : (l.take k ++ [x] ++ l.drop k).set k s = l.take k ++ [s] ++ l.drop k := by
  have h1 : (l.take k).length = k := by rw [List.length_take]; omega
  rw [List.append_assoc, List.set_append, if_neg (by omega), h1, Nat.sub_self, List.singleton_append, List.set_cons_zero, List.append_assoc, List.singleton_append]

set_option maxRecDepth 20000 in
set_option maxHeartbeats 8000000 in
theorem rNames_go (rb : Nat) (Bs : List Bat) (w : World) (h : RRd w rb Bs) (hok : BsOk Bs) :
    Calls Try.prog 30 #[.pointer (some ⟨rb, 0, none⟩)] w fun e w' => ∃ v, e = .returned v ∧ StR w' w.heap.size v (namesD Bs) ∧ Below w.heap.size w w' := by
  obtain ⟨v, hv, hsl⟩ := h
  obtain ⟨a, c, hvs⟩ : ∃ a c, v = .slice a Bs.length c := by obtain ⟨a, c, e, _⟩ := hsl; exact ⟨a, c, e⟩
  subst hvs
  obtain ⟨n, hn⟩ : ∃ n, n = Bs.length := ⟨_, rfl⟩
  have HN := hide hn
  rw [← hn] at hv hsl
  have HV : Hid (∀ W, Below w.heap.size w W → W.cell? ⟨rb, 0, none⟩ = some (.slice a n c)) := hide (fun W hW => keptQ hW hv)
  have HSl := hide hsl
  have hnm : n ≤ 1000 := by have := hok.n; omega
  have HO0 : Hid (StR w w.heap.size (.slice none 0 0) (((Bs.take 0).map (·.s)).foldl insD [])) := hide (StR.nil _ _)
  have HB0 : Hid (Below w.heap.size w w) := hide (Below.refl _ _)
  clear hok hv hsl hn
  go_enter Try.func30, Try.ntmps30
  go_wp2_with fail
  go_loopw [3, 4, 5, 6, 7] (fun v i _ _ _ W => ∃ (j : Nat) (ra : Option Addr) (rn rc : Nat) (L : List (List UInt8)), j ≤ n ∧ v = .slice ra rn rc ∧ i = .int .i64 (j : Int) ∧ Hid (L = ((Bs.take j).map (·.s)).foldl insD [] ∧ L.length ≤ j) ∧ Hid (StR W w.heap.size (.slice ra rn rc) L) ∧ Hid (Below w.heap.size w W)) (fun _ i _ _ _ _ => n - (intOf i).toNat)
  case atStart => exact ⟨0, none, 0, 0, _, by omega, rfl, rfl, hide ⟨rfl, by simp⟩, HO0, HB0⟩
  case round =>
    clear HO0 HB0
    obtain ⟨j, ra, rn, rc, L, hj, rfl, rfl, HL, HO, HB⟩ := hrel
    have v0 := unhide HV wr (unhide HB)
    by_cases hlt : j < n
    · obtain ⟨b, hb⟩ : ∃ b, Bs[j]? = some b := ⟨_, List.getElem?_eq_getElem (by have := unhide HN; omega)⟩
      obtain ⟨g, off, rfl, _, c0, _⟩ := (unhide HSl).at hb
      have HTk : Hid (((Bs.take (j + 1)).map (·.s)).foldl insD [] = insD L b.s) := hide (by
        rw [List.take_add_one, hb, Option.toList_some, List.map_append, List.foldl_append, ← (unhide HL).1]; rfl)
      have z0 := keptQ (unhide HB) c0
      obtain ⟨s, hs⟩ : ∃ s, s = b.s := ⟨_, rfl⟩
      rw [← hs] at HTk z0
      have hji : (j : Int) < (n : Int) := by omega
      have hj0 : ¬ (j : Int) < 0 := by omega
      have hrn : rn = L.length := by obtain ⟨_, _, e, _⟩ := (unhide HO).sl; cases e; rfl
      have HRn := hide hrn
      have hLn : rn ≤ 1000 := by have := (unhide HL).2; omega
      clear hb c0 hs hrn
      go_wp2_with fail
      go_loopw [6] (fun i W => ∃ (k : Nat), k ≤ rn ∧ i = .int .i64 (k : Int) ∧ Hid (∀ i x, i < k → L[i]? = some x → Op.bytesLess x s = true) ∧ Hid (W = wr)) (fun i _ => rn - (intOf i).toNat)
      case atStart => exact ⟨0, by omega, rfl, hide (fun i x h => by omega), hide rfl⟩
      case round =>
        obtain ⟨k, hk, rfl, HK, HWe⟩ := hrel
        rename World => W1
        have hwe := unhide HWe
        subst hwe
        rename World => wr
        by_cases hkt : k < rn
        · obtain ⟨y, hy⟩ : ∃ y, L[k]? = some y := ⟨_, List.getElem?_eq_getElem (by have := unhide HRn; omega)⟩
          obtain ⟨g2, hg2⟩ : ∃ g2, ra = some ⟨g2, 0, none⟩ := by
            obtain ⟨_, _, e, h1, _⟩ := (unhide HO).sl
            cases e
            exact h1 (by have := unhide HRn; omega)
          subst hg2
          have c0 := (unhide HO).get.2.2.1 k y hy
          have hki : (k : Int) < (rn : Int) := by omega
          have hk0 : ¬ (k : Int) < 0 := by omega
          cases hlss : Op.bytesLess y s with
          | true =>
            have HK2 : Hid (∀ i x, i < k + 1 → L[i]? = some x → Op.bytesLess x s = true) := hide (fun i x hi hx => by
              by_cases e : i = k
              · subst e; rw [hy] at hx; cases hx; exact hlss
              · exact unhide HK i x (by omega) hx)
            clear hy
            go_wp2_with fail
            go_roundw
            case rel => exact ⟨k + 1, by omega, by go_num, HK2, by first | exact hide rfl | exact hide trivial⟩
            case measure => simp [intOf]; omega
          | false =>
            have hpos : posD s L = k := posD_at (unhide HK) (by have := unhide HRn; omega) (fun x hx => by rw [hy] at hx; cases hx; exact hlss)
            by_cases hys : y = s
            · have HIns : Hid (insD L s = L) := hide (by unfold insD; rw [hpos, if_pos (by rw [hy, hys])])
              subst hys
              clear hy hpos
              go_wp2_with fail
              go_roundw
              case rel => exact ⟨j + 1, _, _, _, L, by omega, rfl, by go_num, hide ⟨(unhide HIns).symm.trans (unhide HTk).symm, by have := (unhide HL).2; omega⟩, HO, HB⟩
              case measure => simp [intOf]; omega
            · have HIns : Hid (insD L s = L.take k ++ [s] ++ L.drop k) := hide (by unfold insD; rw [hpos, if_neg (fun q => hys (by rw [hy] at q; exact Option.some.inj q))])
              have hne : (y == s) = false := by simpa using hys
              have hne2 : (y.toArray.toList == s.toArray.toList) = false := by simpa using hys
              clear hy hpos hys
              have bA : Below wr.heap.size wr (wr.alloc (.cells #[sv s] 9)) := (Below.refl _ _).alloc (Nat.le_refl _) _
              have HBA := hide bA
              have HXA : Hid ((wr.alloc (.cells #[sv s] 9)).heap[wr.heap.size]? = some (.cells #[sv s] 9 (0, 0))) := hide (heap_alloc_self _ _)
              have HLn := hide hLn
              clear bA
              go_upto_region 11 with (at_builtin; refine wpList_append_s1 rfl (.tmp 51) (.tmp 53) rfl w.heap.size _ L rfl ((unhide HO).below (unhide HBA) (Nat.le_refl _)) wr.heap.size s rfl (unhide HXA) (by have := unhide HLn; have := unhide HRn; omega) (by have := (unhide HB).size; have := (unhide HBA).size; omega) ?_; intro v5 w5 o5 b5; obtain ⟨a5, c5, he5, hg5, hc5, hm5⟩ := o5.sl; obtain ⟨g5, hg5⟩ := hg5 (by simp); subst hg5; rw [List.length_append, List.length_singleton, ← unhide HRn] at he5 hc5; subst he5; have HO5 := hide o5; have HB5 := hide (((unhide HB).trans ((unhide HBA).mono (unhide HB).size)).trans b5); clear o5 b5)
              have HO6 : Hid (∃ x, StR w5 w.heap.size (.slice (some ⟨g5, 0, none⟩) (rn + 1) c5) (L.take rn ++ [x] ++ L.drop rn)) := hide ⟨s, by
                rw [List.take_of_length_le (by have := unhide HRn; omega), List.drop_eq_nil_of_le (by have := unhide HRn; omega), List.append_nil]
                exact unhide HO5⟩
              have hge : w.heap.size ≤ g5 := (unhide HO5).get.1
              have i1 : ((rn + 1 : Nat) : Int) = (rn : Int) + 1 := by omega
              clear HO HB HBA HXA HO5
              go_wp2_with fail
              go_loopw [7] (fun i W => ∃ (m : Nat), k ≤ m ∧ m ≤ rn ∧ i = .int .i64 (m : Int) ∧ Hid (∃ x, StR W w.heap.size (.slice (some ⟨g5, 0, none⟩) (rn + 1) c5) (L.take m ++ [x] ++ L.drop m)) ∧ Hid (Below w.heap.size w W)) (fun i _ => (intOf i).toNat)
              case atStart => exact ⟨rn, by omega, by omega, by go_num, HO6, HB5⟩
              case round =>
                clear HO6 HB5
                obtain ⟨m, hkm, hmr, rfl, HO, HB⟩ := hrel
                rename World => W5
                obtain ⟨x, ho⟩ := unhide HO
                obtain ⟨-, -, hcs, hfz⟩ := ho.get
                by_cases hkt : k < m
                · obtain ⟨m', rfl⟩ : ∃ m', m = m' + 1 := ⟨m - 1, by omega⟩
                  have hml : m' < L.length := by have := unhide HRn; omega
                  obtain ⟨y, hy⟩ : ∃ y, L[m']? = some y := ⟨_, List.getElem?_eq_getElem hml⟩
                  have c0 := hcs m' y (by rw [List.append_assoc, List.getElem?_append_left (by rw [List.length_take]; omega), List.getElem?_take_of_lt (by omega)]; exact hy)
                  obtain ⟨z, c1⟩ : ∃ z, W5.cell? ⟨g5, m' + 1, none⟩ = some (sv z) := by
                    have hl : m' + 1 < (L.take (m' + 1) ++ [x] ++ L.drop (m' + 1)).length := by simp only [List.length_append, List.length_take, List.length_drop, List.length_singleton]; omega
                    exact ⟨_, hcs (m' + 1) _ (List.getElem?_eq_getElem hl)⟩
                  have cf := hfz (m' + 1)
                  have HP : Hid (∃ x, StR (W5.setCell ⟨g5, m' + 1, none⟩ (sv y)) w.heap.size (.slice (some ⟨g5, 0, none⟩) (rn + 1) c5) (L.take m' ++ [x] ++ L.drop m')) := hide ⟨y, by
                    have := ho.set (m' + 1) y
                    rwa [shift_set (by omega) hy] at this⟩
                  have HBP : Hid (Below w.heap.size w (W5.setCell ⟨g5, m' + 1, none⟩ (sv y))) := hide ((unhide HB).setCell (p := ⟨g5, m' + 1, none⟩) hge _)
                  have j1 : (k : Int) < ((m' + 1 : Nat) : Int) := by omega
                  have j1' : (k : Int) < (m' : Int) + 1 := by omega
                  have j2 : ((m' + 1 : Nat) : Int) = (m' : Int) + 1 := by omega
                  have j3 : IntKind.i64.wrap ((m' : Int) + 1 - 1) = (m' : Int) := by rw [IntKind.wrap_i64]; omega
                  have j4 : ¬ (m' : Int) < 0 := by omega
                  have j5 : (m' : Int) < (rn : Int) + 1 := by omega
                  have j6 : (m' : Int) + 1 < (rn : Int) + 1 := by omega
                  clear ho hcs hfz hy hml
                  go_wp2_with fail
                  go_roundw
                  case rel => exact ⟨m', by omega, by omega, by go_num, HP, HBP⟩
                  case measure => simp [intOf] <;> omega
                · have hmk : m = k := by omega
                  subst hmk
                  have j1 : ¬ (m : Int) < (m : Int) := by omega
                  have j4 : ¬ (m : Int) < 0 := by omega
                  have j5 : (m : Int) < (rn : Int) + 1 := by omega
                  obtain ⟨z, c1⟩ : ∃ z, W5.cell? ⟨g5, m, none⟩ = some (sv z) := by
                    have hl : m < (L.take m ++ [x] ++ L.drop m).length := by simp only [List.length_append, List.length_take, List.length_drop, List.length_singleton]; have := unhide HRn; omega
                    exact ⟨_, hcs m _ (List.getElem?_eq_getElem hl)⟩
                  have cf := hfz m
                  have HP : Hid (StR (W5.setCell ⟨g5, m, none⟩ (sv s)) w.heap.size (.slice (some ⟨g5, 0, none⟩) (rn + 1) c5) (insD L s)) := hide (by
                    have := ho.set m s
                    rw [last_set (by have := unhide HRn; omega)] at this
                    rw [unhide HIns]
                    exact this)
                  have HBP : Hid (Below w.heap.size w (W5.setCell ⟨g5, m, none⟩ (sv s))) := hide ((unhide HB).setCell (p := ⟨g5, m, none⟩) hge _)
                  clear ho hcs hfz
                  go_wp2_with fail
                  go_roundw
                  case rel => exact ⟨j + 1, _, _, _, insD L s, by omega, rfl, by go_num, hide ⟨(unhide HTk).symm, by have := insD_len L s; have := (unhide HL).2; omega⟩, HP, HBP⟩
                  case measure => simp [intOf]; omega
        · have hkr : k = rn := by omega
          have hki : ¬ (k : Int) < (rn : Int) := by omega
          have hpos : posD s L = k := posD_at (unhide HK) (by have := unhide HRn; omega) (fun x hx => by have := (List.getElem?_eq_some_iff.1 hx).1; have := unhide HRn; omega)
          have HIns : Hid (insD L s = L.take k ++ [s] ++ L.drop k) := hide (by unfold insD; rw [hpos, if_neg (fun q => by have := (List.getElem?_eq_some_iff.1 q).1; have := unhide HRn; omega)])
          have hkr2 : rn ≤ k := by omega
          clear hpos hkr
          have bA : Below wr.heap.size wr (wr.alloc (.cells #[sv s] 9)) := (Below.refl _ _).alloc (Nat.le_refl _) _
          have HBA := hide bA
          have HXA : Hid ((wr.alloc (.cells #[sv s] 9)).heap[wr.heap.size]? = some (.cells #[sv s] 9 (0, 0))) := hide (heap_alloc_self _ _)
          have HLn := hide hLn
          clear bA
          go_upto_region 11 with (at_builtin; refine wpList_append_s1 rfl (.tmp 51) (.tmp 53) rfl w.heap.size _ L rfl ((unhide HO).below (unhide HBA) (Nat.le_refl _)) wr.heap.size s rfl (unhide HXA) (by have := unhide HLn; have := unhide HRn; omega) (by have := (unhide HB).size; have := (unhide HBA).size; omega) ?_; intro v5 w5 o5 b5; obtain ⟨a5, c5, he5, hg5, hc5, hm5⟩ := o5.sl; obtain ⟨g5, hg5⟩ := hg5 (by simp); subst hg5; rw [List.length_append, List.length_singleton, ← unhide HRn] at he5 hc5; subst he5; have HO5 := hide o5; have HB5 := hide (((unhide HB).trans ((unhide HBA).mono (unhide HB).size)).trans b5); clear o5 b5)
          have HO6 : Hid (∃ x, StR w5 w.heap.size (.slice (some ⟨g5, 0, none⟩) (rn + 1) c5) (L.take rn ++ [x] ++ L.drop rn)) := hide ⟨s, by
            rw [List.take_of_length_le (by have := unhide HRn; omega), List.drop_eq_nil_of_le (by have := unhide HRn; omega), List.append_nil]
            exact unhide HO5⟩
          have hge : w.heap.size ≤ g5 := (unhide HO5).get.1
          have i1 : ((rn + 1 : Nat) : Int) = (rn : Int) + 1 := by omega
          clear HO HB HBA HXA HO5
          go_wp2_with fail
          go_loopw [7] (fun i W => ∃ (m : Nat), k ≤ m ∧ m ≤ rn ∧ i = .int .i64 (m : Int) ∧ Hid (∃ x, StR W w.heap.size (.slice (some ⟨g5, 0, none⟩) (rn + 1) c5) (L.take m ++ [x] ++ L.drop m)) ∧ Hid (Below w.heap.size w W)) (fun i _ => (intOf i).toNat)
          case atStart => exact ⟨rn, by omega, by omega, by go_num, HO6, HB5⟩
          case round =>
            clear HO6 HB5
            obtain ⟨m, hkm, hmr, rfl, HO, HB⟩ := hrel
            rename World => W5
            obtain ⟨x, ho⟩ := unhide HO
            obtain ⟨-, -, hcs, hfz⟩ := ho.get
            by_cases hkt : k < m
            · exfalso
              omega
            · have hmk : m = k := by omega
              subst hmk
              have j1 : ¬ (m : Int) < (m : Int) := by omega
              have j4 : ¬ (m : Int) < 0 := by omega
              have j5 : (m : Int) < (rn : Int) + 1 := by omega
              obtain ⟨z, c1⟩ : ∃ z, W5.cell? ⟨g5, m, none⟩ = some (sv z) := by
                have hl : m < (L.take m ++ [x] ++ L.drop m).length := by simp only [List.length_append, List.length_take, List.length_drop, List.length_singleton]; have := unhide HRn; omega
                exact ⟨_, hcs m _ (List.getElem?_eq_getElem hl)⟩
              have cf := hfz m
              have HP : Hid (StR (W5.setCell ⟨g5, m, none⟩ (sv s)) w.heap.size (.slice (some ⟨g5, 0, none⟩) (rn + 1) c5) (insD L s)) := hide (by
                have := ho.set m s
                rw [last_set (by have := unhide HRn; omega)] at this
                rw [unhide HIns]
                exact this)
              have HBP : Hid (Below w.heap.size w (W5.setCell ⟨g5, m, none⟩ (sv s))) := hide ((unhide HB).setCell (p := ⟨g5, m, none⟩) hge _)
              clear ho hcs hfz
              go_wp2_with fail
              go_roundw
              case rel => exact ⟨j + 1, _, _, _, insD L s, by omega, rfl, by go_num, hide ⟨(unhide HTk).symm, by have := insD_len L s; have := (unhide HL).2; omega⟩, HP, HBP⟩
              case measure => simp [intOf]; omega
    · have hji : ¬ (j : Int) < (n : Int) := by omega
      have HX : Hid (StR wr w.heap.size (.slice ra rn rc) (namesD Bs)) := hide (by
        have h1 := (unhide HL).1
        rw [List.take_of_length_le (by have := unhide HN; omega)] at h1
        have := unhide HO
        rw [h1] at this
        exact this)
      go_wp2_with fail
      go_ret
      exact ⟨_, rfl, unhide HX, unhide HB⟩
end Go.Proofs.Ytabcmmhmghgliaa

namespace Go.Proofs.Ytabcmmhmghgliaa
open Go.RowKit
set_option linter.unusedVariables false

def StAtQ (w : World) (b o : Nat) (s : List UInt8) : Prop := w.cell? ⟨b, o, none⟩ = some (sv s)
theorem StR.slq {w : World} {base : Nat} {v : Value} {xs : List (List UInt8)} (h : StR w base v xs) : SlQ 1 StAtQ w v xs := by
  have h0 : w.ownsRow base 9 1 v xs.length (xs.map sv) := h
  rcases h.2 with ⟨e, hz⟩ | ⟨g, cap, cur, e, hb, hg, hn, hm, _⟩
  · exact ⟨none, 0, by rw [e, hz], by omega, by omega, fun q => absurd hz q⟩
  · subst e
    refine ⟨_, cap, rfl, hn, by unfold maxLen at hm; omega, fun _ => ⟨g, 0, rfl, lt_of_block hg, fun i x hx => ?_⟩⟩
    have := h0.cellAt (0 + i * 1) (by have := (List.getElem?_eq_some_iff.1 hx).1; omega)
    refine this.trans ?_
    rw [Nat.zero_add, Nat.mul_one, List.getElem?_map, hx]; rfl

set_option maxRecDepth 20000 in
set_option maxHeartbeats 4000000 in
theorem SameTexts_eq (a a' : Option Addr) (n c n' c' : Nat) (xs : List (List UInt8)) (w : World) (hv : SlQ 1 StAtQ w (.slice a n c) xs) (hv' : SlQ 1 StAtQ w (.slice a' n' c') xs) :
    Calls Try.prog 29 #[.slice a n c, .slice a' n' c'] w fun e w' => e = .returned (.bool true) ∧ Below w.heap.size w w' := by
  obtain ⟨hn, h1, h2⟩ := hv.len
  obtain ⟨hn', h1', h2'⟩ := hv'.len
  obtain rfl : n' = n := by omega
  have HN := hide hn
  have HV := hide hv
  have HV' := hide hv'
  have hnm : n' ≤ 9223372036854775807 := by omega
  have hnc : n' ≤ c := by omega
  have HB0 := hide (Below.refl w.heap.size w)
  clear hv hv' hn hn' h1 h2 h1' h2'
  go_enter Try.func29, Try.ntmps29
  go_wp2_with fail
  go_loopw [5] (fun i W => ∃ (j : Nat), j ≤ n' ∧ i = .int .i64 (j : Int) ∧ Hid (Below w.heap.size w W)) (fun i _ => n' - (intOf i).toNat)
  case atStart => exact ⟨0, by omega, rfl, HB0⟩
  case round =>
    clear HB0
    obtain ⟨j, hj, rfl, HB⟩ := hrel
    by_cases hlt : j < n'
    · obtain ⟨x, hx⟩ : ∃ x, xs[j]? = some x := ⟨_, List.getElem?_eq_getElem (by have := unhide HN; omega)⟩
      obtain ⟨b, off, rfl, _, c0⟩ := (unhide HV).at hx
      obtain ⟨b', off', rfl, _, c0'⟩ := (unhide HV').at hx
      have z0 : wr.cell? ⟨b, off + j, none⟩ = some (sv x) := by have := keptQ (unhide HB) c0; rwa [Nat.mul_one] at this
      have z0' : wr.cell? ⟨b', off' + j, none⟩ = some (sv x) := by have := keptQ (unhide HB) c0'; rwa [Nat.mul_one] at this
      have hki : (j : Int) < (n' : Int) := by omega
      have hk0 : ¬ (j : Int) < 0 := by omega
      have HBd : Hid (∀ nq, Below w.heap.size w (wr.drewN nq)) := hide (fun nq => (unhide HB).trans ((⟨rfl, rfl, rfl, Nat.le_refl _, fun _ _ => rfl⟩ : Below wr.heap.size wr (wr.drewN nq)).mono (unhide HB).size))
      clear hx c0 c0'
      go_wp2
      go_quiet (fail)
      go_wp2
      go_roundw
      case rel => exact ⟨j + 1, by omega, by go_num, hide (unhide HBd _)⟩
      case measure => simp [intOf]; omega
    · have hki : ¬ (j : Int) < (n' : Int) := by omega
      go_wp2_with fail
      go_ret
      exact ⟨rfl, unhide HB⟩
end Go.Proofs.Ytabcmmhmghgliaa
