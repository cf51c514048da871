/-
  DERIVED. The document's Cut.
-/
import Derived.Test.YtkgepklmhdjjnaaGreatDoorShq
import Derived.BigQuiet
namespace Go.Proofs.YtkgepklmhdjjnaaGreatDoor
open Go.RowKit
set_option linter.unusedVariables false

/-- An append of a text to a slice of one's own. -/
theorem wpList_append_txt {w : World} {ops : Array Oper} {rest : List Oper} {o : Oper} {a : Act} {Q : Exit → Act → World → Prop} (hgd : o.guard = none) (s x : Operand)
    (ho : o.op = .call { callee := .builtin .append, args := #[s, x], argTypes := #[70, 70] })
    (base : Nat) (v : Value) (xs : List (List UInt8)) (hs : a.eval s = v) (hown : SOwn w base v xs) (hl : xs.length ≤ 4398046511000) (hbase : base ≤ w.heap.size)
    (ad : Addr) (c : Nat) (y : List UInt8) (hx : a.eval x = .slice (some ad) 1 c) (hc : w.cell? ad = some (sv y))
    (h : ∀ v' w', SOwn w' base v' (xs ++ [y]) → Below base w w' → wpList Tryz.prog ops Q rest (a.put o.dst v') w') : wpList Tryz.prog ops Q (o :: rest) a w := by
  obtain ⟨i0, hi, hh⟩ := Option.map_eq_some_iff.1 Tryz.infoStr
  simp only [Prod.mk.injEq] at hh
  refine wpList_append_own w hgd s x 70 ho base 9 i0 (.string ⟨#[]⟩) 1 16 Tryz.underlying70 hi hh.1 hh.2.1 hh.2.2 rfl (by decide) v xs.length (xs.map sv) hs hown ad 1 c [sv y] hx rfl (fun j u hj => by
    rcases j with _ | j
    · simp at hj; subst hj; simpa [Addr.add] using hc
    · simp at hj) (fun u hu => by simp at hu; subst hu; rfl) (by unfold maxLen; omega) (by omega) hbase ?_
  intro v' w' ho' hgr _
  refine h v' w' (by simpa [SOwn] using ho') ((Below.refl _ _).grown hgr hbase ?_)
  intro k hk
  rcases hown.2 with ⟨rfl, _⟩ | ⟨g, cap', cur, rfl, hb, _⟩
  · cases hk
  · simp only [Value.ownBlock, Option.some.injEq] at hk; omega

theorem ext_mid (s : List UInt8) (i j : Nat) : (⟨s.toArray⟩ : ByteArray).extract i j = ⟨((s.take j).drop i).toArray⟩ := by
  apply ByteArray.ext
  simp [List.drop_take]

/-- A text ahead of the first part. -/
def pre (p : List UInt8) : List (List UInt8) → List (List UInt8)
  | q :: qs => (p ++ q) :: qs
  | [] => [p]
theorem splitA_ne (c : UInt8) (s : List UInt8) : ∃ q qs, splitA c s = q :: qs := by rw [splitA_cut]; exact ⟨_, _, rfl⟩
theorem pre_nil (c : UInt8) (s : List UInt8) : pre [] (splitA c s) = splitA c s := by
  obtain ⟨q, qs, h⟩ := splitA_ne c s; rw [h]; rfl

/-- Where Cut stands. -/
def CutSt (s : List UInt8) (c : UInt8) (out : List (List UInt8)) (f i : Nat) : Prop :=
  out.length ≤ i ∧ ((i ≤ s.length ∧ f ≤ i ∧ splitA c s = out ++ pre ((s.take i).drop f) (splitA c (s.drop i))) ∨ (i = s.length + 1 ∧ splitA c s = out))
theorem CutSt.start (s : List UInt8) (c : UInt8) : CutSt s c [] 0 0 := ⟨by simp, .inl ⟨by omega, by omega, by simp [pre_nil]⟩⟩
theorem CutSt.last {s : List UInt8} {c : UInt8} {out : List (List UInt8)} {f : Nat} (h : CutSt s c out f s.length) : CutSt s c (out ++ [(s.take s.length).drop f]) (s.length + 1) (s.length + 1) ∧ f ≤ s.length := by
  obtain ⟨h0, ⟨_, h1, h2⟩ | ⟨h1, _⟩⟩ := h
  · refine ⟨⟨by simp; omega, .inr ⟨rfl, ?_⟩⟩, h1⟩
    rw [h2, List.drop_length]
    simp [splitA, pre]
  · omega
theorem CutSt.cut {s : List UInt8} {c : UInt8} {out : List (List UInt8)} {f i : Nat} (h : CutSt s c out f i) (hi : s[i]? = some c) : CutSt s c (out ++ [(s.take i).drop f]) (i + 1) (i + 1) ∧ f ≤ i := by
  obtain ⟨hl, he⟩ := List.getElem?_eq_some_iff.1 hi
  obtain ⟨h0, ⟨_, h1, h2⟩ | ⟨h1, _⟩⟩ := h
  · refine ⟨⟨by simp; omega, .inl ⟨by omega, by omega, ?_⟩⟩, h1⟩
    rw [h2, drop_at hi, splitA, if_pos rfl]
    have e : (s.take (i + 1)).drop (i + 1) = [] := List.drop_eq_nil_of_le (by simp; omega)
    rw [e, pre_nil]
    simp [pre]
  · omega
theorem CutSt.more {s : List UInt8} {c d : UInt8} {out : List (List UInt8)} {f i : Nat} (h : CutSt s c out f i) (hi : s[i]? = some d) (hd : d ≠ c) : CutSt s c out f (i + 1) := by
  obtain ⟨hl, he⟩ := List.getElem?_eq_some_iff.1 hi
  obtain ⟨h0, ⟨_, h1, h2⟩ | ⟨h1, _⟩⟩ := h
  · refine ⟨by omega, .inl ⟨by omega, by omega, ?_⟩⟩
    rw [h2, drop_at hi, splitA, if_neg hd]
    obtain ⟨q, qs, hq⟩ := splitA_ne c (s.drop (i + 1))
    rw [hq]
    have e : (s.take (i + 1)).drop f = (s.take i).drop f ++ [d] := by
      rw [List.take_add_one, hi, List.drop_append_of_le_length (by simp; omega)]
      rfl
    rw [e]
    simp [pre]
  · omega
theorem CutSt.done {s : List UInt8} {c : UInt8} {out : List (List UInt8)} {f i : Nat} (h : CutSt s c out f i) (hi : ¬ i ≤ s.length) : splitA c s = out := by
  obtain ⟨_, ⟨h1, _⟩ | ⟨_, h2⟩⟩ := h
  · exact absurd h1 hi
  · exact h2

theorem cell_str (w : World) (x : Value) : (w.alloc (.cells #[x] 9)).cell? ⟨w.heap.size, 0, none⟩ = some x := by
  rw [cell_of_row _ _ _ _ _ _ (heap_alloc_new _ _)]; rfl

set_option maxHeartbeats 4000000 in
theorem rCut_any (s : List UInt8) (c : UInt8) (w : World) (hs : s.length ≤ 4398046510000) :
    Calls Tryz.prog 41 #[sv s, u8v c] w fun e w' => ∃ v, e = .returned v ∧ SOwn w' w.heap.size v (splitA c s) ∧ Below w.heap.size w w' := by
  have HO : Hid (SOwn w w.heap.size (.slice none 0 0) []) := hide (World.ownsRow_nil _ _ _ _)
  have HB : Hid (Below w.heap.size w w) := hide (Below.refl _ _)
  go_enter Tryz.func41, Tryz.ntmps41
  go_wp2_with fail
  go_loopw [5, 6, 7] (fun b f i wr => ∃ (k m : Nat) (out : List (List UInt8)), k ≤ s.length + 1 ∧ f = .int .i64 m ∧ i = .int .i64 k ∧ Hid (CutSt s c out m k) ∧ Hid (SOwn wr w.heap.size b out) ∧ Hid (Below w.heap.size w wr)) (fun _ _ i _ => s.length + 1 - (intOf i).toNat)
  case atStart => exact ⟨0, 0, [], by omega, rfl, rfl, hide (CutSt.start s c), HO, HB⟩
  case round =>
    obtain ⟨k, m, out, hk, rfl, rfl, HC, HO', HB'⟩ := hrel
    clear HO HB
    have hsz := (unhide HB').size
    have hol := (unhide HC).1
    by_cases hlt : k ≤ s.length
    · have hle : decide ((k : Int) ≤ (s.length : Int)) = true := decide_eq_true (by omega)
      by_cases hend : k = s.length
      · obtain ⟨hc1, hm⟩ := (show CutSt s c out m s.length by have := unhide HC; rwa [hend] at this).last
        rw [← hend] at hc1 hm
        have HC1 := hide hc1
        have e1 : ((k : Int) == (s.length : Int)) = true := by rw [hend]; simp
        obtain ⟨p, hp⟩ : ∃ p, p = (s.take k).drop m := ⟨_, rfl⟩
        rw [← hp] at HC1
        have HX : Hid ((⟨s.toArray⟩ : ByteArray).extract m k = ⟨p.toArray⟩) := hide (by rw [ext_mid, hp])
        have b1 : (0 : Int) ≤ m := by omega
        have b2 : (m : Int) ≤ k := by omega
        have b3 : (k : Int) ≤ s.length := by omega
        clear hc1 hp HC hend
        go_wp2_with (at_builtin; refine wpList_append_txt rfl (.tmp 25) (.tmp 30) rfl w.heap.size _ out rfl ?own (by omega) ?hb ⟨wr.heap.size, 0, none⟩ 1 p rfl ?cl ?_; (case own => exact World.ownsRow.alloc (unhide HO') _); (case hb => simp; omega); (case cl => rw [unhide HX]; exact cell_str wr _); intro v' w1 own1 b1; have HO1 := hide own1; have HB1 := hide (((unhide HB').alloc (unhide HB').size _).trans b1); clear own1 b1)
        go_roundw
        case rel => exact ⟨k + 1, k + 1, out ++ [p], by omega, by go_num, by go_num, HC1, HO1, HB1⟩
        case measure => simp [intOf]; omega
      · have e1 : ((k : Int) == (s.length : Int)) = false := by rw [beq_eq_false_iff_ne]; omega
        obtain ⟨d, hd⟩ : ∃ d, s[k]? = some d := ⟨_, List.getElem?_eq_getElem (by omega)⟩
        have hB := byte_at hd
        have hkl : k < s.length := by omega
        by_cases hdc : d = c
        · subst hdc
          obtain ⟨hc1, hm⟩ := (unhide HC).cut hd
          have HC1 := hide hc1
          have e2 : ((d.toNat : Int) == (d.toNat : Int)) = true := by simp
          obtain ⟨p, hp⟩ : ∃ p, p = (s.take k).drop m := ⟨_, rfl⟩
          rw [← hp] at HC1
          have HX : Hid ((⟨s.toArray⟩ : ByteArray).extract m k = ⟨p.toArray⟩) := hide (by rw [ext_mid, hp])
          have b1 : (0 : Int) ≤ m := by omega
          have b2 : (m : Int) ≤ k := by omega
          have b3 : (k : Int) ≤ s.length := by omega
          clear hc1 hp HC hend hd
          go_wp2_with (at_builtin; refine wpList_append_txt rfl (.tmp 25) (.tmp 30) rfl w.heap.size _ out rfl ?own2 (by omega) ?hb2 ⟨wr.heap.size, 0, none⟩ 1 p rfl ?cl2 ?_; (case own2 => exact World.ownsRow.alloc (unhide HO') _); (case hb2 => simp; omega); (case cl2 => rw [unhide HX]; exact cell_str wr _); intro v' w1 own1 b1; have HO1 := hide own1; have HB1 := hide (((unhide HB').alloc (unhide HB').size _).trans b1); clear own1 b1)
          go_roundw
          case rel => exact ⟨k + 1, k + 1, out ++ [p], by omega, by go_num, by go_num, HC1, HO1, HB1⟩
          case measure => simp [intOf]; omega
        · have HC1 := hide ((unhide HC).more hd hdc)
          have e2 : ((d.toNat : Int) == (c.toNat : Int)) = false := by
            rw [beq_eq_false_iff_ne]
            intro e
            exact hdc (UInt8.toNat_inj.1 (by omega))
          clear HC hend hd hdc
          go_wp2_with fail
          go_roundw
          case rel => exact ⟨k + 1, m, out, by omega, rfl, by go_num, HC1, HO', HB'⟩
          case measure => simp [intOf]; omega
    · have hle : decide ((k : Int) ≤ (s.length : Int)) = false := decide_eq_false (by omega)
      have HF := hide ((unhide HC).done hlt)
      go_wp2_with fail
      go_ret
      refine ⟨_, rfl, ?_, unhide HB'⟩
      rw [unhide HF]
      exact unhide HO'
end Go.Proofs.YtkgepklmhdjjnaaGreatDoor
