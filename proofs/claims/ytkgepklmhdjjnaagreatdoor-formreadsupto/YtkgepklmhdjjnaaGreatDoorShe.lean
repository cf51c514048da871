/-
  DERIVED. The walks of Escape and Unescape.
-/
import Derived.Test.YtkgepklmhdjjnaaGreatDoorShp
import Derived.Deep.RegionLaw
import Derived.Laws.MakeOwn
import Derived.Deep.Cut
import Derived.Deep.CutRange
namespace Go.Proofs.YtkgepklmhdjjnaaGreatDoor
open Go.RowKit
set_option linter.unusedVariables false

theorem str_of {w : World} {v : Value} {l : List UInt8} (h : Sl w v l) : (convert 78 9 v).run Tryz.prog w = .ok (.string ⟨l.toArray⟩) w := by
  rcases h.cases with ⟨rfl, ao, rfl⟩ | ⟨b, off, cap, rfl, h1, h2, h3, hc⟩
  · cases ao with
    | none => exact run_convert_bytes_nil w 78 5 Tryz.underlying78 Tryz.underlying5 0 0 9 Tryz.underlying9
    | some a => exact run_convert_bytes_back w 78 9 5 a 0 [] Tryz.underlying78 Tryz.underlying5 Tryz.underlying9 (fun j hj => by simp at hj)
  · exact run_convert_bytes_back w 78 9 5 ⟨b, off, none⟩ cap l Tryz.underlying78 Tryz.underlying5 Tryz.underlying9 (fun j hj => by rw [addr_add]; exact hc j hj)

/-- make([]byte, 0, m) -/
theorem make_room (w : World) (m : Nat) (hm : m ≤ 140737488355328) : ∃ o, (Instr.makeSlice 78 (.int .i64 0) (.int .i64 (m : Int))).run Tryz.prog w = .ok (.slice (some ⟨w.heap.size, 0, none⟩) 0 m) (w.alloc o) ∧ Own (w.alloc o) w.heap.size (.slice (some ⟨w.heap.size, 0, none⟩) 0 m) [] := by
  obtain ⟨i, hi, hh⟩ := Option.map_eq_some_iff.1 Tryz.info5
  simp only [Prod.mk.injEq] at hh
  have h := run_make (P := Tryz.prog) w 78 5 i _ Tryz.underlying78 hi hh.1 .i64 .i64 0 m (by omega) (by omega) (by rw [hh.2.2]; omega) (by omega)
  rw [Int.toNat_natCast, hh.2.1, Nat.mul_one] at h
  refine ⟨_, h, ?_⟩
  refine ⟨rfl, .inr ⟨w.heap.size, m, madeCells (Value.int .u8 0).cells m, rfl, Nat.le_refl _, ?_, by simp, by unfold maxLen; omega, ?_, by simp⟩⟩
  · show (w.heap.push _)[w.heap.size]? = _
    simp
  · have := toList_madeCells_one (Value.int .u8 0) m
    have h2 := congrArg List.length this
    simp only [List.length_replicate, Array.length_toList] at h2
    rw [Nat.mul_one]
    exact h2

/-- A step of an append to a slice of one's own, in a region that draws. -/
theorem step_append_mine {ops : Array Oper} {o : Oper} {a : Act} {w : World} {K : Act → World → Prop} {Q : Exit → Act → World → Prop} {E : Prop}
    (hg : o.guard = none) (s x : Operand) (ho : o.op = .call { callee := .builtin .append, args := #[s, x], argTypes := #[78, 78] })
    (base : Nat) (v : Value) (l : List UInt8) (hs : a.eval s = v) (hown : Own w base v l)
    (ad : Addr) (n c : Nat) (m : List UInt8) (hx : a.eval x = .slice (some ad) n c) (hy : Sl w (.slice (some ad) n c) m) (hlen : l.length + m.length ≤ 140737488355328) (hbase : base ≤ w.heap.size)
    (hK : ∀ v' w', Own w' base v' (l ++ m) → Below base w w' → K (a.put o.dst v') w') :
    if Region.wanted o (yielded ops a.tmps) = true then Oper.wp Tryz.prog o a w K Q else E := by
  have hw : Region.wanted o (yielded ops a.tmps) = true := by simp [Region.wanted, hg]
  rw [if_pos hw]
  obtain ⟨i0, hi, hz0, hz1, hz2⟩ := info_parts Tryz.info5
  obtain ⟨ao, cap, e, h1, h2, h4⟩ := hy
  cases e
  have hnews : ∀ j u, (m.map bv)[j]? = some u → w.cell? (ad.add j) = some u := by
    intro j u hj
    rw [List.getElem?_map] at hj
    by_cases hjl : j < m.length
    · rw [List.getElem?_eq_getElem hjl] at hj
      simp only [Option.map_some, Option.some.injEq] at hj
      subst hj
      obtain ⟨b, off, e, _, hc⟩ := h4 (by omega)
      cases e
      rw [addr_add]; exact hc j hjl
    · rw [List.getElem?_eq_none (by omega)] at hj; cases hj
  obtain ⟨v', w', hrun, r1, r2, _⟩ := run_append_own (P := Tryz.prog) w base 78 o.type 5 i0 (.int .u8 0) 1 1 Tryz.underlying78 hi hz0 hz1 hz2 rfl (by decide) v l.length (l.map bv) hown ad m.length c (m.map bv) (by simp) hnews (bv_one m) (by unfold maxLen; omega) (by omega) hbase
  unfold Oper.wp
  simp [execOp, ho, resolve, invoke, builtin, hs, hx, hrun, Result.andThen]
  refine hK v' w' (by simpa [Own] using r1) ((Below.refl _ _).grown r2 hbase ?_)
  intro k hk
  rcases hown.2 with ⟨rfl, _⟩ | ⟨g, cap', cur, rfl, hb, _⟩
  · cases hk
  · simp only [Value.ownBlock, Option.some.injEq] at hk; omega

set_option maxRecDepth 100000 in
theorem and15_facts : ∀ n : Nat, n < 256 → bits BinOp.and IntKind.u8 (n : Int) 15 = ((n % 16 : Nat) : Int) := by decide
theorem and15 (d : UInt8) : bits BinOp.and IntKind.u8 (d.toNat : Int) 15 = ((d.toNat % 16 : Nat) : Int) := and15_facts d.toNat d.toNat_lt
theorem digit_at : ∀ v, v < 16 → ∀ hb : v < (⟨#[48, 49, 50, 51, 52, 53, 54, 55, 56, 57, 65, 66, 67, 68, 69, 70]⟩ : ByteArray).size, (⟨#[48, 49, 50, 51, 52, 53, 54, 55, 56, 57, 65, 66, 67, 68, 69, 70]⟩ : ByteArray)[v]'hb = hexD v := by decide

theorem esc_take {s : List UInt8} {k : Nat} {d : UInt8} (h : s[k]? = some d) : esc (s.take (k + 1)) = esc (s.take k) ++ escB d := by
  rw [List.take_add_one, h]; simp [esc]
theorem escB_plain {d : UInt8} (h : plainB d = true) : escB d = [d] := by simp [escB, h]
theorem escB_other {d : UInt8} (h : plainB d = false) : escB d = [37, hexD (d.toNat / 16), hexD (d.toNat % 16)] := by simp [escB, h]

set_option maxHeartbeats 2000000 in
theorem Escape_any (s : List UInt8) (w : World) (hs : 3 * s.length ≤ 140737488355328) :
    Calls Tryz.prog 15 #[sv s] w fun e w' => e = .returned (sv (esc s)) ∧ Below w.heap.size w w' := by
  obtain ⟨o, mk, own0⟩ := make_room w s.length (by omega)
  have hb0 : Below w.heap.size w (w.alloc o) := (Below.refl _ _).alloc (Nat.le_refl _) o
  have HO := hide own0
  have HB := hide hb0
  obtain ⟨w0, hw0⟩ : ∃ w0, w0 = w.alloc o := ⟨_, rfl⟩
  rw [← hw0] at mk HO HB
  clear own0 hb0 hw0
  go_enter Tryz.func15, Tryz.ntmps15
  go_wp2_with fail
  go_loopw [3, 4, 5, 11] (fun b _ _ i wr => ∃ k : Nat, k ≤ s.length ∧ i = .int .i64 k ∧ Hid (Own wr w.heap.size b (esc (s.take k))) ∧ Hid (Below w.heap.size w wr)) (fun _ _ _ i _ => s.length - (intOf i).toNat)
  case atStart => exact ⟨0, by omega, rfl, HO, HB⟩
  case round =>
    obtain ⟨k, hk, rfl, HO', HB'⟩ := hrel
    clear HO HB mk
    by_cases hlt : k < s.length
    · obtain ⟨d, hd⟩ : ∃ d, s[k]? = some d := ⟨_, List.getElem?_eq_getElem hlt⟩
      have hB := byte_at hd
      have HE := hide (esc_take hd)
      have hlen := esc_length (s.take k)
      rw [List.length_take, Nat.min_eq_left hk] at hlen
      have hdl := d.toNat_lt
      have hsz := (unhide HB').size
      clear hd
      cases hp : plainB d with
      | true =>
        have HP := hide hp
        have HE2 := hide ((unhide HE).trans (congrArg _ (escB_plain hp)))
        clear hp HE
        go_wp2_with (first | (go_at_call 45; refine (plain_any d _).mono ?_; rintro e w' ⟨rfl, rfl⟩; rw [unhide HP]) | (at_builtin; refine wpList_append_mine rfl (.tmp 19) (.tmp 21) rfl w.heap.size _ (esc (s.take k)) rfl ?own _ [d] rfl ?sl ?hl ?hb ?_; (case own => exact World.ownsRow.alloc (unhide HO') _); (case sl => exact Sl.new wr [d] (by simp [maxLen]) (0, 0)); (case hl => simp; omega); (case hb => simp; omega); intro v' w1 own1 b1; have HO1 := hide own1; have HB1 := hide (((unhide HB').alloc (unhide HB').size _).trans b1); clear own1 b1))
        go_roundw
        case rel => exact ⟨k + 1, by omega, by go_num, by rw [unhide HE2]; exact HO1, HB1⟩
        case measure => simp [intOf]; omega
      | false =>
        have HP := hide hp
        have HE2 := hide ((unhide HE).trans (congrArg _ (escB_other hp)))
        clear hp HE
        go_upto_region 8 with (go_at_call 45; refine (plain_any d _).mono ?_; rintro e w' ⟨rfl, rfl⟩; rw [unhide HP])
        obtain ⟨hi, hhi⟩ : ∃ hi, hi = d.toNat / 16 := ⟨_, rfl⟩
        obtain ⟨lo, hlo⟩ : ∃ lo, lo = d.toNat % 16 := ⟨_, rfl⟩
        have q1 : (d.toNat : Int) / 16 = (hi : Int) := by omega
        have q2 : bits BinOp.and IntKind.u8 (d.toNat : Int) 15 = (lo : Int) := by rw [and15, hlo]
        have q3 : hi < 16 := by omega
        have q4 : lo < 16 := by omega
        rw [← hhi, ← hlo] at HE2
        clear hhi hlo
        have q3' : (hi : Int) < 16 := by omega
        have q4' : (lo : Int) < 16 := by omega
        have q5 := digit_at hi q3
        have q6 := digit_at lo q4
        go_region_law (first | (refine step_append_mine rfl (.tmp 23) (.tmp 30) rfl w.heap.size _ (esc (s.take k)) rfl ?own _ _ _ [37, hexD hi, hexD lo] rfl ?sl ?hl ?hb ?_; (case own => exact World.ownsRow.alloc (unhide HO') _); (case sl => exact Sl.drew (Sl.new wr [37, hexD hi, hexD lo] (by simp [maxLen]) (0, 0))); (case hl => simp; omega); (case hb => simp; omega); intro v' w1 own1 b1; have HO1 := hide own1; have HB1 := hide ((((unhide HB').alloc (unhide HB').size _).drew).trans b1); clear own1 b1))
        all_goals
          go_wp2
          go_roundw
          case rel => exact ⟨k + 1, by omega, by go_num, by rw [unhide HE2]; exact HO1, HB1⟩
          case measure => simp [intOf]; omega
    · have HF : Hid (s.take k = s) := hide (List.take_of_length_le (by omega))
      rw [unhide HF] at HO'
      have cv := str_of (unhide HO').sl
      go_wp2_with fail
      go_ret
      exact ⟨rfl, unhide HB'⟩
end Go.Proofs.YtkgepklmhdjjnaaGreatDoor
