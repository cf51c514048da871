/-
  DERIVED. The walk of the document's PutFrame.
-/
import Derived.Test.YtoclnnkeabbicaaRefFrame2
namespace Go.Proofs.Ytoclnnkeabbicaa
open Go.RowKit
set_option linter.unusedVariables false

set_option maxHeartbeats 1000000 in
theorem rPutFrame_long (kind : UInt8) (a : Option Addr) (n c : Nat) (d : List UInt8) (w : World) (hd : Sl w (.slice a n c) d) (hl : 2000 < d.length) :
    Calls Try.prog 25 #[.agg #[bv kind, .slice a n c]] w fun e w' => e = .returned (.tuple #[.slice none 0 0, .int .i64 12]) ∧ Below w.heap.size w w' := by
  obtain ⟨a', cap, e, h1, h2, h4⟩ := hd
  cases e
  clear h4
  go_enter Try.func25, Try.ntmps25
  go_wp2
  go_ret2
  exact ⟨rfl, (Below.refl _ _).alloc (Nat.le_refl _) _⟩

theorem rPutUint_some (x : Int) (n : Nat) (w : World) (hn : n ≤ 18446744073709551615) (hx : x = n) :
    Calls Try.prog 38 #[.int .u64 x] w fun e w' => ∃ g cap, e = .returned (.slice (some ⟨g, 0, none⟩) (lay n).length cap) ∧ Own w' w.heap.size (.slice (some ⟨g, 0, none⟩) (lay n).length cap) (lay n) ∧ Below w.heap.size w w' := by
  refine (rPutUint_at x n w hn hx).mono ?_
  rintro e w' ⟨v', rfl, h1, h2⟩
  have h1' := h1
  rcases h1.2 with ⟨rfl, hz⟩ | ⟨g, cap, cur, rfl, _⟩
  · have := (lay_len n).1
    omega
  · exact ⟨_, _, rfl, h1', h2⟩

theorem size_alloc_le (w : World) (o : Obj) : w.heap.size ≤ (w.alloc o).heap.size := by simp
theorem size_from_1 {w w2 : World} {o : Obj} (h : (w.alloc o).drew.heap.size ≤ w2.heap.size) : w.heap.size ≤ w2.heap.size := Nat.le_trans (size_alloc_le w o) h

/-- What stands behind the head's laying. -/
def HeadRel (B : Nat) (w0 : World) (h : List UInt8) (s4 : Value) (wx : World) : Prop := Own wx B s4 h ∧ Below B w0 wx

set_option maxHeartbeats 2000000 in
theorem rPutFrame_ok (kind : UInt8) (a : Option Addr) (n c : Nat) (d : List UInt8) (w : World) (hd : Sl w (.slice a n c) d) (hl : d.length ≤ 2000) :
    Calls Try.prog 25 #[.agg #[bv kind, .slice a n c]] w fun e w' => ∃ v', e = .returned (.tuple #[v', .int .i64 0]) ∧ Own w' w.heap.size v' (frLay kind d) ∧ Below w.heap.size w w' := by
  obtain rfl : n = d.length := by obtain ⟨a', cap, e, _⟩ := hd; cases e; rfl
  have hk := lay_len d.length
  have HD := hide hd
  clear hd
  obtain ⟨ln, hln⟩ : ∃ ln, ln = (lay d.length).length := ⟨_, rfl⟩
  have HLN := hide hln
  rw [← hln] at hk
  clear hln
  go_enter Try.func25, Try.ntmps25
  go_upto_region 3 with fail
  obtain ⟨w0, hw0⟩ : ∃ w0, w0 = w.alloc (.cells #[bv kind, .slice a d.length c] 37) := ⟨_, rfl⟩
  rw [← hw0]
  have s0 : w0.heap.size = w.heap.size + 1 := by rw [hw0]; simp
  have b0 : Below w.heap.size w w0 := by rw [hw0]; exact (Below.refl _ _).alloc (Nat.le_refl _) _
  have c0 : w0.cell? ⟨w.heap.size, 0, none⟩ = some (bv kind) := by rw [hw0]; simp
  have c1 : w0.cell? ⟨w.heap.size, 1, none⟩ = some (.slice a d.length c) := by rw [hw0]; simp
  have HB0 := hide b0
  have hlt0 : w.heap.size < w0.heap.size := by omega
  clear hw0 b0 s0
  have HC := hide (fun o => ((Below.refl w0.heap.size w0).alloc (Nat.le_refl _) o))
  have c0' : ∀ o, (w0.alloc o).cell? ⟨w.heap.size, 0, none⟩ = some (bv kind) := fun o => ((unhide HC o).cell (p := ⟨w.heap.size, 0, none⟩) (by show w.heap.size < w0.heap.size; omega)).trans c0
  have c1' : ∀ o, (w0.alloc o).cell? ⟨w.heap.size, 1, none⟩ = some (.slice a d.length c) := fun o => ((unhide HC o).cell (p := ⟨w.heap.size, 1, none⟩) (by show w.heap.size < w0.heap.size; omega)).trans c1
  have hdl : d.length ≤ 18446744073709551615 := by omega
  have hlen : [kind].length + (lay d.length).length ≤ 140737488355328 := by rw [← unhide HLN]; simp; omega
  have hwr : IntKind.u64.wrap (d.length : Int) = (d.length : Int) := by rw [IntKind.wrap_u64]; omega
  go_cut [4] from 9 to 17 (fun s4 wx => HeadRel w0.heap.size w0 ([kind] ++ lay d.length) s4 wx)
  case first =>
    have mark : True := trivial
    go_region_law (first | (refine step_append_mine rfl (.tmp 11) (.tmp 16) rfl w0.heap.size _ [kind] rfl ?own _ _ _ (lay d.length) rfl ?sl hlen ?hb ?_; (case own => (first | exact Own.below (w := (w0.alloc (.cells #[bv kind] 5)).drew) (own_one w0 kind w0.heap.size (Nat.le_refl _) _ rfl) (unhide HB2) (Nat.le_refl _) | exact own_one w2 kind w0.heap.size hz2 _ rfl)); (case sl => (first | exact (unhide HO2).sl | exact (unhide HO2).sl.alloc _)); (case hb => (first | exact hz2 | exact Nat.le_trans hz2 (size_alloc_le w2 _))); intro v3 w3 own3 b3; have HO3 := hide own3; have HB3 : Hid (Below w0.heap.size w0 w3) := hide (by first | exact (bel_new1 (unhide HB2)).trans b3 | exact ((after_drew (unhide HB2)).alloc hz2 _).trans b3); clear own3 b3) | (go_simp; go_wp2_with (go_at_call 38; refine (rPutUint_some _ d.length _ hdl ?hx).mono ?_; (case hx => (first | with_reducible rfl | omega)); rintro e w2 ⟨g2, cp2, rfl, own2, b2⟩; have HO2 := hide own2; have HB2 := hide b2; have s2 := b2.size; have c02 := fun hh => (b2.cell (p := ⟨w.heap.size, 0, none⟩) hh); have c12 := fun hh => (b2.cell (p := ⟨w.heap.size, 1, none⟩) hh); (try simp [c0, c0', hlt0] at c02); (try simp [c1, c1', hlt0] at c12); have hz2 : w0.heap.size ≤ w2.heap.size := (by first | exact s2 | exact size_from_1 s2); clear own2 b2)))
    all_goals (go_wp2_with fail; go_meet)
    all_goals exact ⟨unhide HO3, unhide HB3⟩
  case rest =>
    obtain ⟨own1, b1⟩ := hcut
    have s1 := b1.size
    have d1 := (b1.cell (p := ⟨w.heap.size, 1, none⟩) hlt0).trans c1
    have HO1 := hide own1
    have HW1 := hide ((unhide HB0).trans (b1.mono (by omega)))
    clear own1 b1 c0 c1 c0' c1'
    go_wp2_with (at_builtin; refine wpList_append_mine rfl (.tmp 18) (.tmp 20) rfl w0.heap.size _ ([kind] ++ lay d.length) rfl (unhide HO1) _ d rfl ((unhide HD).below (unhide HW1) (Nat.le_refl _)) ?hlen ?hbase ?_)
    case hlen => rw [List.length_append, ← unhide HLN]; simp; omega
    case hbase => omega
    intro v3 w3 own3 b3
    have s3 := b3.size
    have bw3 : Below w.heap.size w w3 := (unhide HW1).trans (b3.mono (by omega))
    obtain ⟨body, hbody⟩ : ∃ body, body = [kind] ++ lay d.length ++ d := ⟨_, rfl⟩
    have eb : body = frBody kind d := by rw [hbody]; rfl
    have lb : body.length ≤ 2011 ∧ 1 ≤ body.length := by rw [hbody, List.length_append, List.length_append, ← unhide HLN]; simp; omega
    have own3' : Own w3 w0.heap.size v3 body := by rw [hbody]; simpa using own3
    have HB := hide eb
    have HO3 := hide own3'
    have HW3 := hide bw3
    clear own3 own3' b3 bw3 hbody eb HO1 HW1 d1
    go_wp2_with (go_at_call 42; refine (rSum_any v3 body _ (unhide HO3).sl).mono ?_; rintro e w4 ⟨rfl, rfl⟩)
    refine (rPut32_any _ (crc body) _ (crc_lt body) rfl).mono ?_
    rintro e w5 ⟨v5, rfl, own5, b5⟩
    have HO5 := hide own5
    have HB5 := hide b5
    have s5 := b5.size
    have HS5 := hide (((unhide HO3).below b5 (Nat.le_refl _)).sl)
    clear own5 b5
    go_wp2_with (at_builtin; refine wpList_append_mine rfl (.tmp 24) (.tmp 25) rfl w3.heap.size _ (le4 (crc body)) rfl (unhide HO5) _ body rfl (unhide HS5) ?hlen2 ?hbase2 ?_)
    case hlen2 => simp [le4]; omega
    case hbase2 => omega
    intro v6 w6 own6 b6
    have HO6 : Hid (Own w6 w.heap.size v6 (frLay kind d)) := hide (by
      have := own6.mono (show w.heap.size ≤ w3.heap.size by omega)
      rw [frLay, ← unhide HB]
      exact this)
    have HB6 := hide (((unhide HW3).trans ((unhide HB5).mono (by omega))).trans (b6.mono (show w.heap.size ≤ w3.heap.size by omega)))
    clear own6 b6
    go_wp2
    go_ret2
    exact ⟨_, rfl, unhide HO6, unhide HB6⟩
end Go.Proofs.Ytoclnnkeabbicaa
