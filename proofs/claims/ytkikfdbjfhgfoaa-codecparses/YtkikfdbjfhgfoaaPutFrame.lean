/-
  DERIVED. The walk of PutFrame.
-/
import Derived.Test.YtkikfdbjfhgfoaaFrame
namespace Go.Proofs.Ytkikfdbjfhgfoaa
open Go.RowKit

theorem own_one (w : World) (k : UInt8) (base : Nat) (hb : base ≤ w.heap.size) (g : Nat) (hg : w.heap.size = g) : Own (w.alloc (.cells #[bv k] 5)) base (.slice (some ⟨g, 0, none⟩) 1 1) [k] := by
  subst hg
  exact World.ownsRow_lit w #[bv k] 1 hb (by simp [maxLen]) rfl

set_option maxHeartbeats 1000000 in
theorem PutFrame_long (v : Value) (kind : UInt8) (a : Option Addr) (n c : Nat) (d : List UInt8) (w : World) (hd : Sl w (.slice a n c) d) (hl : 2000 < d.length) :
    Calls Try.prog 15 #[v, .agg #[bv kind, .slice a n c]] w fun e w' => e = .returned (.tuple #[.slice none 0 0, .int .i64 12]) ∧ Below w.heap.size w w' := by
  obtain ⟨a', cap, e, h1, h2, h4⟩ := hd
  cases e
  clear h4
  go_enter Try.func15, Try.ntmps15
  go_wp2
  go_ret2
  exact ⟨rfl, (Below.refl _ _).alloc (Nat.le_refl _) _⟩

set_option maxHeartbeats 2000000 in
theorem PutFrame_ok (v : Value) (l : List UInt8) (kind : UInt8) (a : Option Addr) (n c : Nat) (d : List UInt8) (w : World) (hv : Sl w v l) (hd : Sl w (.slice a n c) d) (hl : d.length ≤ 2000) (hll : l.length + 2100 ≤ 140737488355328) :
    Calls Try.prog 15 #[v, .agg #[bv kind, .slice a n c]] w fun e w' => ∃ v', e = .returned (.tuple #[v', .int .i64 0]) ∧ Own w' w.heap.size v' (l ++ frLay kind d) ∧ Below w.heap.size w w' := by
  obtain rfl : n = d.length := by obtain ⟨a', cap, e, _⟩ := hd; cases e; rfl
  have hk := hide (lay_len d.length)
  have HD := hide hd
  have HV := hide hv
  clear hd hv
  go_enter Try.func15, Try.ntmps15
  go_wp2_with fail
  obtain ⟨w1, hw1⟩ : ∃ w1, w1 = (w.alloc (.cells #[bv kind, .slice a d.length c] 44)).alloc (.cells #[bv kind] 5) := ⟨_, rfl⟩
  rw [← hw1]
  have s1 : w1.heap.size = w.heap.size + 2 := by rw [hw1]; simp
  have own1 : Own w1 (w.heap.size + 1) (.slice (some ⟨w.heap.size + 1, 0, none⟩) 1 1) [kind] := by
    rw [hw1]
    exact own_one (w.alloc (.cells #[bv kind, .slice a d.length c] 44)) kind (w.heap.size + 1) (by simp) (w.heap.size + 1) (by simp)
  have b1 : Below w.heap.size w w1 := by
    rw [hw1]; exact ((Below.refl _ _).alloc (Nat.le_refl _) _).alloc (by simp) _
  have c0 : w1.cell? ⟨w.heap.size, 0, none⟩ = some (bv kind) := by rw [hw1, ((Below.refl (w.alloc (.cells #[bv kind, .slice a d.length c] 44)).heap.size _).alloc (Nat.le_refl _) _).cell (by simp)]; simp
  have c1 : w1.cell? ⟨w.heap.size, 1, none⟩ = some (.slice a d.length c) := by rw [hw1, ((Below.refl (w.alloc (.cells #[bv kind, .slice a d.length c] 44)).heap.size _).alloc (Nat.le_refl _) _).cell (by simp)]; simp
  clear hw1
  refine (layUint_at (w.heap.size + 1) _ [kind] _ d.length _ (by omega) (.inl own1) (by simp) (by omega) rfl).mono ?_
  rintro e w2 ⟨v2, rfl, own2, b2⟩
  have s2 := b2.size
  have d1 : w2.cell? ⟨w.heap.size, 1, none⟩ = some (.slice a d.length c) := (b2.cell (p := ⟨w.heap.size, 1, none⟩) (by show w.heap.size < w.heap.size + 1; omega)).trans c1
  have bw2 : Below w.heap.size w w2 := b1.trans (b2.mono (by omega))
  have HO2 := hide own2
  have HB2 := hide b2
  have HW2 := hide bw2
  clear own2 b2 bw2 own1 b1 c0 c1
  go_wp2_with (at_builtin; refine wpList_append_mine rfl (.tmp 19) (.tmp 21) rfl (w.heap.size + 1) _ ([kind] ++ lay d.length) rfl (unhide HO2) _ d rfl ((unhide HD).below (unhide HW2) (Nat.le_refl _)) ?hlen ?hbase ?_)
  case hlen => have := unhide hk; simp; omega
  case hbase => omega
  intro v3 w3 own3 b3
  have s3 := b3.size
  have bw3 : Below w.heap.size w w3 := (unhide HW2).trans (b3.mono (by omega))
  obtain ⟨body, hbody⟩ : ∃ body, body = [kind] ++ lay d.length ++ d := ⟨_, rfl⟩
  have eb : body = frBody kind d := by rw [hbody]; rfl
  have lb : body.length ≤ 2011 ∧ 1 ≤ body.length := by have := unhide hk; rw [hbody]; simp; omega
  have own3' : Own w3 (w.heap.size + 1) v3 body := by rw [hbody]; simpa using own3
  have HB := hide eb
  have HO3 := hide own3'
  have HW3 := hide bw3
  clear own3 own3' b3 bw3 hbody eb HO2 HB2 HW2 d1
  go_wp2_with (go_at_call 19; refine (Sum_any v3 body _ (unhide HO3).sl).mono ?_; rintro e w4 ⟨rfl, b4⟩; have HB4 := hide b4; have s4 := b4.size; clear b4)
  have HW4 := hide ((unhide HW3).trans ((unhide HB4).mono (by omega)))
  refine (Put32_any v l _ (crc body) _ ((unhide HV).below (unhide HW4) (Nat.le_refl _)) (crc_lt body) rfl (by omega)).mono ?_
  rintro e w5 ⟨v5, rfl, own5, b5⟩
  have HO5 := hide own5
  have HB5 := hide b5
  have s5 := b5.size
  have HS5 := hide ((((unhide HO3).below (unhide HB4) (Nat.le_refl _)).below b5 (Nat.le_refl _)).sl)
  clear own5 b5
  go_wp2_with (at_builtin; refine wpList_append_mine rfl (.tmp 26) (.tmp 27) rfl w4.heap.size _ (l ++ le4 (crc body)) rfl (unhide HO5) _ body rfl (unhide HS5) ?hlen2 ?hbase2 ?_)
  case hlen2 => simp [le4]; omega
  case hbase2 => omega
  intro v6 w6 own6 b6
  have HO6 : Hid (Own w6 w.heap.size v6 (l ++ frLay kind d)) := hide (by
    have := own6.mono (show w.heap.size ≤ w4.heap.size by omega)
    rw [frLay, ← unhide HB]
    simpa using this)
  have HB6 := hide (((unhide HW4).trans ((unhide HB5).mono (by omega))).trans (b6.mono (show w.heap.size ≤ w4.heap.size by omega)))
  clear own6 b6
  go_wp2
  go_ret2
  exact ⟨_, rfl, unhide HO6, unhide HB6⟩
end Go.Proofs.Ytkikfdbjfhgfoaa
