/-
  DERIVED. The walks of lent, held, Pick.
-/
import Derived.Test.YtkikfdbjfhgfoaaAwake
namespace Go.Proofs.Ytkikfdbjfhgfoaa
open Go.RowKit

/-- Bytes with the owner's marks behind them. -/
def Lent (w : World) (base : Nat) (v : Value) (l : List UInt8) : Prop :=
  ∃ g cap, v = .slice (some ⟨g, 0, none⟩) l.length cap ∧ l.length + 3 ≤ cap ∧ Own w base (.slice (some ⟨g, 0, none⟩) (l.length + 3) cap) (l ++ [77, 77, 77])

theorem Lent.below {B base : Nat} {w w' : World} {v : Value} {l : List UInt8} (h : Lent w base v l) (hb : Below B w w') (hB : w.heap.size ≤ B) : Lent w' base v l := by
  obtain ⟨g, cap, e, h1, h2⟩ := h
  exact ⟨g, cap, e, h1, h2.below hb hB⟩

theorem Own.at {w : World} {base g n cap : Nat} {l : List UInt8} (h : Own w base (.slice (some ⟨g, 0, none⟩) n cap) l) : n = l.length ∧ l.length ≤ cap ∧ cap ≤ 9223372036854775807 ∧ base ≤ g ∧ g < w.heap.size ∧ (∀ i, (h : i < l.length) → w.cell? ⟨g, 0 + i, none⟩ = some (bv l[i])) ∧ (∀ i, w.frozen? ⟨g, i, none⟩ = false) := by
  have hs := h.sl
  rcases h.2 with ⟨e, _⟩ | ⟨g', cap', cur, e, hb, hg, hn, hm, hsz, ht⟩
  · cases e
  · cases e
    have hg2 := lt_of_block hg
    unfold maxLen at hm
    have a3 : ∀ i, (h : i < l.length) → w.cell? ⟨g, 0 + i, none⟩ = some (bv l[i]) := by
      intro i hi
      rcases hs.cases with ⟨rfl, _⟩ | ⟨b, off, c, e, _, _, _, hc⟩
      · simp at hi
      · cases e; exact hc i hi
    exact ⟨rfl, hn, by omega, hb, hg2, a3, fun i => by simp [World.frozen?, hg]⟩

theorem Lent.sl {w : World} {base : Nat} {v : Value} {l : List UInt8} (h : Lent w base v l) : Sl w v l := by
  obtain ⟨g, cap, rfl, h1, h2⟩ := h
  obtain ⟨_, a1, a2, a3, a4, a5, _⟩ := h2.at
  exact Sl.mk g 0 cap l a4 (by omega) a2 (fun i hi => by
    have := a5 i (by simp; omega)
    rw [this]
    simp [List.getElem_append_left hi])

theorem Own.set {w : World} {base g n cap : Nat} {l : List UInt8} (h : Own w base (.slice (some ⟨g, 0, none⟩) n cap) l) (i : Nat) (c : UInt8) : Own (w.setCell ⟨g, i, none⟩ (bv c)) base (.slice (some ⟨g, 0, none⟩) n cap) (l.set i c) := by
  obtain rfl := h.at.1
  have := World.ownsRow.stored h i (bv c)
  unfold Own
  rw [List.length_set, List.map_set]
  exact this.1

theorem Lent.set {w : World} {base g cap : Nat} {l : List UInt8} (h : Lent w base (.slice (some ⟨g, 0, none⟩) l.length cap) l) (i : Nat) (hi : i < l.length) (c : UInt8) : Lent (w.setCell ⟨g, i, none⟩ (bv c)) base (.slice (some ⟨g, 0, none⟩) l.length cap) (l.set i c) := by
  obtain ⟨g', cap', e, h1, h2⟩ := h
  cases e
  refine ⟨g, cap, by rw [List.length_set], by rw [List.length_set]; exact h1, ?_⟩
  have := h2.set i c
  rw [List.set_append_left _ _ hi] at this
  rw [List.length_set]
  exact this

theorem Lent.at {w : World} {base g cap : Nat} {l : List UInt8} (h : Lent w base (.slice (some ⟨g, 0, none⟩) l.length cap) l) : l.length + 3 ≤ cap ∧ cap ≤ 9223372036854775807 ∧ base ≤ g ∧ g < w.heap.size ∧ (∀ i, (h : i < l.length) → w.cell? ⟨g, i, none⟩ = some (bv l[i])) ∧ ∀ i, w.frozen? ⟨g, i, none⟩ = false := by
  obtain ⟨g', cap', e, h1, h2⟩ := h
  cases e
  obtain ⟨_, a1, a2, a3, a4, a5, a6⟩ := h2.at
  exact ⟨h1, a2, a3, a4, fun i hi => by have := a5 i (by simp; omega); rw [Nat.zero_add, List.getElem_append_left hi] at this; exact this, a6⟩

/-- A byte of which one bit is turned. -/
def flipB (c : UInt8) (j : Nat) : UInt8 := UInt8.ofNat (c.toNat ^^^ 2 ^ j)
theorem pow_lt8 {j : Nat} (h : j < 8) : 2 ^ j < 256 := Nat.pow_lt_pow_right (by decide) h
theorem flipB_toNat (c : UInt8) {j : Nat} (h : j < 8) : (flipB c j).toNat = c.toNat ^^^ 2 ^ j := by
  have : c.toNat ^^^ 2 ^ j < 256 := Nat.xor_lt_two_pow (n := 8) c.toNat_lt (pow_lt8 h)
  unfold flipB
  simp only [UInt8.toNat_ofNat']
  omega
theorem flipB_ne (c : UInt8) {j : Nat} (h : j < 8) : flipB c j ≠ c := by
  intro e
  have h1 := congrArg UInt8.toNat e
  rw [flipB_toNat c h] at h1
  have h2 := congrArg (c.toNat ^^^ ·) h1
  simp only [← Nat.xor_assoc, Nat.xor_self, Nat.zero_xor] at h2
  have := Nat.two_pow_pos j
  omega
theorem flip_bits (c : UInt8) (k : Nat) : bits BinOp.xor IntKind.u8 (c.toNat : Int) (2 ^ (k % 8) % 256) = ((flipB c (k % 8)).toNat : Int) := by
  have hj : k % 8 < 8 := Nat.mod_lt _ (by decide)
  have e : ((2 : Int) ^ (k % 8) % 256) = ((2 ^ (k % 8) : Nat) : Int) := by
    have := pow_lt8 hj
    have e2 : ((2 ^ (k % 8) : Nat) : Int) = (2 : Int) ^ (k % 8) := by rw [Int.natCast_pow]; rfl
    rw [← e2]
    obtain ⟨p, hp⟩ : ∃ p, p = 2 ^ (k % 8) := ⟨_, rfl⟩
    rw [← hp] at this ⊢
    omega
  rw [e, xor_u8 _ _ c.toNat_lt (pow_lt8 hj), flipB_toNat c hj]

set_option maxHeartbeats 1000000 in
theorem lent_any (v : Value) (l : List UInt8) (w : World) (hv : Sl w v l) (hl : l.length + 3 ≤ 140737488355328) :
    Calls Try.prog 6 #[v] w fun e w' => ∃ g cap, e = .returned (.slice (some ⟨g, 0, none⟩) l.length cap) ∧ Lent w' w.heap.size (.slice (some ⟨g, 0, none⟩) l.length cap) l ∧ Below w.heap.size w w' := by
  obtain ⟨ao, cp, rfl, h1, h2, h4⟩ := id hv
  unfold maxLen at h2
  have HV := hide hv
  clear h4 hv
  go_enter Try.func6, Try.ntmps6
  go_wp2_with (at_builtin; refine wpList_append_mine rfl (.tmp 4) (.tmp 5) rfl w.heap.size _ [] rfl ?hown _ l rfl ?hy ?hlen ?hbase ?_)
  case hown => exact World.ownsRow_lit w #[] 0 (Nat.le_refl _) (by simp [maxLen]) rfl
  case hy => exact (unhide HV).alloc _
  case hlen => simp; omega
  case hbase => simp
  intro v1 w1 own1 b1
  have own1' : Own w1 w.heap.size v1 l := own1
  have HO1 := hide own1'
  have HB1 := hide (((Below.refl w.heap.size w).alloc (Nat.le_refl _) _).trans b1)
  have s1 : w.heap.size ≤ w1.heap.size := (unhide HB1).size
  clear own1 own1' b1
  go_wp2_with (at_builtin; refine wpList_append_mine rfl (.tmp 6) (.tmp 7) rfl w.heap.size _ l rfl ?hown2 _ [77, 77, 77] rfl ?hy2 ?hlen2 ?hbase2 ?_)
  case hown2 => exact (unhide HO1).alloc _
  case hy2 => exact Sl.new w1 [77, 77, 77] (by simp [maxLen]) (0, 0)
  case hlen2 => simp; omega
  case hbase2 => simp; omega
  intro v2 w2 own2 b2
  have HB2 := hide (((unhide HB1).alloc s1 _).trans b2)
  have own2' := own2
  obtain ⟨g, cap, hv2, hcap⟩ : ∃ g cap, v2 = .slice (some ⟨g, 0, none⟩) (l.length + 3) cap ∧ l.length + 3 ≤ cap := by
    rcases own2.2 with ⟨_, hz⟩ | ⟨g, cap, cur, e, _, _, hn, _⟩
    · simp at hz
    · simp at e hn; exact ⟨g, cap, e, hn⟩
  rw [hv2] at own2' ⊢
  have hcm := own2'.at.2.2.1
  have HL : Hid (Lent w2 w.heap.size (.slice (some ⟨g, 0, none⟩) l.length cap) l) := hide ⟨g, cap, rfl, hcap, own2'⟩
  clear own2 own2' b2 hv2
  go_wp2
  go_ret
  exact ⟨g, cap, rfl, unhide HL, unhide HB2⟩

set_option maxHeartbeats 1000000 in
set_option maxRecDepth 100000 in
theorem held_any (base : Nat) (v vb : Value) (l : List UInt8) (w : World) (hL : Lent w base v l) (hb : Sl w vb l) :
    Calls Try.prog 9 #[v, vb] w fun e w' => e = .returned (.bool true) ∧ w = w' := by
  have q1 := hL.sl.str
  have q2 := hb.str
  obtain ⟨g, cap, rfl, h1, h2⟩ := hL
  obtain ⟨ao, cp, rfl, b1, b2, b4⟩ := hb
  unfold maxLen at b2
  obtain ⟨z0, a1, a2, a3, a4, a5, z1⟩ := h2.at
  have hcp : cp ≤ 9223372036854775807 := by omega
  have hmm : Sl w (.slice (some ⟨g, 0 + l.length, none⟩) 3 (cap - l.length)) [77, 77, 77] := by
    have := Sl.cut g 0 cap (l ++ [77, 77, 77]) a4 a1 a2 a5 l.length 3 (by simp)
    simpa using this
  have q3 := hmm.str
  rw [Nat.zero_add] at q3
  clear hmm h2 b4 a5 a1 z0 z1 b2
  go_enter Try.func9, Try.ntmps9
  go_wp2
  go_ret
  exact ⟨rfl, rfl⟩

end Go.Proofs.Ytkikfdbjfhgfoaa
