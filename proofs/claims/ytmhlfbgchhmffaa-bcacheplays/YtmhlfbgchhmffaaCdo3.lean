/-
  DERIVED. The law's do, whole.
-/
import Derived.Test.YtmhlfbgchhmffaaCdo2
namespace Go.Proofs.Ytmhlfbgchhmffaa
open Go.RowKit Go.Maps
set_option linter.unusedVariables false

/-- What do comes to. -/
def DoPost (N c b M Z : Nat) (w : World) (e : Ending) (w' : World) : Prop := e = .returned (.bool true) ∧ (∃ L', Two N c b M Z L' (L'.map strip) w') ∧ Below N w w'
theorem DPost.to {N c b M Z : Nat} {L' : List Ii.T} {X' : List It} {w : World} {f : Nat} {args : Array Value} (h : Calls Try.prog f args w (DPost N c b M Z L' X' w)) (e : X' = L'.map strip) : Calls Try.prog f args w (DoPost N c b M Z w) :=
  h.mono (fun _ _ h => ⟨h.1, ⟨L', e ▸ h.2.1⟩, h.2.2⟩)
theorem strip_mid (L1 L2 : List Ii.T) (t : Ii.T) : (L1 ++ t :: L2).map strip = L1.map strip ++ strip t :: L2.map strip := by simp
theorem strip_end (L1 L2 : List Ii.T) (t : Ii.T) : (L1 ++ L2 ++ [t]).map strip = L1.map strip ++ L2.map strip ++ [strip t] := by simp
theorem strip_ne {L : List Ii.T} {k : Int} (h : ∀ t ∈ L, t.k ≠ k) : ∀ x ∈ L.map strip, x.k ≠ k := fun x hx => by
  obtain ⟨t, ht, rfl⟩ := List.mem_map.1 hx
  exact h t ht
theorem strip_p {L : List Ii.T} (h : ∀ t ∈ L, t.p ≠ 0) : ∀ x ∈ L.map strip, x.p ≠ 0 := fun x hx => by
  obtain ⟨t, ht, rfl⟩ := List.mem_map.1 hx
  exact h t ht

theorem do_any (w : World) (N c b M Z : Nat) (L : List Ii.T) (kind k v : Int) (d : Bool) (h : Two N c b M Z L (L.map strip) w) (hk : Ii.good k) (hZ : Z ≤ 900000) :
    Calls Try.prog 10 #[.pointer (some ⟨c, 0, none⟩), .pointer (some ⟨b, 0, none⟩), .agg #[.int .i64 kind, .int .i64 k, .int .i64 v, .bool d]] w (DoPost N c b M (Z + 1) w) := by
  have hM : L.length ≤ M ∧ 1 ≤ M ∧ M ≤ 1024 ∧ (∀ t ∈ L, t.p ≤ Z) ∧ (L.map (·.k)).Nodup := by
    obtain ⟨m, l, n, D, hh⟩ := h.ca
    exact ⟨hh.len, hh.m1, hh.m2, hh.pz, hh.keys⟩
  obtain ⟨hlen, hM1, hM2, hpz, hnd⟩ := hM
  by_cases k1 : kind = 1
  · subst k1
    cases e : Ii.fnd L k with
    | none =>
      have hn := Ii.fnd_none.1 e
      exact DPost.to (do_get w N c b M Z L L (L.map strip) (L.map strip) k v d 0 false h
        (fun W hW _ => (Ii.Get_none W N c M Z L k hW hk e).mono (fun _ _ h => ⟨h.1, h.2.1.mono (Nat.le_succ _), h.2.2⟩))
        (fun W v0 hW _ => rGet_none W N b M v0 _ k hW (strip_ne hn))) rfl
    | some bb =>
      obtain ⟨L1, t, L2, rfl, rfl, rfl, hL1⟩ := Ii.fnd_some e
      exact DPost.to (do_get w N c b M Z _ (L1 ++ L2 ++ [t]) _ (L1.map strip ++ L2.map strip ++ [strip t]) t.k v d t.v true h
        (fun W hW _ => (Ii.Get_some W N c M Z L1 L2 t hW).mono (fun _ _ h => ⟨h.1, h.2.1.mono (Nat.le_succ _), h.2.2⟩))
        (fun W v0 hW hN => rGet_some W N b M v0 (L1.map strip) (L2.map strip) (strip t) (strip_mid L1 L2 t ▸ hW) (strip_ne hL1) hN)) (strip_end L1 L2 t).symm
  by_cases k2 : kind = 2
  · subst k2
    cases e : Ii.fnd L k with
    | some bb =>
      obtain ⟨L1, t, L2, rfl, rfl, rfl, hL1⟩ := Ii.fnd_some e
      exact do_put w N c b M Z _ _ (L1.map strip ++ L2.map strip ++ [(⟨t.k, v, t.d || d, t.p⟩ : It)]) t.k v d 0 0 false false 0 h
        (fun W hW _ => (Ii.Put_there W N c M Z L1 L2 t v d hW).mono (fun _ _ h => ⟨h.1, h.2.1.elim (fun L' hL => ⟨L', hL.1.mono (Nat.le_succ _), by rw [hL.2, strip_end]; rfl⟩), h.2.2⟩))
        (fun W v0 hW hN => rPut_there W N b M v0 (L1.map strip) (L2.map strip) (strip t) v d (strip_mid L1 L2 t ▸ hW) (strip_ne hL1) hN)
    | none =>
      have hn := Ii.fnd_none.1 e
      by_cases hlt : L.length < M
      · exact do_put w N c b M Z L _ (L.map strip ++ [(⟨k, v, d, 0⟩ : It)]) k v d 0 0 false false 0 h
          (fun W hW hN => (Ii.Put_room W N c M Z L k v d hW hk e hlt (by omega) hN).mono (fun _ _ h => ⟨h.1, h.2.1.elim (fun L' hL => ⟨L', hL.1, hL.2.elim (fun bb hb => by rw [hb, List.map_append]; rfl)⟩), h.2.2⟩))
          (fun W v0 hW hN => rPut_room W N b M v0 _ k v d hW (strip_ne hn) (by rw [List.length_map]; exact hlt) hM2 hN)
      · have hM0 : L.length = M := by omega
        cases e2 : Ii.loo L with
        | none =>
          have hp := Ii.loo_none.1 e2
          exact do_put w N c b M Z L _ (L.map strip) k v d 0 0 false false 70 h
            (fun W hW hN => (Ii.Put_full W N c M Z L k v d hW hk e hM0 hp).mono (fun _ _ h => ⟨h.1, h.2.1.elim (fun L' hL => ⟨L', hL.1.mono (Nat.le_succ _), by rw [hL.2]⟩), h.2.2⟩))
            (fun W v0 hW hN => rPut_full W N b M v0 _ k v d hW (strip_ne hn) (by rw [List.length_map]; exact hM0) (strip_p hp) hN)
        | some bb =>
          obtain ⟨L1, t, L2, rfl, hp0, rfl, hL1⟩ := Ii.loo_some e2
          exact do_put w N c b M Z _ _ (L1.map strip ++ L2.map strip ++ [(⟨k, v, d, 0⟩ : It)]) k v d t.k t.v true t.d 0 h
            (fun W hW hN => (Ii.Put_goes W N c M Z L1 L2 t k v d hW hk e hM0 hL1 hp0 (by omega) hN).mono (fun _ _ h => ⟨h.1, h.2.1.elim (fun L' hL => ⟨L', hL.1, hL.2.elim (fun bb hb => by rw [hb, strip_end]; rfl)⟩), h.2.2⟩))
            (fun W v0 hW hN => rPut_goes W N b M v0 (L1.map strip) (L2.map strip) (strip t) k v d (strip_mid L1 L2 t ▸ hW) (strip_mid L1 L2 t ▸ strip_ne hn) (by rw [← strip_mid, List.length_map]; exact hM0) (strip_p hL1) hp0 hN)
  by_cases k3 : kind = 3
  · subst k3
    cases e : Ii.fnd L k with
    | none =>
      have hn := Ii.fnd_none.1 e
      exact DPost.to (do_pin w N c b M Z L L (L.map strip) (L.map strip) k v 71 d h
        (fun W hW => (Ii.Pin_none W N c M Z L k hW hk e).mono (fun _ _ h => ⟨h.1, h.2.1.mono (Nat.le_succ _), h.2.2⟩))
        (fun W v0 hW _ => rDo_none W N b M v0 _ 1 k hW (strip_ne hn))) rfl
    | some bb =>
      obtain ⟨L1, t, L2, rfl, rfl, rfl, hL1⟩ := Ii.fnd_some e
      have hpt := hpz t (by simp)
      exact DPost.to (do_pin w N c b M Z _ (L1 ++ ⟨t.b, t.k, t.v, t.d, t.p + 1⟩ :: L2) _ (L1.map strip ++ (⟨t.k, t.v, t.d, t.p + 1⟩ : It) :: L2.map strip) t.k v 0 d h
        (fun W hW => (Ii.Pin_some W N c M Z L1 L2 t hW (by omega)).mono (fun _ _ h => ⟨h.1, h.2.1, h.2.2⟩))
        (fun W v0 hW hN => rDo_pin W N b M v0 (L1.map strip) (L2.map strip) (strip t) (strip_mid L1 L2 t ▸ hW) (strip_ne hL1) (by show t.p ≤ 1000000; omega) hN)) (by rw [strip_mid]; rfl)
  by_cases k4 : kind = 4
  · subst k4
    cases e : Ii.fnd L k with
    | none =>
      have hn := Ii.fnd_none.1 e
      exact DPost.to (do_unpin w N c b M Z L L (L.map strip) (L.map strip) k v 71 d h
        (fun W hW => (Ii.Unpin_none W N c M Z L k hW hk e).mono (fun _ _ h => ⟨h.1, h.2.1.mono (Nat.le_succ _), h.2.2⟩))
        (fun W v0 hW _ => rDo_none W N b M v0 _ 2 k hW (strip_ne hn))) rfl
    | some bb =>
      obtain ⟨L1, t, L2, rfl, rfl, rfl, hL1⟩ := Ii.fnd_some e
      have hpt := hpz t (by simp)
      by_cases hp0 : t.p = 0
      · exact DPost.to (do_unpin w N c b M Z _ (L1 ++ t :: L2) _ (L1.map strip ++ strip t :: L2.map strip) t.k v 72 d h
          (fun W hW => (Ii.Unpin_zero W N c M Z L1 L2 t hW hp0).mono (fun _ _ h => ⟨h.1, h.2.1.mono (Nat.le_succ _), h.2.2⟩))
          (fun W v0 hW hN => rDo_unpin0 W N b M v0 (L1.map strip) (L2.map strip) (strip t) (strip_mid L1 L2 t ▸ hW) (strip_ne hL1) hp0 hN)) (strip_mid L1 L2 t).symm
      · exact DPost.to (do_unpin w N c b M Z _ (L1 ++ ⟨t.b, t.k, t.v, t.d, t.p - 1⟩ :: L2) _ (L1.map strip ++ (⟨t.k, t.v, t.d, t.p - 1⟩ : It) :: L2.map strip) t.k v 0 d h
          (fun W hW => (Ii.Unpin_some W N c M Z L1 L2 t hW hp0 (by omega)).mono (fun _ _ h => ⟨h.1, h.2.1.mono (Nat.le_succ _), h.2.2⟩))
          (fun W v0 hW hN => rDo_unpin W N b M v0 (L1.map strip) (L2.map strip) (strip t) (strip_mid L1 L2 t ▸ hW) (strip_ne hL1) hp0 (by show t.p ≤ 1000000; omega) hN)) (by rw [strip_mid]; rfl)
  by_cases k5 : kind = 5
  · subst k5
    cases e : Ii.fnd L k with
    | none =>
      have hn := Ii.fnd_none.1 e
      exact DPost.to (do_clean w N c b M Z L L (L.map strip) (L.map strip) k v 71 d h
        (fun W hW => (Ii.Clean_none W N c M Z L k hW hk e).mono (fun _ _ h => ⟨h.1, h.2.1.mono (Nat.le_succ _), h.2.2⟩))
        (fun W v0 hW _ => rDo_none W N b M v0 _ 3 k hW (strip_ne hn))) rfl
    | some bb =>
      obtain ⟨L1, t, L2, rfl, rfl, rfl, hL1⟩ := Ii.fnd_some e
      exact DPost.to (do_clean w N c b M Z _ (L1 ++ ⟨t.b, t.k, t.v, false, t.p⟩ :: L2) _ (L1.map strip ++ (⟨t.k, t.v, false, t.p⟩ : It) :: L2.map strip) t.k v 0 d h
        (fun W hW => (Ii.Clean_some W N c M Z L1 L2 t hW).mono (fun _ _ h => ⟨h.1, h.2.1.mono (Nat.le_succ _), h.2.2⟩))
        (fun W v0 hW hN => rDo_clean W N b M v0 (L1.map strip) (L2.map strip) (strip t) (strip_mid L1 L2 t ▸ hW) (strip_ne hL1) hN)) (by rw [strip_mid]; rfl)
  by_cases k6 : kind = 6
  · subst k6
    cases e : Ii.fnd L k with
    | none =>
      have hn := Ii.fnd_none.1 e
      exact DPost.to (do_drop w N c b M Z L L (L.map strip) (L.map strip) k v 71 d h
        (fun W hW => (Ii.Drop_none W N c M Z L k hW hk e).mono (fun _ _ h => ⟨h.1, h.2.1.mono (Nat.le_succ _), h.2.2⟩))
        (fun W v0 hW _ => rDo_none W N b M v0 _ 4 k hW (strip_ne hn))) rfl
    | some bb =>
      obtain ⟨L1, t, L2, rfl, rfl, rfl, hL1⟩ := Ii.fnd_some e
      by_cases hp0 : t.p = 0
      · exact DPost.to (do_drop w N c b M Z _ (L1 ++ L2) _ (L1.map strip ++ L2.map strip) t.k v 0 d h
          (fun W hW => (Ii.Drop_some W N c M Z L1 L2 t hW hp0).mono (fun _ _ h => ⟨h.1, h.2.1.mono (Nat.le_succ _), h.2.2⟩))
          (fun W v0 hW hN => rDo_drop W N b M v0 (L1.map strip) (L2.map strip) (strip t) (strip_mid L1 L2 t ▸ hW) (strip_ne hL1) hp0 hN)) (by simp)
      · exact DPost.to (do_drop w N c b M Z _ (L1 ++ t :: L2) _ (L1.map strip ++ strip t :: L2.map strip) t.k v 72 d h
          (fun W hW => (Ii.Drop_pin W N c M Z L1 L2 t hW hp0).mono (fun _ _ h => ⟨h.1, h.2.1.mono (Nat.le_succ _), h.2.2⟩))
          (fun W v0 hW hN => rDo_drop1 W N b M v0 (L1.map strip) (L2.map strip) (strip t) (strip_mid L1 L2 t ▸ hW) (strip_ne hL1) hp0 hN)) (strip_mid L1 L2 t).symm
  have up : ∀ {e w'}, DPost N c b M Z L (L.map strip) w e w' → DoPost N c b M (Z + 1) w e w' := fun h => ⟨h.1, ⟨L, ⟨h.2.1.ca.mono (Nat.le_succ _), h.2.1.rc, h.2.1.sz⟩⟩, h.2.2⟩
  by_cases k7 : kind = 7
  · subst k7
    exact (do_asked w N c b M Z L k v d h).mono (fun _ _ h => up h)
  · exact (do_nothing w N c b M Z L kind k v d h (by simpa using k1) (by simpa using k2) (by simpa using k3) (by simpa using k4) (by simpa using k5) (by simpa using k6) (by simpa using k7)).mono (fun _ _ h => up h)
end Go.Proofs.Ytmhlfbgchhmffaa
