/-
  DERIVED. loose, add, remove, put, Put and Get of a cache, at one instance.
-/
import Derived.Test.YtmhlfbgchhmffaaCopsIs
namespace Go.Proofs.Ytmhlfbgchhmffaa.Is
open Go.RowKit Go.Maps Go.Proofs.Ytmhlfbgchhmffaa
set_option linter.unusedVariables false

theorem loose_any (w : World) (N c M Z : Nat) (L : List T) (h : CAt w N c M Z L) : Calls Try.prog 81 #[.pointer (some ⟨c, 0, none⟩)] w fun e w' => e = .returned (ptr (loo L)) ∧ w' = w := by
  have H := hide h
  obtain ⟨m, l, n, D, h⟩ := h
  have c2 := h.c2
  have HL := hide h.ls
  clear h
  by_cases e : L.length = 0
  · have hd : decide (L.length = 0) = true := by simpa using e
    obtain rfl : L = [] := List.eq_nil_of_length_eq_zero e
    go_enter Try.func81, Try.ntmps81
    go_wp2_with fail
    refine (isEmpty_any w N c M Z [] (unhide H)).mono ?_
    rintro e1 w1 ⟨rfl, rfl⟩
    go_wp2
    go_ret
    exact ⟨rfl, rfl⟩
  · have hd : decide (L.length = 0) = false := by simpa using e
    go_enter Try.func81, Try.ntmps81
    go_wp2_with fail
    refine (isEmpty_any w N c M Z L (unhide H)).mono ?_
    rintro e1 w1 ⟨rfl, rfl⟩
    go_wp2_with fail
    refine (first_any w1 l L (unhide HL)).mono ?_
    rintro e1 w2 ⟨rfl, rfl⟩
    go_wp2
    go_ret
    exact ⟨rfl, rfl⟩

theorem lsB_mine {w : World} {N c M Z m l n : Nat} {D : DataW Value} {L : List T} (h : CIn w N c M Z m l n D L) : ∀ k, lsB l L k → N ≤ k ∧ mine w k := by
  rintro k (rfl | ⟨x, hx, rfl⟩)
  · exact ⟨h.nl, _, h.ls.blk, .inr (.inl rfl)⟩
  · obtain ⟨C, hC⟩ := h.ls.seg.blk x hx
    exact ⟨h.nb x hx, _, hC, .inr (.inr rfl)⟩
theorem lsB_c {w : World} {N c M Z m l n : Nat} {D : DataW Value} {L : List T} (h : CIn w N c M Z m l n D L) : ¬ lsB l L c ∧ ¬ lsB l L m := by
  obtain ⟨es, clock, hm, _⟩ := h.own
  have ne : ∀ {a b : Nat} {C C' : Array Value} {t t' : TypeId}, w.heap[a]? = some (.cells C t (0, 0)) → w.heap[b]? = some (.cells C' t' (0, 0)) → t ≠ t' → a ≠ b := by
    rintro a b C C' t t' h1 h2 hne rfl
    have h3 := Option.some.inj (h1.symm.trans h2)
    injection h3 with _ h4 _
    exact hne h4
  constructor
  · rintro (e | ⟨x, hx, e⟩)
    · exact ne h.cb h.ls.blk (by decide) e
    · obtain ⟨C, hC⟩ := h.ls.seg.blk x hx
      exact ne hC h.cb (by decide) e
  · rintro (e | ⟨x, hx, e⟩)
    · rw [e, h.ls.blk] at hm
      cases hm
    · obtain ⟨C, hC⟩ := h.ls.seg.blk x hx
      rw [← e, hC] at hm
      cases hm

theorem own_but {w w' : World} {F : Nat → Prop} {m n : Nat} {D : DataW Value} (h : w.ownsMap Try.prog 3 rawE m n D) (hb : But F w w') (hm : ¬ F m) : w'.ownsMap Try.prog 3 rawE m n D := by
  obtain ⟨es, clock, h1, h2⟩ := h
  exact ⟨es, clock, (hb.block m hm).trans h1, h2⟩

/-- The map alone has turned. -/
theorem fr_map {w w' : World} {m n : Nat} {D : DataW Value} (h : w.ownsMap Try.prog 3 rawE m n D) (hg : w.grownBy w' (some m)) {b : Nat} {C : Array Value} {t : TypeId} {fr : Nat × Nat} (hb : w.heap[b]? = some (.cells C t fr)) : w'.heap[b]? = w.heap[b]? ∧ b ≠ m := by
  obtain ⟨es, clock, hm, _⟩ := h
  have hne : b ≠ m := by
    rintro rfl
    rw [hb] at hm
    cases hm
  exact ⟨hg.block b (lt_of_block hb) (by simpa using hne), hne⟩
theorem Fr.of_map {N : Nat} {w w' : World} {m n : Nat} {D : DataW Value} (h : w.ownsMap Try.prog 3 rawE m n D) (hg : w.grownBy w' (some m)) (hm : N ≤ m) : Fr N w w' := by
  obtain ⟨es, clock, hb, _⟩ := h
  refine ⟨hg.os, hg.tape, hg.output, hg.size, fun k hk hn => hg.block k hk ?_⟩
  rintro e
  cases e
  rcases hn with hn | hn
  · omega
  · exact hn ⟨_, hb, trivial⟩
theorem fnd_snoc {L : List T} {t : T} (hn : fnd L t.k = none) (k : Int) : fnd (L ++ [t]) k = if k = t.k then some t.b else fnd L k := by
  by_cases e : k = t.k
  · subst e
    rw [if_pos rfl]
    exact fnd_mid (L1 := L) (L2 := []) (fnd_none.1 hn)
  · rw [if_neg e]
    unfold fnd
    rw [List.find?_append]
    have : List.find? (fun t => decide (t.k = k)) [t] = none := by simp; exact fun h => e h.symm
    rw [this, Option.or_none]
theorem keys_snoc {L : List T} {t : T} (hk : (L.map (·.k)).Nodup) (hn : fnd L t.k = none) : ((L ++ [t]).map (·.k)).Nodup := by
  rw [List.map_append]
  refine List.nodup_append.2 ⟨hk, by simp, fun a ha b hb => ?_⟩
  obtain ⟨x, hx, rfl⟩ := List.mem_map.1 ha
  simp at hb
  subst hb
  exact fnd_none.1 hn x hx

set_option maxHeartbeats 1000000 in
theorem cadd_keeps (w : World) (N c M Z : Nat) (L : List T) (k : Int) (v : ByteArray) (d : Bool) (h : CAt w N c M Z L) (hk : good k) (hn : fnd L k = none) (hlt : L.length < M) (hZ : Z ≤ 1000000) (hN : N ≤ w.heap.size) :
    Calls Try.prog 80 #[.pointer (some ⟨c, 0, none⟩), .int .i64 k, .string v, .bool d] w fun e w' => e = .returned (.tuple #[]) ∧ CAt w' N c M (Z + 1) (L ++ [⟨w.heap.size, k, v, d, 0⟩]) ∧ Fr N w w' ∧ (∀ b C fr, w.heap[b]? = some (.cells C 125 fr) → (∀ x ∈ L, x.b ≠ b) → w'.heap[b]? = w.heap[b]?) := by
  obtain ⟨m, l, n, D, h⟩ := h
  have c1 := h.c1
  have c2 := h.c2
  have hc := lt_of_block h.cb
  have H := hide h
  have HA := hide ((Below.refl w.heap.size w).alloc (Nat.le_refl _) (.cells #[.int .i64 k, .string v, .bool d, .int .i64 0, .pointer none, .pointer none] 125))
  have h1 : CIn (w.alloc (.cells #[.int .i64 k, .string v, .bool d, .int .i64 0, .pointer none, .pointer none] 125)) N c M Z m l n D L := h.grown (fun k hk _ => (unhide HA).block k hk)
  have H1 := hide h1
  have hm2 := h.m2
  have hlen := h.len
  have hcl : w.cell? ⟨c, 1, none⟩ = some (.map (some m)) := c1
  clear h h1
  go_enter Try.func80, Try.ntmps80
  go_wp2_with fail
  refine (add_any _ l L ⟨w.heap.size, k, v, d, 0⟩ none none (unhide H1).ls (heap_alloc_new _ _) (fun x hx => ?_) (by omega)).mono ?_
  · obtain ⟨C, hC⟩ := (unhide H).ls.seg.blk x hx
    have := lt_of_block hC
    show x.b ≠ w.heap.size
    omega
  rintro e w2 ⟨rfl, a1, a2⟩
  have hF : ¬ lsB l (L ++ [(⟨w.heap.size, k, v, d, 0⟩ : T)]) c ∧ ¬ lsB l (L ++ [(⟨w.heap.size, k, v, d, 0⟩ : T)]) m := by
    obtain ⟨q1, q2⟩ := lsB_c (unhide H)
    have hml := (unhide H).own.lt
    constructor
    · rintro (e | ⟨x, hx, e⟩)
      · exact q1 (.inl e)
      · rcases List.mem_append.1 hx with hx | hx
        · exact q1 (.inr ⟨x, hx, e⟩)
        · simp at hx; subst hx; simp at e; omega
    · rintro (e | ⟨x, hx, e⟩)
      · exact q2 (.inl e)
      · rcases List.mem_append.1 hx with hx | hx
        · exact q2 (.inr ⟨x, hx, e⟩)
        · simp at hx; subst hx; simp at e; omega
  have own2 := own_but (unhide H1).own a2 hF.2
  have cb2 := (a2.block c hF.1).trans (unhide H1).cb
  have d1 : w2.cell? ⟨c, 1, none⟩ = some (.map (some m)) := (cell_of_row _ _ _ _ _ _ cb2).trans rfl
  obtain ⟨w3, hrun, own3, hg3⟩ := own2.update keyed Try.underlying115 (by have := (unhide H).nz; unfold maxLen; omega) (lit_key hk) (val := .pointer (some ⟨w.heap.size, 0, none⟩)) (d := .held (.pointer (some ⟨w.heap.size, 0, none⟩))) (ps := []) rfl
  have hkk : (k == k) = true := by simp
  have HX : Hid (CAt w3 N c M (Z + 1) (L ++ [⟨w.heap.size, k, v, d, 0⟩]) ∧ Fr N w w3 ∧ (∀ b C fr, w.heap[b]? = some (.cells C 125 fr) → (∀ x ∈ L, x.b ≠ b) → w3.heap[b]? = w.heap[b]?)) := hide (by
    have h := unhide H
    have hmap := own2.isMap
    refine ⟨⟨m, l, n + 1, _, (fr_map own2 hg3 cb2).1.trans cb2, a1.kept (fr_map own2 hg3 a1.blk).1 (fun t ht => ?_), own3, fun k' => ?_, keys_snoc h.keys hn, h.nc, h.nm, h.nl, fun t ht => ?_, by simp; omega, h.m1, h.m2, by have := h.nz; omega, fun t ht => ?_, fun t ht => ?_⟩, ?_, fun b C fr hb hx => ?_⟩
    · obtain ⟨C, hC⟩ := a1.seg.blk t ht
      exact (fr_map own2 hg3 hC).1
    · rw [fnd_snoc hn]
      by_cases e : k' = k
      · subst e
        rw [if_pos rfl]
        exact atKey_put_same hmap (lit_is _) _ _
      · rw [if_neg e]
        exact (atKey_put_other (fun e2 => e (lit_inj e2)) _ _).trans (h.at_ k')
    · rcases List.mem_append.1 ht with ht | ht
      · exact h.nb t ht
      · simp at ht; subst ht; exact hN
    · rcases List.mem_append.1 ht with ht | ht
      · have := h.pz t ht; omega
      · simp at ht; subst ht; simp
    · rcases List.mem_append.1 ht with ht | ht
      · exact h.gk t ht
      · simp at ht; subst ht; exact hk
    · refine ((Fr.of_below (unhide HA)).trans (Fr.of_but a2 ?_)).trans (Fr.of_map own2 hg3 h.nm)
      rintro q (rfl | ⟨x, hx, rfl⟩)
      · exact ⟨h.nl, _, (unhide H1).ls.blk, .inr (.inl rfl)⟩
      · rcases List.mem_append.1 hx with hx | hx
        · exact lsB_mine (unhide H1) x.b (.inr ⟨x, hx, rfl⟩)
        · simp at hx; subst hx
          exact ⟨hN, _, heap_alloc_new _ _, .inr (.inr rfl)⟩
    · have e1 := (unhide HA).block b (lt_of_block hb)
      have e2 : w2.heap[b]? = w.heap[b]? := by
        refine (a2.block b ?_).trans e1
        rintro (e | ⟨x, hx2, e⟩)
        · rw [e] at hb
          have h1 := Option.some.inj (hb.symm.trans h.ls.blk)
          injection h1 with _ h2 _
          exact absurd h2 (by decide)
        · rcases List.mem_append.1 hx2 with hx2 | hx2
          · exact hx x hx2 e
          · simp at hx2; subst hx2; simp at e; have := lt_of_block hb; omega
      exact (fr_map own2 hg3 (e2.trans hb)).1.trans e2)
  clear own2 own3 hg3 a1 a2 hF cb2 H H1 HA
  go_wp2
  go_end0
  exact ⟨rfl, unhide HX⟩

theorem cadd_any (w : World) (N c M Z : Nat) (L : List T) (k : Int) (v : ByteArray) (d : Bool) (h : CAt w N c M Z L) (hk : good k) (hn : fnd L k = none) (hlt : L.length < M) (hZ : Z ≤ 1000000) (hN : N ≤ w.heap.size) :
    Calls Try.prog 80 #[.pointer (some ⟨c, 0, none⟩), .int .i64 k, .string v, .bool d] w fun e w' => e = .returned (.tuple #[]) ∧ CAt w' N c M (Z + 1) (L ++ [⟨w.heap.size, k, v, d, 0⟩]) ∧ Fr N w w' :=
  (cadd_keeps w N c M Z L k v d h hk hn hlt hZ hN).mono (fun e w' h => ⟨h.1, h.2.1, h.2.2.1⟩)
theorem fnd_mid_other {L1 L2 : List T} {t : T} {k : Int} (h : k ≠ t.k) : fnd (L1 ++ t :: L2) k = fnd (L1 ++ L2) k := by
  have e : decide (t.k = k) = false := by simpa using fun e => h e.symm
  unfold fnd
  rw [List.find?_append, List.find?_append, List.find?_cons, e]
theorem keys_mid {L1 L2 : List T} {t : T} (h : ((L1 ++ t :: L2).map (·.k)).Nodup) : (∀ x ∈ L1, x.k ≠ t.k) ∧ (∀ x ∈ L2, x.k ≠ t.k) ∧ ((L1 ++ L2).map (·.k)).Nodup := by
  rw [List.map_append, List.map_cons] at h
  obtain ⟨a1, a2, a3⟩ := List.nodup_append.1 h
  have a4 := List.nodup_cons.1 a2
  refine ⟨fun x hx => a3 _ (List.mem_map.2 ⟨x, hx, rfl⟩) _ (by simp), fun x hx e => a4.1 (e ▸ List.mem_map.2 ⟨x, hx, rfl⟩), ?_⟩
  rw [List.map_append]
  exact List.nodup_append.2 ⟨a1, a4.2, fun x hx y hy => a3 x hx y (List.mem_cons_of_mem _ hy)⟩

set_option maxHeartbeats 1000000 in
theorem crem_any (w : World) (N c M Z : Nat) (L1 L2 : List T) (t : T) (h : CAt w N c M Z (L1 ++ t :: L2)) :
    Calls Try.prog 82 #[.pointer (some ⟨c, 0, none⟩), .pointer (some ⟨t.b, 0, none⟩)] w fun e w' => e = .returned (.tuple #[]) ∧ CAt w' N c M Z (L1 ++ L2) ∧ w'.heap[t.b]? = w.heap[t.b]? ∧ Fr N w w' := by
  obtain ⟨m, l, n, D, h⟩ := h
  have c2 := h.c2
  have H := hide h
  have hlen : (L1 ++ t :: L2).length ≤ 65536 := by have := h.len; have := h.m2; omega
  clear h
  go_enter Try.func82, Try.ntmps82
  go_wp2_with fail
  refine (remove_any w l L1 L2 t (unhide H).ls hlen).mono ?_
  rintro e w1 ⟨rfl, a1, a2, a3⟩
  have hsub : ∀ k, lsB l (L1 ++ L2) k → lsB l (L1 ++ t :: L2) k := by
    rintro k (e | ⟨x, hx, e⟩)
    · exact .inl e
    · exact .inr ⟨x, by rcases List.mem_append.1 hx with h | h <;> simp [h], e⟩
  obtain ⟨q1, q2⟩ := lsB_c (unhide H)
  have cb1 := (a3.block c (fun e => q1 (hsub _ e))).trans (unhide H).cb
  have own1 := own_but (unhide H).own a3 (fun e => q2 (hsub _ e))
  have ht1 := a2.trans (unhide H).ls.at
  obtain ⟨t0, _⟩ := cell_t ht1
  have d1 : w1.cell? ⟨c, 1, none⟩ = some (.map (some m)) := (cell_of_row _ _ _ _ _ _ cb1).trans rfl
  have gt : good t.k := (unhide H).gk t (by simp)
  obtain ⟨w2, hrun, own2, hg2⟩ := World.ownsMap.drop (w := w1.drew) own1.drew keyed Try.underlying115 (lit_key gt) 0
  have hg : w1.drew.grownBy w2 (some m) := hg2.grown
  have HX : Hid (CAt w2 N c M Z (L1 ++ L2) ∧ w2.heap[t.b]? = w.heap[t.b]? ∧ Fr N w w2) := hide (by
    have h := unhide H
    obtain ⟨k1, k2, k3⟩ := keys_mid h.keys
    have sub : ∀ x, x ∈ L1 ++ L2 → x ∈ L1 ++ t :: L2 := fun x hx => by rcases List.mem_append.1 hx with h | h <;> simp [h]
    refine ⟨⟨m, l, n, _, (fr_map own1.drew hg cb1).1.trans cb1, a1.kept (fr_map own1.drew hg a1.blk).1 (fun x hx => ?_), own2, fun k' => ?_, k3, h.nc, h.nm, h.nl, fun x hx => h.nb x (sub x hx), ?_, h.m1, h.m2, h.nz, fun x hx => h.pz x (sub x hx), fun x hx => h.gk x (sub x hx)⟩, (fr_map own1.drew hg ht1).1.trans a2, ?_⟩
    · obtain ⟨C, hC⟩ := a1.seg.blk x hx
      exact (fr_map own1.drew hg hC).1
    · by_cases e : k' = t.k
      · subst e
        rw [fnd_none.2 (fun x hx => by
          rcases List.mem_append.1 hx with h | h
          · exact k1 x h
          · exact k2 x h)]
        exact atKey_del_same _
      · rw [← fnd_mid_other e]
        exact (atKey_del_other (fun e2 => e (lit_inj e2)) _).trans (h.at_ k')
    · have := h.len
      simp at this ⊢
      omega
    · refine ((Fr.of_but a3 (fun k hk => lsB_mine h k (hsub k hk))).trans ?_).trans (Fr.of_map own1.drew hg h.nm)
      exact Fr.of_below ((Below.refl _ _).drew))
  clear own1 own2 hg2 hg a1 a2 a3 cb1 ht1 q1 q2 H hsub
  go_wp2
  go_region
  all_goals
    go_wp2
    go_end0
    exact ⟨rfl, unhide HX⟩
end Go.Proofs.Ytmhlfbgchhmffaa.Is
