/-
  DERIVED. Write, where it writes.
-/
import Derived.Test.YtbgaomfoiooegaaDmk
import Derived.Deep.RegionHeld3
import Derived.Deep.AppendLies
import Derived.Deep.WholeRow
import Derived.Laws.CopyRow
import Derived.Outline
namespace Go.Proofs.Ytbgaomfoiooegaa
open Go.RowKit Go.Maps
set_option linter.unusedVariables false

theorem sizeU8 : (Try.prog.info? 5).map (·.size) = some 1 := by kernel_rfl

/-- A block's copy into a new array. -/
theorem copy_new (w : World) (ty : TypeId) (db off cap : Nat) (L : List UInt8) (hL : L.length = 512) (hlt : db < w.heap.size) (hc : ∀ i, (h : i < L.length) → w.cell? ⟨db, off + i, none⟩ = some (bv L[i])) :
    (Builtin.copy_ #[22, 22] ty #[.slice (some ⟨w.heap.size, 0, none⟩) 512 512, .slice (some ⟨db, off, none⟩) 512 cap]).run Try.prog (w.alloc (.cells (noughts 512) 72)) = .ok (goInt 512) (w.alloc (.cells (L.map bv).toArray 72)) := by
  have hl : (L.map bv).length = 512 := by rw [List.length_map]; exact hL
  have h := run_copy_row (P := Try.prog) (w.alloc (.cells (noughts 512) 72)) 22 22 ty 5 w.heap.size 0 512 512 ⟨db, off, none⟩ 512 cap (noughts 512) 72 (L.map bv) Try.underlying22 sizeU8 (heap_alloc_self w _) hl ?_ (by rw [hl, size_noughts]; exact Nat.le_refl _) (bv_one L)
  · rw [hl] at h
    rw [h, World.setRow_alloc_new]
    have e : ((noughts 512).toList.take 0 ++ L.map bv ++ (noughts 512).toList.drop (0 + 512)) = L.map bv := by
      rw [List.drop_eq_nil_of_le (by rw [Array.length_toList, size_noughts]; omega), List.append_nil]; rfl
    rw [e]
    rfl
  · intro j v hj
    rw [addr_add]
    have hjl : j < L.length := by have := (List.getElem?_eq_some_iff.1 hj).1; simpa using this
    rw [World.cell?_alloc_lt _ _ _ hlt, hc j hjl]
    simpa [hjl] using hj

theorem mark_ne {w : World} {b k : Nat} {A C : Array Value} {s t : TypeId} {p q : Nat × Nat} (h1 : w.heap[b]? = some (.cells A s p)) (h2 : w.heap[k]? = some (.cells C t q)) (hne : s ≠ t) : k ≠ b := by
  rintro rfl
  rw [h1] at h2
  simp only [Option.some.injEq, Obj.cells.injEq] at h2
  exact hne h2.2.1

theorem PendAt.frame' {w w' : World} {F : Nat → Prop} {m g n N : Nat} {pend : Nat → List (List UInt8)} {vf : Nat → Value} {D : DataW Value} (h : PendAt w F m g n N pend vf D) (hm : w'.heap[m]? = w.heap[m]?) (hk : ∀ k q, (vf k).ownBlock = some q → q < w.heap.size → w'.heap[q]? = w.heap[q]?) : PendAt w' F m g n N pend vf D :=
  { h with own := ownsMap_frame h.own hm, rows := fun k => Blks.frame (h.rows k) fun q hq hlt => hk k q hq hlt }

theorem Blks.mark {w : World} {v : Value} {bs : List (List UInt8)} (h : Blks w v bs) {q : Nat} (hq : v.ownBlock = some q) : ∃ cur, w.heap[q]? = some (.cells cur 72 (0, 0)) := by
  rcases h.2 with ⟨rfl, _⟩ | ⟨g, cap, cur, rfl, hb, hg, r⟩
  · cases hq
  · cases hq; exact ⟨cur, hg⟩

/-- The device where only its own six cells have turned. -/
theorem DevIn.turn {w w' : World} {b : Nat} {F : Nat → Prop} {N M : Nat} {S T : St} {g c m : Nat} {vf : Nat → Value} {D : DataW Value} (h : DevIn w b F N S g c m vf D) (ho : Only b w w') (hN : N ≤ M)
    (hd : DevAt w' b (.slice (some ⟨g, 0, none⟩) S.safe.length c) (.map (some m)) T.fused T.fuse T.down T.ops) (hs : T.safe = S.safe) (hp : T.pend = S.pend) (f1 : 0 ≤ T.fuse) (f2 : T.fuse < 9223372036854775808) (o1 : 0 ≤ T.ops) (o2 : T.ops ≤ M) : DevIn w' b F M T g c m vf D := by
  have hne : ∀ q, (∃ cur, w.heap[q]? = some (.cells cur 72 (0, 0))) → q ≠ b := fun q ⟨cur, hq⟩ => mark_ne h.dev hq (by decide)
  have hsm : w'.heap[m]? = w.heap[m]? := ho.other m (by
    rintro rfl
    obtain ⟨es, clock, hb, _⟩ := h.pend.own
    have := h.dev
    unfold DevAt at this
    rw [this] at hb; cases hb)
  have hp2 := (h.pend.frame' hsm fun k q hq _ => ho.other q (hne q ((h.pend.rows k).mark hq))).mono (fun _ hk => hk) hN
  exact { dev := by rw [hs]; exact hd, safe := by rw [hs]; exact Blks.frame h.safe fun q hq _ => ho.other q (hne q (Blks.mark h.safe hq)), wide := by rw [hs]; exact h.wide, pend := by rw [hs, hp]; exact hp2, fb := h.fb, fg := h.fg, fm := h.fm, f1, f2, o1, o2, n1 := by rw [hs]; exact h.n1, n2 := by rw [hs]; exact h.n2 }

/-- A device behind an operation that went, or that did not. -/
def St.burn (S : St) : St := { S with fuse := burnF S.fused S.fuse, down := burnD S.fused S.fuse S.down, ops := burnO S.fused S.fuse S.ops }
theorem burnF_lo (fused : Bool) (fuse : Int) (h : 0 ≤ fuse) : 0 ≤ burnF fused fuse := by
  unfold burnF; cases fused <;> by_cases e : fuse = 0 <;> simp_all; omega
theorem burnF_hi (fused : Bool) (fuse : Int) (h : fuse < 9223372036854775808) : burnF fused fuse < 9223372036854775808 := by
  unfold burnF; split <;> omega
theorem burnO_lo (fused : Bool) (fuse ops : Int) (h : 0 ≤ ops) : 0 ≤ burnO fused fuse ops := by unfold burnO; split <;> omega
theorem burnO_hi (fused : Bool) (fuse ops : Int) (N : Nat) (h : ops ≤ N) : burnO fused fuse ops ≤ ((N + 1 : Nat) : Int) := by unfold burnO; split <;> omega
theorem DevIn.burn {w w' : World} {b : Nat} {F : Nat → Prop} {N : Nat} {S : St} {g c m : Nat} {vf : Nat → Value} {D : DataW Value} (h : DevIn w b F N S g c m vf D) (ho : Only b w w')
    (hd : DevAt w' b (.slice (some ⟨g, 0, none⟩) S.safe.length c) (.map (some m)) S.fused (burnF S.fused S.fuse) (burnD S.fused S.fuse S.down) (burnO S.fused S.fuse S.ops)) : DevIn w' b F (N + 1) S.burn g c m vf D :=
  h.turn ho (Nat.le_succ _) hd rfl rfl (burnF_lo _ _ h.f1) (burnF_hi _ _ h.f2) (burnO_lo _ _ _ h.o1) (burnO_hi _ _ _ _ h.o2)

/-- Pending writes behind one more. -/
def putP (pend : Nat → List (List UInt8)) (k : Nat) (L : List UInt8) : Nat → List (List UInt8) := fun j => if j = k then pend k ++ [L] else pend j
def St.wrote (S : St) (k : Nat) (L : List UInt8) : St := { S with pend := putP S.pend k L }

/-- The map's store behind the append: all that the pending writes are. -/
theorem PendAt.put {w w1 w2 : World} {F : Nat → Prop} {m g n N : Nat} {pend : Nat → List (List UInt8)} {vf : Nat → Value} {D : DataW Value} (h : PendAt w F m g n N pend vf D) (k : Nat) (hk : k < n) (L : List UInt8) (hL : L.length = 512) (q cap : Nat)
    (hF : ∀ j, w.heap.size ≤ j → F j) (hg : g < w.heap.size) (hn : n ≤ 512)
    (hnew : Blks w1 (.slice (some ⟨q, 0, none⟩) ((pend k).length + 1) cap) (pend k ++ [L])) (hgr : w.grownBy w1 (vf k).ownBlock) (hat : (vf k).ownBlock = some q ∨ w.heap.size ≤ q)
    (hown : w2.ownsMap Try.prog 3 rawE m (N + 1) (D.put (.int .i64 k) (.held (.slice (some ⟨q, 0, none⟩) ((pend k).length + 1) cap)))) (hgr2 : w1.grownBy w2 (some m)) :
    PendAt w2 F m g n (N + 1) (putP pend k L) (fun j => if j = k then .slice (some ⟨q, 0, none⟩) ((pend k).length + 1) cap else vf j) (D.put (.int .i64 k) (.held (.slice (some ⟨q, 0, none⟩) ((pend k).length + 1) cap))) := by
  have hmap : IsMap D := by obtain ⟨es, clock, _, _, _, e⟩ := h.own; exact ⟨_, e⟩
  have hkl : WideAt.IsKeyLit (.int .i64 (k : Int)) := keyedInt.key (key_int k (by omega))
  have hne : ∀ j : Nat, j ≠ k → (Lit.int .i64 (j : Int)) ≠ .int .i64 (k : Int) := fun j hj e => hj (by injection e with _ e; omega)
  have hltq : ∀ j p, (vf j).ownBlock = some p → p < w.heap.size := fun j p hp => lt_of_block (Blks.mark (h.rows j) hp).choose_spec
  have hm1 : ∀ j p, j ≠ k → (vf j).ownBlock = some p → w2.heap[p]? = w.heap[p]? := fun j p hj hp => by
    have h1 : some p ≠ (vf k).ownBlock := fun e => hj (h.apart j k p hp e.symm)
    have h2 : p ≠ m := by
      rintro rfl
      obtain ⟨cur, hc⟩ := Blks.mark (h.rows j) hp
      obtain ⟨es, clock, hb, _⟩ := h.own
      rw [hc] at hb; cases hb
    exact (hgr2.block p (Nat.lt_of_lt_of_le (hltq j p hp) hgr.size) (by simpa using h2)).trans (hgr.block p (hltq j p hp) h1)
  have hqm : q ≠ m := by
    rintro rfl
    obtain ⟨cur, hc⟩ := Blks.mark hnew rfl
    obtain ⟨es, clock, hb, _⟩ := hown
    rcases hat with hat | hat
    · obtain ⟨cur2, hc2⟩ := Blks.mark (h.rows k) hat
      obtain ⟨es2, clock2, hb2, _⟩ := h.own
      rw [hc2] at hb2; cases hb2
    · have := h.own.lt; omega
  have hq2 : w2.heap[q]? = w1.heap[q]? := hgr2.block q (lt_of_block (Blks.mark hnew rfl).choose_spec) (by simpa using hqm)
  have hqo : ∀ j, j ≠ k → (vf j).ownBlock ≠ some q := fun j hj e => by
    rcases hat with hat | hat
    · exact hj (h.apart j k q e hat)
    · have := hltq j q e; omega
  refine { own := hown, at_ := ?_, has := ?_, rows := ?_, len := ?_, foot := ?_, apart := ?_, wide := ?_, out := ?_ }
  · intro j hj
    by_cases e : j = k
    · subst e
      rw [atKey_put_same hmap hkl, if_pos rfl]
    · rw [atKey_put_other (hne j e), if_neg e]; exact h.at_ j hj
  · intro kl
    by_cases e : kl = .int .i64 (k : Int)
    · subst e
      refine ⟨fun _ => ⟨k, hk, by simp [putP], rfl⟩, fun _ => has_put_same hmap hkl _⟩
    · rw [has_put_other e, h.has]
      constructor
      · rintro ⟨j, h1, h2, rfl⟩
        have hj : j ≠ k := fun e2 => e (by rw [e2])
        exact ⟨j, h1, by simpa [putP, hj] using h2, rfl⟩
      · rintro ⟨j, h1, h2, rfl⟩
        have hj : j ≠ k := fun e2 => e (by rw [e2])
        exact ⟨j, h1, by simpa [putP, hj] using h2, rfl⟩
  · intro j
    by_cases e : j = k
    · subst e
      simp only [putP, if_true]
      exact Blks.frame (by simpa using hnew) fun p hp _ => by cases hp; exact hq2
    · simp only [putP, if_neg e]
      exact Blks.frame (h.rows j) fun p hp _ => hm1 j p e hp
  · intro j
    by_cases e : j = k
    · subst e
      simp only [putP, if_true, List.length_append, List.length_singleton]
      have := h.len j; omega
    · simp only [putP, if_neg e]
      have := h.len j; omega
  · intro j p hp
    by_cases e : j = k
    · subst e
      simp only [if_true] at hp
      cases hp
      rcases hat with hat | hat
      · exact h.foot j q hat
      · exact ⟨hF q hat, show q ≠ g by omega⟩
    · simp only [if_neg e] at hp
      exact h.foot j p hp
  · intro j j' p hp hp'
    by_cases e : j = k
    · by_cases e' : j' = k
      · rw [e, e']
      · simp only [if_neg e'] at hp'
        rw [if_pos e] at hp
        cases hp
        exact absurd hp' (hqo j' e')
    · by_cases e' : j' = k
      · simp only [if_neg e] at hp
        rw [if_pos e'] at hp'
        cases hp'
        exact absurd hp (hqo j e)
      · simp only [if_neg e] at hp
        simp only [if_neg e'] at hp'
        exact h.apart j j' p hp hp'
  · intro j
    by_cases e : j = k
    · subst e
      simp only [putP, if_true]
      exact (h.wide j).snoc hL
    · simp only [putP, if_neg e]
      exact h.wide j
  · intro j hj
    have e : j ≠ k := by omega
    simp only [putP, if_neg e]
    exact h.out j hj

theorem DevAt.no_byte {w : World} {b : Nat} {fl pm : Value} {fused : Bool} {fuse : Int} {down : Bool} {ops : Int} (h : DevAt w b fl pm fused fuse down ops) (o : Nat) (x : UInt8) (hf : ∃ a n c, fl = .slice a n c) (hp : ∃ r, pm = .map r) : w.cell? ⟨b, o, none⟩ ≠ some (bv x) := by
  unfold DevAt at h
  obtain ⟨_, _, _, rfl⟩ := hf
  obtain ⟨_, rfl⟩ := hp
  simp only [World.cell?, h]
  match o with
  | 0 => simp
  | 1 => simp
  | 2 => simp
  | 3 => simp
  | 4 => simp
  | 5 => simp
  | n + 6 => simp

theorem DevIn.ne_map {w : World} {b : Nat} {F : Nat → Prop} {N : Nat} {S : St} {g c m : Nat} {vf : Nat → Value} {D : DataW Value} (h : DevIn w b F N S g c m vf D) : b ≠ m ∧ g ≠ m ∧ g ≠ b := by
  obtain ⟨es, clock, hb, _⟩ := h.pend.own
  obtain ⟨cur, hg⟩ := Blks.mark h.safe rfl
  have hd := h.dev
  unfold DevAt at hd
  refine ⟨?_, ?_, mark_ne hd hg (by decide)⟩
  · rintro rfl; rw [hd] at hb; cases hb
  · rintro rfl; rw [hg] at hb; cases hb

theorem DevIn.wrote {w W3 W4 : World} {b : Nat} {F : Nat → Prop} {N : Nat} {S : St} {g c m : Nat} {vf : Nat → Value} {D : DataW Value} (h : DevIn w b F N S g c m vf D) (k : Nat) (hk : k < S.safe.length) (L : List UInt8) (hL : L.length = 512) (q cap : Nat)
    (hF : ∀ j, w.heap.size ≤ j → F j)
    (hnew : Blks W3 (.slice (some ⟨q, 0, none⟩) ((S.pend k).length + 1) cap) (S.pend k ++ [L])) (hgr : w.grownBy W3 (vf k).ownBlock) (hat : (vf k).ownBlock = some q ∨ w.heap.size ≤ q)
    (hown : W4.ownsMap Try.prog 3 rawE m (N + 1) (D.put (.int .i64 k) (.held (.slice (some ⟨q, 0, none⟩) ((S.pend k).length + 1) cap)))) (hgr2 : W3.grownBy W4 (some m)) :
    Dev W4 b F (N + 1) (S.wrote k L) ∧ Kept F w W4 := by
  obtain ⟨n1, n2, n3⟩ := h.ne_map
  obtain ⟨cur, hcur⟩ := Blks.mark h.safe rfl
  have hgl : g < w.heap.size := lt_of_block hcur
  have hb2 : ∀ j, j < w.heap.size → j ≠ m → some j ≠ (vf k).ownBlock → W4.heap[j]? = w.heap[j]? := fun j h1 h2 h3 =>
    (hgr2.block j (Nat.lt_of_lt_of_le h1 hgr.size) (by simpa using h2)).trans (hgr.block j h1 h3)
  have hbq : some b ≠ (vf k).ownBlock := fun e => by
    obtain ⟨cur, hcur⟩ := Blks.mark (h.pend.rows k) e.symm
    exact mark_ne h.dev hcur (by decide) rfl
  refine ⟨⟨g, c, m, _, _, { h with dev := (hb2 b h.dev.lt n1 hbq).trans h.dev, safe := ?_, pend := h.pend.put k hk L hL q cap hF hgl h.n2 hnew hgr hat hown hgr2, o2 := ?_ }⟩, ?_⟩
  · exact Blks.frame h.safe fun j hj hl => by
      cases hj
      exact hb2 g hgl n2 fun e => (h.pend.foot k g e.symm).2 rfl
  · have := h.o2; show S.ops ≤ ((N + 1 : Nat) : Int); omega
  · refine (Kept.of_grown hgr fun j hj => (h.pend.foot k j hj).1).trans (Kept.of_grown hgr2 fun j hj => ?_)
    cases hj
    exact h.fm

attribute [local go_sem ↓] mkOne_eq
set_option maxRecDepth 100000 in
set_option maxHeartbeats 3200000 in
theorem Write_in {w : World} {b : Nat} {F : Nat → Prop} {N : Nat} {S : St} {g c m : Nat} {vf : Nat → Value} {D : DataW Value} (k : Nat) (L : List UInt8) (v : Value) (h : DevIn w b F N S g c m vf D) (hk : k < S.safe.length) (hd : S.down = false) (hB : burnE S.fused S.fuse = 0)
    (hv : Sl w v L) (hL : L.length = 512) (hN : N < 1000000) (hF : ∀ j, w.heap.size ≤ j → F j) :
    Calls Try.prog 21 #[.pointer (some ⟨b, 0, none⟩), .int .i64 k, v] w fun e w' => e = .returned (.int .i64 0) ∧ Dev w' b F (N + 2) (S.burn.wrote k L) ∧ Kept F w w' := by
  obtain ⟨db, off, cap, rfl, hdb, hcl⟩ : ∃ db off cap, v = .slice (some ⟨db, off, none⟩) 512 cap ∧ db < w.heap.size ∧ ∀ i, (h : i < L.length) → w.cell? ⟨db, off + i, none⟩ = some (bv L[i]) := by
    rcases hv.cases with ⟨rfl, _⟩ | ⟨db, off, cap, rfl, _, _, h1, h2⟩
    · simp at hL
    · exact ⟨db, off, cap, by rw [hL], h1, h2⟩
  have hE : openE S.safe.length S.down k = 0 := by unfold openE; rw [hd, if_neg (by simp), if_pos (by omega)]
  have HD := hide h
  have HC := hide hcl
  clear h hcl hv
  go_enter Try.func21, Try.ntmps21
  go_wp2_with (first | (go_at_call 32; refine (open_dev k (unhide HD).dev).mono ?_; rintro e w' ⟨rfl, rfl⟩; rw [hE]) | fail)
  refine (burn_dev (unhide HD).dev (unhide HD).f1 (unhide HD).f2 (unhide HD).o1 (by have := (unhide HD).o2; omega)).mono ?_
  rintro e w1 ⟨rfl, d1, o1⟩
  rw [hB]
  have H1 := hide ((unhide HD).burn o1 d1)
  have HK := hide (Kept.of_only (F := F) o1 (unhide HD).fb)
  have hsz : w.heap.size ≤ w1.heap.size := Nat.le_of_eq o1.size.symm
  have hcp := fun ty => copy_new w1 ty db off cap L hL (by omega) (fun i hi => by
    by_cases e : db = b
    · subst e
      exact absurd (unhide HC i hi) (DevAt.no_byte (unhide HD).dev _ _ ⟨_, _, _, rfl⟩ ⟨_, rfl⟩)
    · rw [World.cell?_of_block (o1.other _ (by exact e))]; exact unhide HC i hi)
  clear d1 o1
  obtain ⟨cs, hcs⟩ : ∃ cs, cs = L.map bv := ⟨_, rfl⟩
  have hc5 : cs.length = 512 := by rw [hcs, List.length_map]; exact hL
  have h1c : ∀ v ∈ cs, v.oneCell' = true := by rw [hcs]; exact bv_one L
  rw [← hcs] at hcp
  have HCS := hide hcs
  clear hcs
  obtain ⟨w2, hw2⟩ : ∃ w2, w2 = w1.alloc (.cells cs.toArray 72) := ⟨_, rfl⟩
  rw [← hw2] at hcp
  have hB2 : Below w1.heap.size w1 w2 := by rw [hw2]; exact (Below.refl _ _).alloc (Nat.le_refl _) _
  have H2 := hide ((unhide H1).frame (w' := w2) fun j _ hj => hB2.block j hj)
  have hr2 : w2.rangeAt w1.heap.size 0 cs := by
    have := World.rangeAt_of_block (w := w2) (b := w1.heap.size) (C := cs.toArray) (t := 72) (fr := (0, 0)) (by rw [hw2]; exact heap_alloc_self _ _) 0 512
    have e : (cs.toArray.extract 0 (0 + 512)).toList = cs := by simp [← hc5]
    rw [e] at this; exact this
  have HK2 := hide ((unhide HK).trans (Kept.of_below hB2))
  have hs2 : w1.heap.size < w2.heap.size := by rw [hw2]; simp
  clear hw2 hB2
  have c1 := (unhide H2).dev.c1
  have hl : ∀ W : World, W.heap[m]? = w2.heap[m]? → (Instr.lookup 56 (.map (some m)) (.int .i64 k) false).run Try.prog W = .ok (vf k) W := fun W hW =>
    look_of (ownsMap_frame (unhide H2).pend.own hW) k (by have := (unhide H2).n2; have : k < S.safe.length := hk; have : S.safe.length ≤ 512 := (unhide HD).n2; omega) ((unhide H2).pend.at_ k hk)
  have hu := Try.underlying72
  have hi : (Try.prog.info? 72).map (·.size) = some cs.length := by rw [hc5]; exact sizeBlock
  have hmlt := (unhide H2).pend.own.lt
  have hblt := (unhide H2).dev.lt
  have hlA := hl w2.drew rfl
  have hlB := hl (w2.alloc (.cells cs.toArray 72)).drew (Below.heap_alloc _ _ _ hmlt)
  clear hl
  obtain ⟨i0, hi0, hz0, hz1, hz2⟩ := infoBlk
  have hmk := run_mkOne cs hc5
  have hmark : ∀ q, (vf k).ownBlock = some q → q ≠ b ∧ q ≠ w1.heap.size ∧ q ≠ m := fun q hq => by
    obtain ⟨cur, hcur⟩ := Blks.mark ((unhide H2).pend.rows k) hq
    obtain ⟨cur1, hcur1⟩ := Blks.mark ((unhide H1).pend.rows k) hq
    refine ⟨mark_ne (unhide H2).dev hcur (by decide), Nat.ne_of_lt (lt_of_block hcur1), ?_⟩
    rintro rfl
    obtain ⟨es, clock, hb, _⟩ := (unhide H2).pend.own
    rw [hcur] at hb; cases hb
  have HO : Hid (∀ o, ((w2.alloc o).drew).ownsRow 0 72 512 (vf k) (S.pend k).length (cellsOf (S.pend k))) := hide fun o => World.ownsRow.alloc ((unhide H2).pend.rows k) o
  have HS3 : Hid (∀ W3, (w2.alloc (.cells cs.toArray 72)).drew.grownBy W3 (vf k).ownBlock → W3.cell? ⟨b, 1, none⟩ = some (.map (some m)) ∧ W3.rangeAt w1.heap.size 0 cs) := hide fun W3 hg => by
    refine ⟨(hg.cell_far ⟨b, 1, none⟩ (by show b < (w2.alloc _).heap.size; simp; omega) (fun e => (hmark b e.symm).1 rfl)).trans ((World.cell?_alloc_lt _ _ _ hblt).trans c1), fun j v hj => ?_⟩
    exact (hg.cell_far ⟨w1.heap.size, 0 + j, none⟩ (by show w1.heap.size < (w2.alloc _).heap.size; simp; omega) (fun e => (hmark _ e.symm).2.1 rfl)).trans ((World.cell?_alloc_lt _ _ _ hs2).trans (hr2 j v hj))
  have hbm : b ≠ m := by
    rintro rfl
    obtain ⟨es, clock, hb, _⟩ := (unhide H2).pend.own
    have := (unhide H2).dev
    unfold DevAt at this
    rw [this] at hb; cases hb
  have hwm : w1.heap.size ≠ m := by have := (unhide H1).pend.own.lt; omega
  have HU : Hid (∀ (W3 : World) (u : Value), (w2.alloc (.cells cs.toArray 72)).drew.grownBy W3 (vf k).ownBlock → ∃ W4, (Instr.mapUpdate 56 (.map (some m)) (.int .i64 k) u).run Try.prog W3 = .ok () W4 ∧ W4.ownsMap Try.prog 3 rawE m (N + 1 + 1) (D.put (.int .i64 k) (.held u)) ∧ W3.grownBy W4 (some m)) := hide fun W3 u hg =>
    (ownsMap_frame (unhide H2).pend.own ((hg.block m (by show m < (w2.alloc _).heap.size; simp; omega) (fun e => (hmark m e.symm).2.2 rfl)).trans (Below.heap_alloc _ _ _ hmlt))).update keyedInt Try.underlying56 (by unfold maxLen; omega) (key_int k (by have : S.safe.length ≤ 512 := (unhide HD).n2; omega)) rfl
  have hpl : (S.pend k).length ≤ N + 1 := (unhide H1).pend.len k
  go_wp2_with (first | (refine wpList_alloc_block rfl rfl ?_) | fail)
  go_region_held3 (fun w' => w'.cell? ⟨b, 1, none⟩ = some (.map (some m)) ∧ w'.rangeAt w1.heap.size 0 cs)
    (first | exact ⟨c1, hr2⟩ | exact ⟨(World.cell?_alloc_lt _ _ _ hblt).trans c1, World.rangeAt_alloc hr2 _⟩ | exact unhide HS3 _ hgrow | exact ⟨(hmg.cell_far ⟨b, 1, none⟩ (by have := hgrow.size; simp at this; show b < W3.heap.size; omega) (fun e => hbm (Option.some.inj e))).trans (unhide HS3 _ hgrow).1, fun j v hj => (hmg.cell_far ⟨w1.heap.size, 0 + j, none⟩ (by have := hgrow.size; simp at this; show w1.heap.size < W3.heap.size; omega) (fun e => hwm (Option.some.inj e))).trans ((unhide HS3 _ hgrow).2 j v hj)⟩)
    ((refine step_append_lies _ (by rfl) _ _ _ (by rfl) 0 72 i0 _ 512 512 Try.underlying55 hi0 hz0 hz1 hz2 (by rfl) (by omega) (vf k) (S.pend k).length (cellsOf (S.pend k)) (by rfl) (unhide HO _) ⟨w2.heap.size, 0, none⟩ 1 1 cs (by rfl) (by rw [hc5]) (World.news_of_block (cs := cs.toArray) (t := 72) (fr := (0, 0)) (heap_alloc_new w2 _)) h1c (by omega) (by unfold maxLen; omega) (by omega) (Nat.zero_le _) (w2.heap.size + 1) (by simp) ?_; intro gg cap2 W3 hown3 hgrow hat hlt; obtain ⟨W4, hmu, hmo, hmg⟩ := unhide HU W3 (.slice (some ⟨gg, 0, none⟩) ((S.pend k).length + 1) cap2) hgrow))
  all_goals
    have hX : Dev W4 b F (N + 2) (S.burn.wrote k L) ∧ Kept F w W4 := by
      have hb3 : Below w2.heap.size w2 (w2.alloc (.cells cs.toArray 72)).drew := ((Below.refl _ _).alloc (Nat.le_refl _) _).drew
      have h3 := (unhide H2).frame (w' := (w2.alloc (.cells cs.toArray 72)).drew) fun j _ hj => hb3.block j hj
      have e : cellsOf (S.pend k ++ [L]) = cellsOf (S.pend k) ++ cs := by rw [cellsOf_snoc, unhide HCS]
      have hz := (unhide HK2).size
      obtain ⟨r1, r2⟩ := h3.wrote k hk L hL gg cap2 (fun j hj => hF j (by have := hb3.size; omega)) (by show W3.ownsRow 0 72 512 (.slice (some ⟨gg, 0, none⟩) ((S.pend k).length + 1) cap2) (S.pend k ++ [L]).length (cellsOf (S.pend k ++ [L])); rw [e, List.length_append]; exact hown3) hgrow (hat.imp id (fun h => by show (w2.alloc _).heap.size ≤ gg; simp; omega)) hmo hmg
      exact ⟨r1, (unhide HK2).trans ((Kept.of_below hb3).trans r2)⟩
    clear hmu hmo hmg hgrow hown3
    go_wp2
    go_ret
    exact ⟨rfl, hX⟩
end Go.Proofs.Ytbgaomfoiooegaa
